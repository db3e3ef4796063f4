/- What the law rests on: part 25. -/
import Derived.Test.YtekeoljfdnfbgaaGreatPu24
set_option linter.unusedVariables false
namespace Go.Proofs.YtekeoljfdnfbgaaGreat
set_option maxRecDepth 100000
open Go.RowKit
structure Tsd (w0 w : World) (P : Nat → Prop) (d p : Value) (X : XSt) (S : List Int) (N : List (List Int)) (O : List (Int × Int)) (kk bf : Nat) : Prop where
  inv : SInv w P d p X
  wi : X.wi = false
  fu : X.ds.fu = false
  has : Has X.is O kk
  ok : OOk O kk
  tab : Tab X.is S N
  fs : FsAt w bf p
  nb : ¬ P bf
  bN : w0.heap.size ≤ bf
  pN : ∀ x, P x → w0.heap.size ≤ x
  be : Below w0.heap.size w0 w
structure Tmd (w0 w : World) (P : Nat → Prop) (d p : Value) (X : XSt) (S S2 : List Int) (N N2 : List (List Int)) (O O2 : List (Int × Int)) (kk bf : Nat) : Prop where
  inv : SInv w P d p X
  wi : X.wi = true
  fu : X.ds.fu = false
  has : Has X.is O kk
  has2 : Has X.call O2 kk
  ok : OOk O kk
  tab : Tab X.is S N
  tab2 : Tab X.call S2 N2
  fs : FsAt w bf p
  nb : ¬ P bf
  bN : w0.heap.size ≤ bf
  pN : ∀ x, P x → w0.heap.size ≤ x
  sz : w0.heap.size ≤ w.heap.size
  be : Below w0.heap.size w0 w
theorem fsNew_of (bs : Nat) (w : World) : Calls Tryz.prog 7 #[.pointer (some ⟨bs, 0, none⟩)] w fun e w' => e = .returned (.pointer (some ⟨w.heap.size, 0, none⟩)) ∧ FsAt w' w.heap.size (.pointer (some ⟨bs, 0, none⟩)) ∧ Below w.heap.size w w' := by
  have hb := below_box w (.cells #[.pointer (some ⟨bs, 0, none⟩)] 59)
  have hr := heap_alloc_new w (.cells #[.pointer (some ⟨bs, 0, none⟩)] 59)
  go_enter Tryz.func7, Tryz.ntmps7
  go_wp2
  go_ret
  exact ⟨rfl, hr, hb⟩
theorem fsNew_nil (w : World) : Calls Tryz.prog 7 #[.pointer none] w fun e w' => e = .returned (.pointer none) ∧ w = w' := by
  go_enter Tryz.func7, Tryz.ntmps7
  go_wp2
  go_ret
  exact ⟨rfl, rfl⟩
section
variable {w0 w : World} {P : Nat → Prop} {d p : Value} {X : XSt} {S S2 : List Int} {N N2 : List (List Int)} {O O2 : List (Int × Int)} {kk bf : Nat}
theorem Tsd.low (h : Tsd w0 w P d p X S N O kk bf) {w' : World} (hb : Below w.heap.size w w') : Tsd w0 w' P d p X S N O kk bf :=
  { h with inv := h.inv.low hb, fs := h.fs.low hb, be := h.be.trans (hb.mono h.be.size) }
theorem Tsd.far (h : Tsd w0 w P d p X S N O kk bf) {M M' : Nat → Prop} {w' : World} (hc : Chg M M' w w') (hM : ∀ x, M x → w0.heap.size ≤ x) (hP : ∀ x, P x → ¬ M x) (hf : ¬ M bf) : Tsd w0 w' P d p X S N O kk bf :=
  { h with inv := h.inv.keep hc.size fun x hx => (hc.keep x (h.inv.lt x hx) (hP x hx)).1, fs := ((hc.keep bf (Array.getElem?_eq_some_iff.1 h.fs).1 hf).1).trans h.fs,
           be := h.be.trans (hc.below fun x hx => ⟨Nat.lt_of_lt_of_le hx h.be.size, fun hm => by have := hM x hm; omega⟩) }
theorem Tmd.low (h : Tmd w0 w P d p X S S2 N N2 O O2 kk bf) {w' : World} (hb : Below w.heap.size w w') : Tmd w0 w' P d p X S S2 N N2 O O2 kk bf :=
  { h with inv := h.inv.low hb, fs := h.fs.low hb, sz := Nat.le_trans h.sz hb.size, be := h.be.trans (hb.mono h.sz) }
theorem Tmd.far (h : Tmd w0 w P d p X S S2 N N2 O O2 kk bf) {M M' : Nat → Prop} {w' : World} (hc : Chg M M' w w') (hM : ∀ x, M x → w0.heap.size ≤ x) (hP : ∀ x, P x → ¬ M x) (hf : ¬ M bf) : Tmd w0 w' P d p X S S2 N N2 O O2 kk bf :=
  { h with inv := h.inv.keep hc.size fun x hx => (hc.keep x (h.inv.lt x hx) (hP x hx)).1, fs := ((hc.keep bf (Array.getElem?_eq_some_iff.1 h.fs).1 hf).1).trans h.fs, sz := Nat.le_trans h.sz hc.size,
           be := h.be.trans (hc.below fun x hx => ⟨Nat.lt_of_lt_of_le hx h.sz, fun hm => by have := hM x hm; omega⟩) }
theorem Tsd.begin (h : Tsd w0 w P d p X S N O kk bf) : Calls Tryz.prog 19 #[p] w fun e w' => e = .returned (.int .i64 0) ∧ ∃ P', Tmd w0 w' P' d p (callX X) S S N N O O kk bf ∧ Chg P P' w w' := by
  refine (landed.begin h.inv).mono fun e w' ⟨he, P', hi, hc⟩ => ?_
  have e1 : xBegin X = (0, callX X) := by unfold xBegin; rw [if_neg (by rw [h.wi]; decide)]; rfl
  rw [e1] at he hi
  obtain ⟨hf, hn⟩ := h.fs.chg hc h.nb
  obtain ⟨hb, hp⟩ := chg_base h.be h.pN hc
  exact ⟨he, P', ⟨hi, rfl, h.fu, h.has, h.has, h.ok, h.tab, h.tab, hf, hn, h.bN, hp, hb.size, hb⟩, hc⟩
theorem Tmd.keep (h : Tmd w0 w P d p X S S2 N N2 O O2 kk bf) (hO : OOk O2 kk) : Calls Tryz.prog 20 #[p, .bool true] w fun e w' => e = .returned (.int .i64 0) ∧ ∃ P' X', Tsd w0 w' P' d p X' S2 N2 O2 kk bf ∧ Chg P P' w w' := by
  refine (landed.endKeep h.inv h.wi).mono fun e w' he => ?_
  rcases he with ⟨B, dt, ds', _, hfu, he, P', hi, hc⟩ | ⟨hf, _⟩
  · obtain ⟨hf, hn⟩ := h.fs.chg hc h.nb
    obtain ⟨hb, hp⟩ := chg_base h.be h.pN hc
    exact ⟨he, P', _, ⟨hi, rfl, by show ds'.fu = false; rw [hfu]; exact h.fu, h.has2, hO, h.tab2, hf, hn, h.bN, hp, hb⟩, hc⟩
  · rw [h.fu] at hf; cases hf
theorem Tmd.undo (h : Tmd w0 w P d p X S S2 N N2 O O2 kk bf) : Calls Tryz.prog 20 #[p, .bool false] w fun e w' => e = .returned (.int .i64 0) ∧ ∃ P' X', Tsd w0 w' P' d p X' S N O kk bf ∧ Chg P P' w w' := by
  refine (landed.endUndo h.inv h.wi).mono fun e w' ⟨he, P', hi, hc⟩ => ?_
  obtain ⟨hf, hn⟩ := h.fs.chg hc h.nb
  obtain ⟨hb, hp⟩ := chg_base h.be h.pN hc
  exact ⟨he, P', _, ⟨hi, rfl, h.fu, h.has, h.ok, h.tab, hf, hn, h.bN, hp, hb⟩, hc⟩
theorem Tmd.put {X2 : XSt} {P2 : Nat → Prop} {w' : World} {O3 : List (Int × Int)} {S3 : List Int} {N3 : List (List Int)} (h : Tmd w0 w P d p X S S2 N N2 O O2 kk bf) (hi : SInv w' P2 d p X2) (hc : Chg P P2 w w') (hw : X2.wi = true) (hf : X2.ds.fu = X.ds.fu) (his : X2.is = X.is) (hh : Has X2.call O3 kk) (ht : Tab X2.call S3 N3) :
    Tmd w0 w' P2 d p X2 S S3 N N3 O O3 kk bf := by
  obtain ⟨hfs, hn⟩ := h.fs.chg hc h.nb
  obtain ⟨hb, hp⟩ := chg_base h.be h.pN hc
  exact ⟨hi, hw, by rw [hf]; exact h.fu, by rw [his]; exact h.has, hh, h.ok, by rw [his]; exact h.tab, ht, hfs, hn, h.bN, hp, hb.size, hb⟩
def TOut (w0 w : World) (P : Nat → Prop) (d p : Value) (S S2 : List Int) (N N2 : List (List Int)) (O O2 : List (Int × Int)) (kk bf : Nat) (v : Value) (e : Ending) (w' : World) : Prop :=
  e = .returned v ∧ ∃ P' X', Tmd w0 w' P' d p X' S S2 N N2 O O2 kk bf ∧ Chg P P' w w'
theorem Tmd.same (h : Tmd w0 w P d p (callX X) S S N N O O kk bf) {v : Value} {F : FuncId} {xs : Array Value} (hc : Calls Tryz.prog F xs w fun e w' => e = .returned v ∧ Below w.heap.size w w') : Calls Tryz.prog F xs w (TOut w0 w P d p S S N N O O kk bf v) :=
  hc.mono fun e w' ⟨he, hb⟩ => ⟨he, P, _, h.low hb, Chg.of_below hb⟩
theorem Tmd.is64 (h : Tmd w0 w P d p X S S2 N N2 O O2 kk bf) : 63 < X.is.length := by
  have := h.has.len
  have := h.ok.k1
  omega
theorem Tmd.putI {w' : World} {P2 : Nat → Prop} (h : Tmd w0 w P d p (callX X) S S N N O O kk bf) {n : Nat} (hn : n < 48) {x : List Int} (hx : x.length = 14) (hf : frmI x = true) (hi : SInv w' P2 d p (putI (callX X) S N n x)) (hc : Chg P P2 w w') :
    Tmd w0 w' P2 d p (putI (callX X) S N n x) S S N (N.set n x) O O kk bf :=
  h.put hi hc rfl rfl rfl (h.has2.other h.ok.k12 (.inr (.inr (tabAt_in h.tab.sf (show n / 8 < 6 by omega)).2.2.2.1)) _) (h.tab2.putI hn hx hf)
theorem Tmd.putSup {w' : World} {P2 : Nat → Prop} (h : Tmd w0 w P d p (callX X) S S N N O O kk bf) {L : List Int} (hL : L.length = 12) (hf : frmS L = true) (h0 : num L 0 = num S 0) (ht : ∀ t, t < 6 → num L (6 + t) = num S (6 + t)) (hi : SInv w' P2 d p (putSup (callX X) L)) (hc : Chg P P2 w w') :
    Tmd w0 w' P2 d p (putSup (callX X) L) S L N N O O kk bf :=
  h.put hi hc rfl rfl rfl ((h.has2.other h.ok.k12 (.inl rfl) _).other h.ok.k12 (.inr (.inl rfl)) _) (h.tab2.putS h.is64 hL hf h0 ht)
def makeS (N : List (List Int)) (k n E : Int) (N2 : List (List Int)) : Prop :=
  ((k < 1 ∨ 3 < k) ∧ n = 0 ∧ E = 1 ∧ N2 = N) ∨ ((1 ≤ k ∧ k ≤ 3) ∧ FullN N ∧ n = 0 ∧ E = 13 ∧ N2 = N) ∨ ((1 ≤ k ∧ k ≤ 3) ∧ ∃ f : Nat, FreeAt N f ∧ n = f ∧ E = 0 ∧ N2 = N.set f (kindI k))
theorem make_ex (N : List (List Int)) (k : Int) : ∃ n E N2, makeS N k n E N2 := by
  by_cases hk : 1 ≤ k ∧ k ≤ 3
  · rcases free_full N with ⟨f, hf⟩ | hf
    · exact ⟨f, 0, _, .inr (.inr ⟨hk, f, hf, rfl, rfl, rfl⟩)⟩
    · exact ⟨0, 13, N, .inr (.inl ⟨hk, hf, rfl, rfl, rfl⟩)⟩
  · exact ⟨0, 1, N, .inl ⟨by omega, rfl, rfl, rfl⟩⟩
theorem make13 (h : Tmd w0 w P d p (callX X) S S N N O O kk bf) {k n E : Int} {N3 : List (List Int)} (hm : makeS N k n E N3) :
    Calls Tryz.prog 14 #[.pointer (some ⟨bf, 0, none⟩), .int .i64 k] w (TOut w0 w P d p S S N N3 O O kk bf (.tuple #[.int .i64 n, .int .i64 E])) := by
  rcases hm with ⟨hk, rfl, rfl, rfl⟩ | ⟨hk, hN, rfl, rfl, rfl⟩ | ⟨hk, f, hf, rfl, rfl, rfl⟩
  · exact h.same ((fsMake_bad hk _ w).mono fun e w' ⟨a, b⟩ => ⟨a, same_low b⟩)
  · exact h.same (fsMake_full h.inv h.fs (show Tab (callX X).cur S _ from h.tab2) hN hk (Below.refl _ _))
  · refine (fsMake_yes h.inv rfl (by show (0 : Nat) < 37; decide) h.fs h.tab2 hf hk (Below.refl _ _)).mono fun e w' ⟨he, P', hi, hc⟩ => ⟨he, P', _, h.putI hf.2.1 rfl (kindI_frm hk) hi hc, hc⟩
def putP (N : List (List Int)) (n : Int) (x : List Int) (E : Int) (N2 : List (List Int)) : Prop :=
  ((frmI x = false ∨ n < 1 ∨ 47 < n) ∧ E = 1 ∧ N2 = N) ∨ (frmI x = true ∧ ∃ k : Nat, n = k ∧ 1 ≤ k ∧ k < 48 ∧ E = 0 ∧ N2 = N.set k x)
theorem put_ex (N : List (List Int)) (n : Int) (x : List Int) : ∃ E N2, putP N n x E N2 := by
  cases hf : frmI x
  · exact ⟨1, N, .inl ⟨.inl hf, rfl, rfl⟩⟩
  · by_cases h : 1 ≤ n ∧ n ≤ 47
    · exact ⟨0, _, .inr ⟨hf, n.toNat, by omega, by omega, by omega, rfl, rfl⟩⟩
    · exact ⟨1, N, .inl ⟨.inr (by omega), rfl, rfl⟩⟩
theorem put13 (h : Tmd w0 w P d p (callX X) S S N N O O kk bf) {n E : Int} {x : List Int} (hx : x.length = 14) {N3 : List (List Int)} (hm : putP N n x E N3) :
    Calls Tryz.prog 16 #[.pointer (some ⟨bf, 0, none⟩), .int .i64 n, .agg (iC x).toArray] w (TOut w0 w P d p S S N N3 O O kk bf (.int .i64 E)) := by
  rcases hm with ⟨hno, rfl, rfl⟩ | ⟨hf, k, rfl, k1, k48, rfl, rfl⟩
  · exact h.same (fsPut_bad hx hno _ w)
  · exact (fsPut_yes h.inv rfl (by show (0 : Nat) < 37; decide) h.fs h.tab2 k1 k48 hx hf (Below.refl _ _)).mono fun e w' ⟨he, P', hi, hc⟩ => ⟨he, P', _, h.putI k48 hx hf hi hc, hc⟩
def setP (S L : List Int) (E : Int) (S2 : List Int) : Prop := (frmS L = false ∧ E = 1 ∧ S2 = S) ∨ (frmS L = true ∧ E = 0 ∧ S2 = L)
theorem set_ex (S L : List Int) : ∃ E S2, setP S L E S2 := by
  cases hf : frmS L
  · exact ⟨1, S, .inl ⟨hf, rfl, rfl⟩⟩
  · exact ⟨0, L, .inr ⟨hf, rfl, rfl⟩⟩
theorem setS13 (h : Tmd w0 w P d p (callX X) S S N N O O kk bf) {L : List Int} (hL : L.length = 12) (hT : Top L) (h0 : num L 0 = num S 0) (ht : ∀ t, t < 6 → num L (6 + t) = num S (6 + t)) {E : Int} {S3 : List Int} (hm : setP S L E S3) :
    Calls Tryz.prog 17 #[.pointer (some ⟨bf, 0, none⟩), supV L] w (TOut w0 w P d p S S3 N N O O kk bf (.int .i64 E)) := by
  rcases hm with ⟨hno, rfl, rfl⟩ | ⟨hf, rfl, rfl⟩
  · exact h.same (fsSetS_bad hL hT hno _ w)
  · exact (fsSetS_yes h.inv rfl (by show (0 : Nat) ≤ 35; decide) h.is64 h.fs h.nb hL hT hf (Below.refl _ _)).mono fun e w' ⟨he, P', hi, hc⟩ => ⟨he, P', _, h.putSup hL hf h0 ht hi hc, hc⟩
end
theorem start13 {kk : Nat} (h1 : 1 ≤ kk) (h2 : kk ≤ 12) (w0 : World) : ∀ {w : World}, Below w0.heap.size w0 w → Calls Tryz.prog 8 #[.int .i64 (64 * (kk : Int)), .int .i64 (64 * (kk : Int))] w fun e w' => ∃ b, e = .returned (.pointer (some ⟨b, 0, none⟩)) ∧ Below w0.heap.size w0 w' ∧
    Calls Tryz.prog 7 #[.pointer (some ⟨b, 0, none⟩)] w' fun e w'' => ∃ bf P d X, e = .returned (.pointer (some ⟨bf, 0, none⟩)) ∧ Tsd w0 w'' P d (.pointer (some ⟨b, 0, none⟩)) X (newS kk) newN (newO kk) kk bf ∧ bf < w''.heap.size := fun {w} hb => by
  refine (laid12_tab h1 h2 w).mono fun e w' ⟨b, P, d, G, ds, he, hI, hfu, hH, hT, hP, hb1⟩ => ⟨b, he, hb.trans (hb1.mono hb.size), ?_⟩
  refine (fsNew_of b w').mono fun e w'' ⟨he2, hfs, hb2⟩ => ?_
  have hs := hb.size
  have hs1 := hb1.size
  have hlt := hI.lt
  refine ⟨w'.heap.size, P, d, _, he2, ⟨hI.low hb2, rfl, hfu, hH, newO_ok h1 h2, hT, hfs, fun hp => by have := hlt _ hp; omega, by omega, fun x hx => by have := hP x hx; omega, ?_⟩, (Array.getElem?_eq_some_iff.1 hfs).1⟩
  exact (hb.trans (hb1.mono hs)).trans (hb2.mono (by omega))
theorem awake13_any (w : World) : Calls Tryz.prog 6 #[] w fun e w' => e = .returned (.bool true) ∧ Below w.heap.size w w' := by
  have KS := Lib.hid (start13 (kk := 1) (by decide) (by decide) w (Below.refl _ w))
  rw [show (64 * ((1 : Nat) : Int)) = 64 from rfl] at KS
  have KG : Hid (∀ (W : World) (P : Nat → Prop) (d p : Value) (X : XSt) (bf : Nat), Tsd w W P d p X (newS 1) newN (newO 1) 1 bf → Calls Tryz.prog 12 #[.pointer (some ⟨bf, 0, none⟩), .int .i64 1] W fun e w' => e = .returned (.tuple #[.agg #[.int .i64 2, .int .i64 1, .int .i64 0, .int .i64 0, .int .i64 0, .int .i64 0, .int .i64 0, .int .i64 0, .int .i64 0, .int .i64 0, .int .i64 0, .int .i64 0, .int .i64 0, .int .i64 0], .int .i64 0]) ∧ Below W.heap.size W w') := Lib.hid fun W P d p X bf h => by
    have hT : Tab X.cur (newS 1) newN := by have := h.tab; unfold XSt.cur; rw [h.wi]; exact this
    have := fsGet_yes h.inv h.fs hT (n := 1) (by decide) (by decide) (Below.refl _ _)
    rw [show ((1 : Nat) : Int) = 1 from rfl] at this
    exact this
  go_enter Tryz.func6, Tryz.ntmps6
  go_wp2_with (first
    | (go_at_call 8; refine KS.out.mono ?_; rintro e w1 ⟨b, rfl, hb1, KN⟩)
    | (go_at_call 7; refine KN.mono ?_; rintro e w2 ⟨bf, P, d, X, rfl, hsd, _⟩)
    | (go_at_call 12; refine (KG.out _ _ _ _ _ _ hsd).mono ?_; rintro e w3 ⟨rfl, hb3⟩
       have hb4 := below_box w3 (.cells #[.int .i64 2, .int .i64 1, .int .i64 0, .int .i64 0, .int .i64 0, .int .i64 0, .int .i64 0, .int .i64 0, .int .i64 0, .int .i64 0, .int .i64 0, .int .i64 0, .int .i64 0, .int .i64 0] 53)))
  go_ret
  exact ⟨rfl, (hsd.be.trans (hb3.mono hsd.be.size)).trans (hb4.mono (Nat.le_trans hsd.be.size hb3.size))⟩
end Go.Proofs.YtekeoljfdnfbgaaGreat
namespace Go.Proofs.YtekeoljfdnfbgaaGreat
set_option maxRecDepth 100000
open Go.RowKit Go.ChangeShapes Go.WideShapes
theorem rInoCells : Tryz.prog.cellsOf 32 = 14 := by kernel_rfl
theorem i64Cells : Tryz.prog.cellsOf 3 = 1 := by kernel_rfl
theorem arr10Cells : Tryz.prog.cellsOf 30 = 10 := by kernel_rfl
section
variable {H : Type} {enc : TypeId × Value → H} {W : World} {base : Nat} {spare : Nat → Bool} {held : Bool}
theorem i64_cell {cs : List Value} {fuel : Nat} {y : DataW H × List MemPlace} (hf : DataW.trod enc Tryz.prog W base spare held fuel 3 cs = some y) : ∃ x : Int, cs = [.int .i64 x] := by
  obtain ⟨k, e, _, wf⟩ := DataW.trod_int Tryz.underlying3 hf
  exact ⟨k, e⟩
theorem ten_cells {cs : List Value} {fuel : Nat} {y : DataW H × List MemPlace} (hl : cs.length = 10) (hf : DataW.trod enc Tryz.prog W base spare held fuel 30 cs = some y) :
    ∃ t0 t1 t2 t3 t4 t5 t6 t7 t8 t9 : Int, cs = [.int .i64 t0, .int .i64 t1, .int .i64 t2, .int .i64 t3, .int .i64 t4, .int .i64 t5, .int .i64 t6, .int .i64 t7, .int .i64 t8, .int .i64 t9] := by
  obtain ⟨xs, m, _, _, _, hxs, hi⟩ := DataW.trod_array Tryz.underlying30 hf
  rw [i64Cells] at hi
  match cs, hl with
  | [c0, c1, c2, c3, c4, c5, c6, c7, c8, c9], _ =>
    match xs, hxs with
    | [y0, y1, y2, y3, y4, y5, y6, y7, y8, y9], _ =>
      obtain ⟨t0, e0⟩ := i64_cell (show DataW.trod enc Tryz.prog W base spare held m 3 [c0] = some y0 from hi 0 (by decide))
      obtain ⟨t1, e1⟩ := i64_cell (show DataW.trod enc Tryz.prog W base spare held m 3 [c1] = some y1 from hi 1 (by decide))
      obtain ⟨t2, e2⟩ := i64_cell (show DataW.trod enc Tryz.prog W base spare held m 3 [c2] = some y2 from hi 2 (by decide))
      obtain ⟨t3, e3⟩ := i64_cell (show DataW.trod enc Tryz.prog W base spare held m 3 [c3] = some y3 from hi 3 (by decide))
      obtain ⟨t4, e4⟩ := i64_cell (show DataW.trod enc Tryz.prog W base spare held m 3 [c4] = some y4 from hi 4 (by decide))
      obtain ⟨t5, e5⟩ := i64_cell (show DataW.trod enc Tryz.prog W base spare held m 3 [c5] = some y5 from hi 5 (by decide))
      obtain ⟨t6, e6⟩ := i64_cell (show DataW.trod enc Tryz.prog W base spare held m 3 [c6] = some y6 from hi 6 (by decide))
      obtain ⟨t7, e7⟩ := i64_cell (show DataW.trod enc Tryz.prog W base spare held m 3 [c7] = some y7 from hi 7 (by decide))
      obtain ⟨t8, e8⟩ := i64_cell (show DataW.trod enc Tryz.prog W base spare held m 3 [c8] = some y8 from hi 8 (by decide))
      obtain ⟨t9, e9⟩ := i64_cell (show DataW.trod enc Tryz.prog W base spare held m 3 [c9] = some y9 from hi 9 (by decide))
      simp only [List.cons.injEq, and_true] at e0 e1 e2 e3 e4 e5 e6 e7 e8 e9
      subst e0 e1 e2 e3 e4 e5 e6 e7 e8 e9
      exact ⟨t0, t1, t2, t3, t4, t5, t6, t7, t8, t9, rfl⟩
theorem ino_cs {cs : List Value} {m : Nat} {y : DataW H × List MemPlace} (hl : cs.length = 14) (ht : DataW.trod enc Tryz.prog W base spare held m 32 cs = some y) :
    ∃ x : List Int, cs = iC x ∧ x.length = 14 := by
  obtain ⟨xs, n, _, _, hlen, hxs, hf⟩ := DataW.trod_struct Tryz.underlying32 ht
  match cs, hl with
  | [k0, k1, k2, c0, c1, c2, c3, c4, c5, c6, c7, c8, c9, k3], _ =>
    match xs, hxs with
    | [y0, y1, y2, y3, y4], _ =>
      have g0 : DataW.trod enc Tryz.prog W base spare held n 3 (List.take (Tryz.prog.cellsOf 3) (List.drop 0 [k0, k1, k2, c0, c1, c2, c3, c4, c5, c6, c7, c8, c9, k3])) = some y0 := hf 0 _ rfl
      have g1 : DataW.trod enc Tryz.prog W base spare held n 3 (List.take (Tryz.prog.cellsOf 3) (List.drop 1 [k0, k1, k2, c0, c1, c2, c3, c4, c5, c6, c7, c8, c9, k3])) = some y1 := hf 1 _ rfl
      have g2 : DataW.trod enc Tryz.prog W base spare held n 3 (List.take (Tryz.prog.cellsOf 3) (List.drop 2 [k0, k1, k2, c0, c1, c2, c3, c4, c5, c6, c7, c8, c9, k3])) = some y2 := hf 2 _ rfl
      have g3 : DataW.trod enc Tryz.prog W base spare held n 30 (List.take (Tryz.prog.cellsOf 30) (List.drop 3 [k0, k1, k2, c0, c1, c2, c3, c4, c5, c6, c7, c8, c9, k3])) = some y3 := hf 3 _ rfl
      have g4 : DataW.trod enc Tryz.prog W base spare held n 3 (List.take (Tryz.prog.cellsOf 3) (List.drop 13 [k0, k1, k2, c0, c1, c2, c3, c4, c5, c6, c7, c8, c9, k3])) = some y4 := hf 4 _ rfl
      rw [i64Cells] at g0 g1 g2 g4
      rw [arr10Cells] at g3
      obtain ⟨x0, e0⟩ := i64_cell (cs := [k0]) g0
      obtain ⟨x1, e1⟩ := i64_cell (cs := [k1]) g1
      obtain ⟨x2, e2⟩ := i64_cell (cs := [k2]) g2
      obtain ⟨x4, e4⟩ := i64_cell (cs := [k3]) g4
      obtain ⟨t0, t1, t2, t3, t4, t5, t6, t7, t8, t9, e3⟩ := ten_cells (cs := [c0, c1, c2, c3, c4, c5, c6, c7, c8, c9]) rfl g3
      simp only [List.cons.injEq, and_true] at e0 e1 e2 e4 e3
      subst e0 e1 e2 e4
      obtain ⟨rfl, rfl, rfl, rfl, rfl, rfl, rfl, rfl, rfl, rfl⟩ := e3
      exact ⟨[x0, x1, x2, t0, t1, t2, t3, t4, t5, t6, t7, t8, t9, x4], rfl, rfl⟩
end
theorem rSupCells : Tryz.prog.cellsOf 35 = 12 := by kernel_rfl
theorem intCells5 : Tryz.prog.cellsOf 3 = 1 := by kernel_rfl
theorem arr6Cells : Tryz.prog.cellsOf 33 = 6 := by kernel_rfl
section
variable {H : Type} {enc : TypeId × Value → H} {W : World} {base : Nat} {spare : Nat → Bool} {held : Bool}
theorem int_cell {cs : List Value} {fuel : Nat} {y : DataW H × List MemPlace} (hf : DataW.trod enc Tryz.prog W base spare held fuel 3 cs = some y) : ∃ x : Int, cs = [.int .i64 x] ∧ x ≤ 9223372036854775807 := by
  obtain ⟨k, e, _, wf⟩ := DataW.trod_int Tryz.underlying3 hf
  exact ⟨k, e, (bounds_i64 wf).2⟩
theorem six_cells {cs : List Value} {fuel : Nat} {y : DataW H × List MemPlace} (hl : cs.length = 6) (hf : DataW.trod enc Tryz.prog W base spare held fuel 33 cs = some y) :
    ∃ t0 t1 t2 t3 t4 t5 : Int, cs = [.int .i64 t0, .int .i64 t1, .int .i64 t2, .int .i64 t3, .int .i64 t4, .int .i64 t5] ∧ (∀ x ∈ [t0, t1, t2, t3, t4, t5], x ≤ 9223372036854775807) := by
  obtain ⟨xs, m, _, _, _, hxs, hi⟩ := DataW.trod_array Tryz.underlying33 hf
  rw [intCells5] at hi
  match cs, hl with
  | [c0, c1, c2, c3, c4, c5], _ =>
    match xs, hxs with
    | [y0, y1, y2, y3, y4, y5], _ =>
      obtain ⟨t0, e0, b0⟩ := int_cell (show DataW.trod enc Tryz.prog W base spare held m 3 [c0] = some y0 from hi 0 (by decide))
      obtain ⟨t1, e1, b1⟩ := int_cell (show DataW.trod enc Tryz.prog W base spare held m 3 [c1] = some y1 from hi 1 (by decide))
      obtain ⟨t2, e2, b2⟩ := int_cell (show DataW.trod enc Tryz.prog W base spare held m 3 [c2] = some y2 from hi 2 (by decide))
      obtain ⟨t3, e3, b3⟩ := int_cell (show DataW.trod enc Tryz.prog W base spare held m 3 [c3] = some y3 from hi 3 (by decide))
      obtain ⟨t4, e4, b4⟩ := int_cell (show DataW.trod enc Tryz.prog W base spare held m 3 [c4] = some y4 from hi 4 (by decide))
      obtain ⟨t5, e5, b5⟩ := int_cell (show DataW.trod enc Tryz.prog W base spare held m 3 [c5] = some y5 from hi 5 (by decide))
      simp only [List.cons.injEq, and_true] at e0 e1 e2 e3 e4 e5
      subst e0 e1 e2 e3 e4 e5
      exact ⟨t0, t1, t2, t3, t4, t5, rfl, by simp [b0, b1, b2, b3, b4, b5]⟩
theorem sup_cs {cs : List Value} {m : Nat} {y : DataW H × List MemPlace} (hl : cs.length = 12) (ht : DataW.trod enc Tryz.prog W base spare held m 35 cs = some y) :
    ∃ L : List Int, cs = L.map (Value.int .i64) ∧ L.length = 12 ∧ ∀ x ∈ L, x ≤ 9223372036854775807 := by
  obtain ⟨xs, n, _, _, hlen, hxs, hf⟩ := DataW.trod_struct Tryz.underlying35 ht
  match cs, hl with
  | [c0, c1, c2, c3, c4, c5, d0, d1, d2, d3, d4, d5], _ =>
    match xs, hxs with
    | [y0, y1, y2, y3, y4, y5, y6], _ =>
      have g0 : DataW.trod enc Tryz.prog W base spare held n 3 (List.take (Tryz.prog.cellsOf 3) (List.drop 0 [c0, c1, c2, c3, c4, c5, d0, d1, d2, d3, d4, d5])) = some y0 := hf 0 _ rfl
      have g1 : DataW.trod enc Tryz.prog W base spare held n 3 (List.take (Tryz.prog.cellsOf 3) (List.drop 1 [c0, c1, c2, c3, c4, c5, d0, d1, d2, d3, d4, d5])) = some y1 := hf 1 _ rfl
      have g2 : DataW.trod enc Tryz.prog W base spare held n 3 (List.take (Tryz.prog.cellsOf 3) (List.drop 2 [c0, c1, c2, c3, c4, c5, d0, d1, d2, d3, d4, d5])) = some y2 := hf 2 _ rfl
      have g3 : DataW.trod enc Tryz.prog W base spare held n 3 (List.take (Tryz.prog.cellsOf 3) (List.drop 3 [c0, c1, c2, c3, c4, c5, d0, d1, d2, d3, d4, d5])) = some y3 := hf 3 _ rfl
      have g4 : DataW.trod enc Tryz.prog W base spare held n 3 (List.take (Tryz.prog.cellsOf 3) (List.drop 4 [c0, c1, c2, c3, c4, c5, d0, d1, d2, d3, d4, d5])) = some y4 := hf 4 _ rfl
      have g5 : DataW.trod enc Tryz.prog W base spare held n 3 (List.take (Tryz.prog.cellsOf 3) (List.drop 5 [c0, c1, c2, c3, c4, c5, d0, d1, d2, d3, d4, d5])) = some y5 := hf 5 _ rfl
      have g6 : DataW.trod enc Tryz.prog W base spare held n 33 (List.take (Tryz.prog.cellsOf 33) (List.drop 6 [c0, c1, c2, c3, c4, c5, d0, d1, d2, d3, d4, d5])) = some y6 := hf 6 _ rfl
      rw [intCells5] at g0 g1 g2 g3 g4 g5
      rw [arr6Cells] at g6
      obtain ⟨x0, e0, b0⟩ := int_cell (cs := [c0]) g0
      obtain ⟨x1, e1, b1⟩ := int_cell (cs := [c1]) g1
      obtain ⟨x2, e2, b2⟩ := int_cell (cs := [c2]) g2
      obtain ⟨x3, e3, b3⟩ := int_cell (cs := [c3]) g3
      obtain ⟨x4, e4, b4⟩ := int_cell (cs := [c4]) g4
      obtain ⟨x5, e5, b5⟩ := int_cell (cs := [c5]) g5
      obtain ⟨t0, t1, t2, t3, t4, t5, e6, b6⟩ := six_cells (cs := [d0, d1, d2, d3, d4, d5]) rfl g6
      simp only [List.cons.injEq, and_true] at e0 e1 e2 e3 e4 e5
      subst e0 e1 e2 e3 e4 e5
      refine ⟨[x0, x1, x2, x3, x4, x5, t0, t1, t2, t3, t4, t5], ?_, rfl, fun x hx => ?_⟩
      · simp only [List.cons.injEq, and_true] at e6
        obtain ⟨rfl, rfl, rfl, rfl, rfl, rfl⟩ := e6
        rfl
      · simp only [List.mem_cons, List.not_mem_nil, or_false] at hx b6
        rcases hx with rfl | rfl | rfl | rfl | rfl | rfl | hx
        · exact b0
        · exact b1
        · exact b2
        · exact b3
        · exact b4
        · exact b5
        · exact b6 x hx
end
structure O13 where
  k : Int
  ino : Int
  kd : Int
  n : Int
  I : List Int
  S : List Int
  i : Int
  a : Int
instance : Inhabited O13 := ⟨⟨0, 0, 0, 0, [], [], 0, 0⟩⟩
structure O13.ok (o : O13) : Prop where
  ino : in64 o.ino
  kd : in64 o.kd
  n : in64 o.n
  I : o.I.length = 14
  S : o.S.length = 12
  T : Top o.S
  i : 0 ≤ o.i ∧ o.i ≤ 65535
  a : 0 ≤ o.a ∧ o.a ≤ 65535
def O13.cells (o : O13) : List Value := [.int .i64 o.k, .int .i64 o.ino, .int .i64 o.kd, .int .i64 o.n] ++ (iC o.I ++ (iC o.S ++ [.int .u16 o.i, .int .u16 o.a]))
theorem O13.cells_length {o : O13} (h : o.ok) : o.cells.length = 32 := by
  unfold O13.cells; rw [List.length_append, List.length_append, List.length_append, iC_length, iC_length, h.I, h.S]; rfl
def OpsU (W : World) (v : Value) (S : List O13) : Prop :=
  (∃ a c, v = .slice a 0 c ∧ S = []) ∨ ∃ b off cap, v = .slice (some ⟨b, off, none⟩) S.length cap ∧ ∀ i, i < S.length → b < W.heap.size ∧ W.rangeAt b (off + i * 32) (S.getD i default).cells ∧ (S.getD i default).ok
theorem op13Cells : Tryz.prog.cellsOf 40 = 32 := by kernel_rfl
section
variable {H : Type} {enc : TypeId × Value → H} {W : World} {base : Nat} {spare : Nat → Bool} {held : Bool}
theorem cut_more (cs : List Value) (a b c : Nat) (h : c = a + b) : cs.drop a = (cs.drop a).take b ++ cs.drop c := by
  rw [h, ← List.drop_drop, List.take_append_drop]
theorem op13_cells {cs : List Value} {m : Nat} {y : DataW H × List MemPlace} (hl : cs.length = 32) (ht : DataW.trod enc Tryz.prog W base (fun _ => true) held m 40 cs = some y) : ∃ o : O13, cs = o.cells ∧ o.ok := by
  obtain ⟨xs, n, _, _, hlen, hxs, hf⟩ := DataW.trod_struct Tryz.underlying40 ht
  match xs, hxs with
  | [y0, y1, y2, y3, y4, y5, y6], _ =>
    have g0 : DataW.trod enc Tryz.prog W base (fun _ => true) held n 3 (List.take (Tryz.prog.cellsOf 3) (List.drop 0 cs)) = some y0 := hf 0 _ rfl
    have g1 : DataW.trod enc Tryz.prog W base (fun _ => true) held n 3 (List.take (Tryz.prog.cellsOf 3) (List.drop 1 cs)) = some y1 := hf 1 _ rfl
    have g2 : DataW.trod enc Tryz.prog W base (fun _ => true) held n 3 (List.take (Tryz.prog.cellsOf 3) (List.drop 2 cs)) = some y2 := hf 2 _ rfl
    have g3 : DataW.trod enc Tryz.prog W base (fun _ => true) held n 3 (List.take (Tryz.prog.cellsOf 3) (List.drop 3 cs)) = some y3 := hf 3 _ rfl
    have g4 : DataW.trod enc Tryz.prog W base (fun _ => true) held n 32 (List.take (Tryz.prog.cellsOf 32) (List.drop 4 cs)) = some y4 := hf 4 _ rfl
    have g5 : DataW.trod enc Tryz.prog W base (fun _ => true) held n 35 (List.take (Tryz.prog.cellsOf 35) (List.drop 18 cs)) = some y5 := hf 5 _ rfl
    have g6 : DataW.trod enc Tryz.prog W base (fun _ => true) held n 38 (List.take (Tryz.prog.cellsOf 38) (List.drop 30 cs)) = some y6 := hf 6 _ rfl
    rw [intCells12] at g0 g1 g2 g3
    rw [rInoCells] at g4
    rw [rSupCells] at g5
    rw [owCells] at g6
    obtain ⟨k, e0, _, wf0⟩ := DataW.trod_int Tryz.underlying3 g0
    obtain ⟨ino, e1, _, wf1⟩ := DataW.trod_int Tryz.underlying3 g1
    obtain ⟨kd, e2, _, wf2⟩ := DataW.trod_int Tryz.underlying3 g2
    obtain ⟨nn, e3, _, wf3⟩ := DataW.trod_int Tryz.underlying3 g3
    obtain ⟨I, e4, hI⟩ := ino_cs (by rw [List.length_take, List.length_drop]; omega) g4
    obtain ⟨S, e5, hS, hT⟩ := sup_cs (by rw [List.length_take, List.length_drop]; omega) g5
    obtain ⟨c30, c31, e6⟩ : ∃ c30 c31, (cs.drop 30).take 2 = [c30, c31] := by
      have : ((cs.drop 30).take 2).length = 2 := by rw [List.length_take, List.length_drop]; omega
      match (cs.drop 30).take 2, this with
      | [c30, c31], _ => exact ⟨c30, c31, rfl⟩
    rw [e6] at g6
    obtain ⟨i, a, rfl, rfl, b5, b6⟩ := ow2_cells g6
    refine ⟨⟨k, ino, kd, nn, I, S, i, a⟩, ?_, ⟨bounds_i64 wf1, bounds_i64 wf2, bounds_i64 wf3, hI, hS, fun j => ?_, b5, b6⟩⟩
    · have h0 : cs = cs.drop 0 := rfl
      rw [h0, cut_more cs 0 1 1 rfl, cut_more cs 1 1 2 rfl, cut_more cs 2 1 3 rfl, cut_more cs 3 1 4 rfl, cut_more cs 4 14 18 rfl, cut_more cs 18 12 30 rfl, cut_more cs 30 2 32 rfl, e0, e1, e2, e3, e4, e5, e6, List.drop_of_length_le (show cs.length ≤ 32 by omega)]
      simp [O13.cells, iC]
    · by_cases hj : j < S.length
      · have : num S j = S[j] := by simp [num, List.getD_eq_getElem?_getD, hj]
        show num S j ≤ _
        rw [this]; exact hT _ (List.getElem_mem hj)
      · show num S j ≤ _
        unfold num; rw [List.getD_eq_getElem?_getD, List.getElem?_eq_none (by omega)]; decide
theorem op13_open {v : Value} {d : DataW H} {p : List MemPlace} {r : Reach} {b0 : Nat} (hv : Value.okWide Tryz.prog W r b0 40 v) (h : DataW.Trod enc Tryz.prog W base (fun _ => true) held 40 v d p) : ∃ o : O13, v = .agg o.cells.toArray ∧ o.ok := by
  obtain ⟨cs, rfl, hs⟩ := okWide_struct Tryz.underlying40 hv
  rw [op13Cells] at hs
  obtain ⟨fuel, hf⟩ := h
  obtain ⟨o, e, ho⟩ := op13_cells (by simpa [Value.cells] using hs) hf
  have e' : cs.toList = o.cells := e
  exact ⟨o, by rw [← e'], ho⟩
theorem ops13_open {v : Value} {d : DataW H} {p : List MemPlace} {r : Reach} {b0 : Nat} (hv : Value.okWide Tryz.prog W r b0 22 v) (h : DataW.Trod enc Tryz.prog W base (fun _ => true) held 22 v d p) : ∃ S, OpsU W v S := by
  obtain ⟨a0, len0, cap0, rfl⟩ := okWide_slice Tryz.underlying22 hv
  obtain ⟨fuel, hf⟩ := h
  rcases Go.Deep.open_slice Tryz.underlying22 hf with ⟨hcs, _⟩ | ⟨a, len, cap, m, n, D, Pl, hcs, _, hl, hm, hmm, _, hi⟩
  · simp [Value.cells] at hcs
    obtain ⟨rfl, rfl, rfl⟩ := hcs
    exact ⟨[], .inl ⟨_, _, rfl, rfl⟩⟩
  · simp [Value.cells] at hcs
    obtain ⟨rfl, rfl, rfl⟩ := hcs
    have hlm : len0 ≤ m := by rw [hmm]; split <;> omega
    have hex : ∀ i, i < len0 → ∃ o : O13, (∀ j v, o.cells[j]? = some v → W.cell? (a.add (i * 32 + j)) = some v) ∧ o.ok := fun i hi2 => by
      obtain ⟨cs', hc, ht⟩ := hi i (by omega)
      rw [op13Cells] at hc
      obtain ⟨_, hcl, hat⟩ := World.cells?_some hc
      obtain ⟨o, rfl, ho⟩ := op13_cells hcl ht
      refine ⟨o, fun j v hj => ?_, ho⟩
      have hj2 : j < 32 := by have := (List.getElem?_eq_some_iff.1 hj).1; rw [o.cells_length ho] at this; exact this
      have := hat j hj2
      rw [hj] at this
      rw [← Go.Deep.add_add]; exact this
    obtain ⟨f, hfn⟩ := Go.Deep.choose_lt hex
    by_cases h0 : len0 = 0
    · exact ⟨[], .inl ⟨_, _, by rw [h0], rfl⟩⟩
    refine ⟨(List.range len0).map f, .inr ?_⟩
    obtain ⟨b, off, spot⟩ := a
    have hc0 : ∀ o : O13, o.cells[0]? = some (.int .i64 o.k) := fun o => rfl
    have hsp : spot = none := by
      have z0 := (hfn 0 (by omega)).1 0 _ (hc0 _)
      simpa [Addr.add] using World.cell?_spot z0
    subst hsp
    refine ⟨b, off, cap0, by simp, fun i hi2 => ?_⟩
    have hi3 : i < len0 := by simpa using hi2
    have hget : ((List.range len0).map f).getD i default = f i := by simp [List.getD_eq_getElem?_getD, hi3]
    rw [hget]
    obtain ⟨hr, ho⟩ := hfn i hi3
    have hr2 : W.rangeAt b (off + i * 32) (f i).cells := fun j v hj => by
      have := hr j v hj
      rw [Addr.add_lit] at this
      rw [Nat.add_assoc]; exact this
    exact ⟨block_lt_of_cell (hr2 0 _ (hc0 _)), hr2, ho⟩
end
end Go.Proofs.YtekeoljfdnfbgaaGreat
namespace Go.Proofs.YtekeoljfdnfbgaaGreat
set_option maxRecDepth 100000
open Go.RowKit
theorem sizeRI : (Tryz.prog.info? 32).map (·.size) = some 14 := by kernel_rfl
theorem sizeRS : (Tryz.prog.info? 35).map (·.size) = some 12 := by kernel_rfl
structure Box13 (W : World) (xb : Nat) (o : O13) : Prop where
  k : W.cell? ⟨xb, 0, none⟩ = some (.int .i64 o.k)
  ino : W.cell? ⟨xb, 1, none⟩ = some (.int .i64 o.ino)
  kd : W.cell? ⟨xb, 2, none⟩ = some (.int .i64 o.kd)
  n : W.cell? ⟨xb, 3, none⟩ = some (.int .i64 o.n)
  I : W.rangeAt xb 4 (iC o.I)
  S : W.rangeAt xb 18 (iC o.S)
  i : W.cell? ⟨xb, 30, none⟩ = some (.int .u16 o.i)
  a : W.cell? ⟨xb, 31, none⟩ = some (.int .u16 o.a)
theorem O13.drop4 (o : O13) : o.cells.drop 4 = iC o.I ++ (iC o.S ++ [.int .u16 o.i, .int .u16 o.a]) := rfl
theorem O13.drop18 {o : O13} (h : o.ok) : o.cells.drop 18 = iC o.S ++ [.int .u16 o.i, .int .u16 o.a] := by
  rw [show 18 = 4 + 14 from rfl, ← List.drop_drop, o.drop4]
  exact List.drop_left' (by rw [iC_length, h.I])
theorem O13.drop30 {o : O13} (h : o.ok) : o.cells.drop 30 = [.int .u16 o.i, .int .u16 o.a] := by
  rw [show 30 = 18 + 12 from rfl, ← List.drop_drop, o.drop18 h]
  exact List.drop_left' (by rw [iC_length, h.S])
theorem range13 {W : World} {b off : Nat} {o : O13} (hr : W.rangeAt b off o.cells) (h : o.ok) :
    W.cell? ⟨b, off, none⟩ = some (.int .i64 o.k) ∧ W.cell? ⟨b, off + 3, none⟩ = some (.int .i64 o.n) := ⟨hr 0 _ rfl, hr 3 _ rfl⟩
theorem box13 {W : World} {xb : Nat} {o : O13} {T : TypeId} (hr : W.heap[xb]? = some (.cells o.cells.toArray T (0, 0))) (h : o.ok) : Box13 W xb o := by
  have hc : ∀ j v, o.cells[j]? = some v → W.cell? ⟨xb, j, none⟩ = some v := fun j v hv => by
    rw [cell_of_row _ _ _ _ _ _ hr]; simpa using hv
  refine ⟨hc 0 _ rfl, hc 1 _ rfl, hc 2 _ rfl, hc 3 _ rfl, range_row hr ?_, range_row hr ?_, hc 30 _ ?_, hc 31 _ ?_⟩
  · rw [o.drop4]; exact List.take_left' rfl
  · rw [o.drop18 h]; exact List.take_left' rfl
  · have := congrArg (·[0]?) (o.drop30 h); simpa using this
  · have := congrArg (·[1]?) (o.drop30 h); simpa using this
theorem wpList_load_numsw {ops : Array Oper} {rest : List Oper} {op : Oper} {a : Act} {w : World} {Q : Exit → Act → World → Prop} (hw : Region.wanted op (yielded ops a.tmps) = true) (T : TypeId) (x : Operand) (ho : op.op = .load T x)
    (b o : Nat) (hx : a.eval x = .pointer (some ⟨b, o, none⟩)) (l : List Int) (d : TypeDesc) (hc : w.rangeAt b o (iC l))
    (hu : Tryz.prog.underlying T = some d) (hd : d.isRow = true) (hi : (Tryz.prog.info? T).map (·.size) = some l.length)
    (h : wpList Tryz.prog ops Q rest (a.put op.dst (.agg (iC l).toArray)) w) : wpList Tryz.prog ops Q (op :: rest) a w :=
  wpList_step fun K hK => by rw [if_pos hw]; exact wp_load_mid T x ho b o hx (iC l) d hc hu hd (by rw [hi, iC_length]) (hK _ _ h)
theorem q1 {α : Type _} (l : List α) (i : Nat) (a : α) : l.toArray.setIfInBounds i a = (l.set i a).toArray := List.setIfInBounds_toArray l i a
theorem q2 {α : Type _} {x : α} {xs : List α} {a : α} : (x :: xs).set 0 a = a :: xs := List.set_cons_zero
theorem q3 {α : Type _} {x : α} {xs : List α} {i : Nat} {a : α} : (x :: xs).set (i + 1) a = x :: xs.set i a := List.set_cons_succ
theorem q4 {α : Type _} {xs : List α} {i : Nat} (h : i < xs.toArray.size) : xs.toArray[i] = xs[i]'(by simpa using h) := List.getElem_toArray h
theorem q5 {α : Type _} (a : α) (l : List α) (h : 0 < (a :: l).length) : (a :: l)[0] = a := List.getElem_cons_zero a l h
theorem q6 {α : Type _} (a : α) (l : List α) (i : Nat) (h : i + 1 < (a :: l).length) : (a :: l)[i + 1] = l[i]'(by simpa using h) := List.getElem_cons_succ a l i h
theorem tk {P : Program} {ops : Array Oper} {Q : Exit → Act → World → Prop} {md : Region.Mode} {S : World → Prop} (i : Nat) {oi : Oper} (v : Value) {fuel : Nat} {listed : Array Bool} {a : Act} {w : World} (hi : ops[i]? = some oi)
    (hb : (Region.noSelect ops && (Region.free md ops listed i && (Region.ready md ops listed).contains i)) = true)
    (hQ : ∀ c a w, Q (.panic c) (a.put oi.dst v) w → Q (.panic c) a w) (hy : YieldsIf P ops S oi v a) (hS : S w)
    (h : wpAnyH P md ops Q S fuel (listed.setIfInBounds i true) (a.put oi.dst v) w) : wpAnyH P md ops Q S (fuel + 1) listed a w := by
  rw [Bool.and_eq_true, Bool.and_eq_true] at hb
  exact wpAnyH_take hi hb.1 hb.2.1 hb.2.2 hQ hy hS h
def mC (N : List (List Int)) (S : List Int) (r : Value) : List Value := N.flatMap iC ++ (iC S ++ [r])
theorem flat48 {N : List (List Int)} (h : N.length = 48) (h14 : Len14 N) : (N.flatMap iC).length = 672 := by
  rw [flat_length (s := 14) (fun x hx => by rw [iC_length]; exact h14 x hx), h]
theorem mC_length {N : List (List Int)} {S : List Int} (h : N.length = 48) (h14 : Len14 N) (hS : S.length = 12) (r : Value) : (mC N S r).length = 685 := by
  unfold mC; rw [List.length_append, List.length_append, flat48 h h14, iC_length, hS]; rfl
structure MAt (w : World) (bm : Nat) (N : List (List Int)) (S : List Int) (r : Value) : Prop where
  row : w.heap[bm]? = some (.cells (mC N S r).toArray 47 (0, 0))
  len : N.length = 48
  l14 : Len14 N
  s12 : S.length = 12
section
variable {w w' : World} {bm : Nat} {N : List (List Int)} {S : List Int} {r : Value}
theorem MAt.low (h : MAt w bm N S r) (hb : Below w.heap.size w w') : MAt w' bm N S r := { h with row := below_hold h.row hb }
theorem MAt.lt (h : MAt w bm N S r) : bm < w.heap.size := (Array.getElem?_eq_some_iff.1 h.row).1
theorem MAt.of (h : MAt w bm N S r) (he : w'.heap[bm]? = w.heap[bm]?) : MAt w' bm N S r := { h with row := he.trans h.row }
theorem MAt.ino (h : MAt w bm N S r) {k : Nat} (hk : k < 48) : w.rangeAt bm (k * 14) (iC (N.getD k [])) := by
  have hl : k < N.length := by rw [h.len]; exact hk
  have e := flat_get (f := iC) (s := 14) (L := N) (fun x hx => by rw [iC_length]; exact h.l14 x hx) k hl
  refine range_row h.row ?_
  have hx : N.getD k [] = N[k] := by rw [List.getD_eq_getElem?_getD, List.getElem?_eq_getElem hl]; rfl
  have h14 : (iC N[k]).length = 14 := by rw [iC_length]; exact h.l14 _ (List.getElem_mem hl)
  rw [hx, h14, mC, List.drop_append_of_le_length (by rw [flat48 h.len h.l14]; omega), List.take_append_of_le_length (by rw [List.length_drop, flat48 h.len h.l14]; omega)]
  exact e
theorem MAt.drop (h : MAt w bm N S r) (j : Nat) : (mC N S r).drop (672 + j) = (iC S ++ [r]).drop j := by
  rw [mC, ← List.drop_drop, List.drop_left' (flat48 h.len h.l14)]
theorem MAt.sup (h : MAt w bm N S r) : w.rangeAt bm 672 (iC S) := range_row h.row (by
  have := h.drop 0
  rw [Nat.add_zero, List.drop_zero] at this
  rw [this]; exact List.take_left' rfl)
theorem MAt.tbl (h : MAt w bm N S r) : w.rangeAt bm 678 (iC (S.drop 6)) := range_row h.row (by
  have := h.drop 6
  rw [this, List.drop_append_of_le_length (by rw [iC_length, h.s12]; decide), show (iC S).drop 6 = iC (S.drop 6) from List.map_drop.symm]; exact List.take_left' rfl)
theorem MAt.num (h : MAt w bm N S r) {j : Nat} (hj : j < 12) : w.cell? ⟨bm, 672 + j, none⟩ = some (.int .i64 (num S j)) := by
  refine h.sup j _ ?_
  unfold iC Go.Proofs.YtekeoljfdnfbgaaGreat.num
  rw [List.getElem?_map, List.getElem?_eq_getElem (by rw [h.s12]; exact hj), List.getD_eq_getElem?_getD, List.getElem?_eq_getElem (by rw [h.s12]; exact hj)]; rfl
theorem MAt.ptr (h : MAt w bm N S r) : w.cell? ⟨bm, 684, none⟩ = some r := by
  rw [cell_of_row _ _ _ _ _ _ h.row]
  have := h.drop 12
  rw [List.drop_left' (by rw [iC_length, h.s12])] at this
  have := congrArg (·[0]?) this
  simpa using this
theorem mC_setI (hl : N.length = 48) (h14 : Len14 N) {k : Nat} (hk : k < 48) {x : List Int} (hx : x.length = 14) : splice (mC N S r) (k * 14) (iC x) = mC (N.set k x) S r := by
  have e := flat_set (f := iC) (s := 14) (L := N) (fun x hx => by rw [iC_length]; exact h14 x hx) k (by rw [hl]; exact hk) x (by rw [iC_length]; exact hx)
  have h672 := flat48 hl h14
  unfold mC splice at *
  rw [← e, List.take_append_of_le_length (by omega), iC_length, hx, List.drop_append_of_le_length (by omega)]
  simp
theorem mC_setS (hl : N.length = 48) (h14 : Len14 N) (hS : S.length = 12) {L : List Int} (hL : L.length = 12) : splice (mC N S r) 672 (iC L) = mC N L r := by
  have h672 := flat48 hl h14
  unfold mC splice
  rw [List.take_left' h672, iC_length, hL, ← List.drop_drop, List.drop_left' h672, List.drop_left' (by rw [iC_length, hS])]
theorem set14 (h14 : Len14 N) (k : Nat) {x : List Int} (hx : x.length = 14) : Len14 (N.set k x) := fun y hy => by
  rcases List.mem_or_eq_of_mem_set hy with h | h
  · exact h14 y h
  · rw [h]; exact hx
end
theorem wp_store_part {op : Oper} {a : Act} {w : World} {K : Act → World → Prop} {Q : Exit → Act → World → Prop} (T : TypeId) (x y : Operand) (ho : op.op = .store T x y) (g o : Nat) (cur c : List Value) (t : TypeId)
    (hx : a.eval x = .pointer (some ⟨g, o, none⟩)) (hy : a.eval y = .agg c.toArray) (hs : (Tryz.prog.info? T).map (·.size) = some c.length) (hg : w.heap[g]? = some (.cells cur.toArray t (0, 0))) (hl : o + c.length ≤ cur.length) (h1 : ∀ v ∈ c, v.oneCell' = true)
    (h : ∀ w', Wrote w w' g → w'.heap[g]? = some (.cells (splice cur o c).toArray t (0, 0)) → K (a.put op.dst undef) w') : op.wp Tryz.prog a w K Q := by
  refine wp_store_mid T x y ho g o c.toArray hx hy (there_row hg (by simpa using hl)) (by rw [hs]; simp) (all_oneCell_toArray h1) ?_
  have e := setCells_row hg hl h1
  rw [show c.toArray.toList = c from rfl, e]
  exact h _ (Wrote.setRow _ _ _) (setRow_heap _ _ _ _ _ _ hg)
theorem wpList_store_part {ops : Array Oper} {rest : List Oper} {op : Oper} {a : Act} {w : World} {Q : Exit → Act → World → Prop} (hgd : op.guard = none) (T : TypeId) (x y : Operand) (ho : op.op = .store T x y) (g o : Nat) (cur c : List Value) (t : TypeId)
    (hx : a.eval x = .pointer (some ⟨g, o, none⟩)) (hy : a.eval y = .agg c.toArray) (hs : (Tryz.prog.info? T).map (·.size) = some c.length) (hg : w.heap[g]? = some (.cells cur.toArray t (0, 0))) (hl : o + c.length ≤ cur.length) (h1 : ∀ v ∈ c, v.oneCell' = true)
    (h : ∀ w', Wrote w w' g → w'.heap[g]? = some (.cells (splice cur o c).toArray t (0, 0)) → wpList Tryz.prog ops Q rest (a.put op.dst undef) w') : wpList Tryz.prog ops Q (op :: rest) a w :=
  wpList_plain hgd fun _ hK => wp_store_part T x y ho g o cur c t hx hy hs hg hl h1 fun w' a b => hK _ _ (h w' a b)
theorem zeroM_l14 : Len14 (List.replicate 48 zeroI) := fun x hx => by rw [List.eq_of_mem_replicate hx]; rfl
theorem infoM13 : (Tryz.prog.info? 47).map (fun i => (i.zero, i.size, i.bytes)) = some (some (.agg (mC (List.replicate 48 zeroI) (List.replicate 12 0) (.pointer none)).toArray), 685, 5480) := by kernel_rfl
theorem build_m13 {S : List Int} (hS : S.length = 12) (r : Option Addr) : Tryz.prog.built 47 [(1, .agg (iC S).toArray), (2, .pointer r)] = some (mC (List.replicate 48 zeroI) S (.pointer r)).toArray := by
  have hz := flat48 (N := List.replicate 48 zeroI) rfl zeroM_l14
  obtain ⟨it, h2, h3, h4, h5⟩ := info_parts infoM13
  have hu : Tryz.prog.underlying 47 = _ := Tryz.underlying47
  unfold Program.built
  rw [h2, hu]
  simp only [h3]
  generalize hm : (List.mapM (m := Option) _ _ : Option (List (Nat × Nat))) = m
  have hm' : m = some [(0, 672), (672, 12), (684, 1)] := by rw [← hm]; kernel_rfl
  subst hm'
  clear hm
  show Instr.fill _ (mC (List.replicate 48 zeroI) (List.replicate 12 0) (.pointer none)).toArray _ = _
  have l0 := mC_length (N := List.replicate 48 zeroI) (S := List.replicate 12 0) rfl zeroM_l14 rfl (.pointer none)
  have l1 := mC_length (N := List.replicate 48 zeroI) (S := S) rfl zeroM_l14 hS (.pointer none)
  rw [fill_cons _ _ 1 672 12 (.agg (iC S).toArray) (iC S) _ rfl rfl (by rw [iC_length, hS]) (by omega), mC_setS rfl zeroM_l14 rfl hS,
    fill_cons _ _ 2 684 1 (.pointer r) [.pointer r] _ rfl rfl rfl (by omega)]
  have e : splice (mC (List.replicate 48 zeroI) S (.pointer none)) 684 [.pointer r] = mC (List.replicate 48 zeroI) S (.pointer r) := by
    have h684 : ((List.replicate 48 zeroI).flatMap iC ++ iC S).length = 684 := by rw [List.length_append, hz, iC_length, hS]
    have ea : mC (List.replicate 48 zeroI) S (.pointer none) = ((List.replicate 48 zeroI).flatMap iC ++ iC S) ++ [.pointer none] := (List.append_assoc _ _ _).symm
    rw [ea]
    unfold mC splice
    rw [List.take_left' h684, List.drop_of_length_le (by rw [List.length_append, h684]; exact Nat.le_refl _)]
    simp
  rw [e]; rfl
def MOut (w : World) (bm : Nat) (N : List (List Int)) (S : List Int) (r v : Value) (e : Ending) (w' : World) : Prop := e = .returned v ∧ MAt w' bm N S r ∧ KeptG w w' bm
section
variable {w : World} {bm : Nat} {N : List (List Int)} {S : List Int} {r : Value}
theorem mPut_bad (h : MAt w bm N S r) {n : Int} {x : List Int} (hx : x.length = 14) (hno : frmI x = false ∨ n < 1 ∨ 47 < n) : Calls Tryz.prog 27 #[.pointer (some ⟨bm, 0, none⟩), .int .i64 n, .agg (iC x).toArray] w (MOut w bm N S r (.int .i64 1)) := by
  have hb1 := below_box w (iO x 32)
  have hr1 := heap_alloc_new w (iO x 32)
  obtain ⟨w1, hw1⟩ : ∃ w1, w1 = w.alloc (iO x 32) := ⟨_, rfl⟩
  rw [← hw1] at hb1 hr1
  have h1 : w.alloc (.cells (iC x).toArray 32) = w1 := by rw [hw1]; rfl
  have H1 := Lib.hid h1
  have hrg : w1.rangeAt w.heap.size 0 (iC x) := io_range hr1
  have HX := Lib.hid hx
  have u1 := Tryz.underlying32
  have HRG := Lib.hid hrg
  have HO : Hid (∀ W, Below w.heap.size w W → MOut w bm N S r (.int .i64 1) (.returned (.int .i64 1)) W) := Lib.hid fun W hb => ⟨rfl, h.low hb, (KeptG.refl w bm).then hb⟩
  by_cases hn : n < 1
  · clear h1 hw1 hr1 hno hx hrg h
    go_enter Tryz.func27, Tryz.ntmps27
    go_upto_region 1 with (fail)
    rw [H1.out]
    go_wp2
    go_ret
    exact HO.out _ hb1
  by_cases hn2 : 47 < n
  · clear h1 hw1 hr1 hno hx hrg h
    go_enter Tryz.func27, Tryz.ntmps27
    go_upto_region 1 with (fail)
    rw [H1.out]
    go_wp2
    go_ret
    exact HO.out _ hb1
  have hfx : frmI x = false := by rcases hno with h | h | h <;> first | exact h | omega
  have KF := Lib.hid (rForm_is hx false hfx)
  clear h1 hw1 hr1 hno hfx hx hrg h
  go_enter Tryz.func27, Tryz.ntmps27
  go_upto_region 1 with (fail)
  rw [H1.out]
  have hrg := HRG.out
  go_wp2_with (first
    | (with_reducible refine wpList_load_numsw rfl 32 (.tmp 5) rfl w.heap.size 0 rfl x _ hrg u1 rfl (by rw [sizeRI, HX.out]) ?_)
    | (go_at_call 67; refine (KF.out _).mono ?_; rintro e w2 ⟨rfl, hb2⟩))
  go_ret
  exact HO.out _ (hb1.trans (hb2.mono hb1.size))
set_option maxHeartbeats 1000000 in
theorem mPut_yes (h : MAt w bm N S r) {k : Nat} (k1 : 1 ≤ k) (k48 : k < 48) {x : List Int} (hx : x.length = 14) (hfx : frmI x = true) : Calls Tryz.prog 27 #[.pointer (some ⟨bm, 0, none⟩), .int .i64 k, .agg (iC x).toArray] w (MOut w bm (N.set k x) S r (.int .i64 0)) := by
  have hb1 := below_box w (iO x 32)
  have hr1 := heap_alloc_new w (iO x 32)
  obtain ⟨w1, hw1⟩ : ∃ w1, w1 = w.alloc (iO x 32) := ⟨_, rfl⟩
  rw [← hw1] at hb1 hr1
  have h1 : w.alloc (.cells (iC x).toArray 32) = w1 := by rw [hw1]; rfl
  have H1 := Lib.hid h1
  have HX := Lib.hid hx
  have u1 := Tryz.underlying32
  have HR1 : Hid (∀ V, Below w1.heap.size w1 V → V.rangeAt w.heap.size 0 (iC x)) := Lib.hid fun V hv => io_range (below_hold hr1 hv)
  have KF := Lib.hid (rForm_is hx true hfx)
  have HM : Hid (∀ V, Below w.heap.size w V → V.heap[bm]? = some (.cells (mC N S r).toArray 47 (0, 0))) := Lib.hid fun V hv => (h.low hv).row
  have HL : Hid (k * 14 + (iC x).length ≤ (mC N S r).length) := Lib.hid (by rw [mC_length h.len h.l14 h.s12, iC_length, hx]; omega)
  have HE := Lib.hid (mC_setI (S := S) (r := r) h.len h.l14 k48 hx)
  have HO : Hid (∀ V W, Below w.heap.size w V → Wrote V W bm → W.heap[bm]? = some (.cells (mC (N.set k x) S r).toArray 47 (0, 0)) → MOut w bm (N.set k x) S r (.int .i64 0) (.returned (.int .i64 0)) W) := Lib.hid fun V W hb hw hr => ⟨rfl, ⟨hr, by rw [List.length_set]; exact h.len, set14 h.l14 k hx, h.s12⟩, ((KeptG.refl w bm).then hb).wrote hw⟩
  have e1 : ¬ (k : Int) < 1 := by omega
  have e2 : ¬ (47 : Int) < (k : Int) := by omega
  have e48 : (k : Int) < 48 := by omega
  clear h1 hw1 hr1 hfx hx h
  go_enter Tryz.func27, Tryz.ntmps27
  go_upto_region 1 with (fail)
  rw [H1.out]
  have hrg := HR1.out _ (Below.refl _ _)
  go_upto_region 3 with (first
    | (with_reducible refine wpList_load_numsw rfl 32 (.tmp 5) rfl w.heap.size 0 rfl x _ hrg u1 rfl (by rw [sizeRI, HX.out]) ?_)
    | (go_at_call 67; refine (KF.out _).mono ?_; rintro e w2 ⟨rfl, hb2⟩))
  have hbd : Below w1.heap.size w1 w2.drew := hb2.drew
  have HB := Lib.hid (hb1.trans (hbd.mono hb1.size))
  have hS : w2.drew.rangeAt w.heap.size 0 (iC x) := HR1.out _ hbd
  clear hrg
  refine wp_region_held_drew (S := fun W => W.rangeAt w.heap.size 0 (iC x)) (by kernel_rfl) hS (fun hHeld => ?_)
  clear hHeld
  refine tk 0 (.pointer (some ⟨bm, 0, none⟩)) rfl (by kernel_rfl) (fun _ _ _ h => h) (Or.inl ⟨by rfl, ?_⟩) (by assumption) ?_
  · intro W hs; go_simp
  (try simp only [Act.put, q1, q2, q3, q4, q5])
  refine tk 1 (.int .i64 k) rfl (by kernel_rfl) (fun _ _ _ h => h) (Or.inl ⟨by rfl, ?_⟩) (by assumption) ?_
  · intro W hs; go_simp
  (try simp only [Act.put, q1, q2, q3, q4, q5, q6])
  refine tk 2 (.agg (iC x).toArray) rfl (by kernel_rfl) (fun _ _ _ h => h) (yieldsIf_load_mid rfl 32 (.tmp 5) rfl w.heap.size 0 rfl (iC x) _ (fun W hW => hW) u1 rfl (by rw [sizeRI, iC_length, HX.out])) (by assumption) ?_
  (try simp only [Act.put, q1, q2, q3, q4, q5, q6])
  refine tk 3 (.pointer (some ⟨bm, 0, none⟩)) rfl (by kernel_rfl) (fun _ _ _ h => h) (Or.inl ⟨by rfl, ?_⟩) (by assumption) ?_
  · intro W hs; go_simp
  (try simp only [Act.put, q1, q2, q3, q4, q5, q6])
  refine tk 4 (.pointer (some ⟨bm, 0, none⟩)) rfl (by kernel_rfl) (fun _ _ _ h => h) (Or.inl ⟨by rfl, ?_⟩) (by assumption) ?_
  · intro W hs; go_simp
  (try simp only [Act.put, q1, q2, q3, q4, q5, q6])
  refine tk 5 (.pointer (some ⟨bm, k * 14, none⟩)) rfl (by kernel_rfl) (fun _ _ _ h => h) (Or.inl ⟨by rfl, ?_⟩) (by assumption) ?_
  · intro W hs; go_simp
  (try simp only [Act.put, q1, q2, q3, q4, q5, q6])
  refine wpAnyH_ready (rs := [6]) (by kernel_rfl) (by simp) (AllReadyH.cons rfl (fun K hK => ?_) AllReadyH.nil)
  rw [if_pos (by rfl)]
  refine wp_store_part 32 (.tmp 23) (.tmp 20) rfl bm (k * 14) (mC N S r) (iC x) 47 rfl rfl (by rw [sizeRI, iC_length, HX.out]) (HM.out _ HB.out) HL.out (iC_one _) fun w4 hw4 hr4 => ?_
  rw [HE.out] at hr4
  have hs4 : w4.rangeAt w.heap.size 0 (iC x) := by
    have hne : w.heap.size ≠ bm := by have := (Array.getElem?_eq_some_iff.1 (HM.out w (Below.refl _ _))).1; omega
    exact fun j v hv => (World.cell?_of_block (a := ⟨w.heap.size, 0 + j, none⟩) (hw4.2.2.2.2 _ hne)).trans (hS j v hv)
  refine hK.out _ _ hs4 (fun hHeld => ?_)
  clear hK K hHeld hS
  (try simp only [Act.put, q4, q5, q6])
  refine wpAnyH_done (by kernel_rfl) ?_ _
  go_wp2
  go_ret
  exact HO.out _ _ HB.out hw4 hr4
theorem mPut_of (h : MAt w bm N S r) {n E : Int} {x : List Int} (hx : x.length = 14) {N2 : List (List Int)} (hp : putP N n x E N2) : Calls Tryz.prog 27 #[.pointer (some ⟨bm, 0, none⟩), .int .i64 n, .agg (iC x).toArray] w (MOut w bm N2 S r (.int .i64 E)) := by
  rcases hp with ⟨hno, rfl, rfl⟩ | ⟨hf, k, rfl, k1, k48, rfl, rfl⟩
  · exact mPut_bad h hx hno
  · exact mPut_yes h k1 k48 hx hf
theorem mSet_of (h : MAt w bm N S r) {L : List Int} (hL : L.length = 12) (hT : Top L) {E : Int} {S2 : List Int} (hp : setP S L E S2) : Calls Tryz.prog 29 #[.pointer (some ⟨bm, 0, none⟩), .agg (iC L).toArray] w (MOut w bm N S2 r (.int .i64 E)) := by
  have hb1 := below_box w (iO L 35)
  have hr1 := heap_alloc_new w (iO L 35)
  obtain ⟨w1, hw1⟩ : ∃ w1, w1 = w.alloc (iO L 35) := ⟨_, rfl⟩
  rw [← hw1] at hb1 hr1
  have h1 : w.alloc (.cells (iC L).toArray 35) = w1 := by rw [hw1]; rfl
  have H1 := Lib.hid h1
  have HL := Lib.hid hL
  have u1 := Tryz.underlying35
  have HR1 : Hid (∀ V, Below w1.heap.size w1 V → V.rangeAt w.heap.size 0 (iC L)) := Lib.hid fun V hv => io_range (below_hold hr1 hv)
  rcases hp with ⟨hf, rfl, rfl⟩ | ⟨hf, rfl, rfl⟩
  · have KF : Hid (∀ V : World, Calls Tryz.prog 68 #[.agg (iC L).toArray] V fun e w' => e = .returned (.bool false) ∧ Below V.heap.size V w') := Lib.hid (rFormS_is hL hT false hf)
    clear h1 hw1 hr1 hL hT hf
    go_enter Tryz.func29, Tryz.ntmps29
    go_upto_region 1 with (fail)
    rw [H1.out]
    have hrg := HR1.out _ (Below.refl _ _)
    go_wp2_with (first
      | (with_reducible refine wpList_load_nums rfl 35 (.tmp 3) rfl w.heap.size 0 rfl L _ hrg u1 rfl (by rw [sizeRS, HL.out]) ?_)
      | (go_at_call 68; refine (KF.out _).mono ?_; rintro e w2 ⟨rfl, hb2⟩))
    go_ret
    have hb := hb1.trans (hb2.mono hb1.size)
    exact ⟨rfl, h.low hb, (KeptG.refl w bm).then hb⟩
  · have KF : Hid (∀ V : World, Calls Tryz.prog 68 #[.agg (iC S2).toArray] V fun e w' => e = .returned (.bool true) ∧ Below V.heap.size V w') := Lib.hid (rFormS_is hL hT true hf)
    have HM : Hid (∀ V, Below w.heap.size w V → V.heap[bm]? = some (.cells (mC N S r).toArray 47 (0, 0))) := Lib.hid fun V hv => (h.low hv).row
    have HLE : Hid (672 + (iC S2).length ≤ (mC N S r).length) := Lib.hid (by rw [mC_length h.len h.l14 h.s12, iC_length, hL]; decide)
    have HE := Lib.hid (mC_setS (N := N) (S := S) (r := r) h.len h.l14 h.s12 hL)
    have HO : Hid (∀ V W, Below w.heap.size w V → Wrote V W bm → W.heap[bm]? = some (.cells (mC N S2 r).toArray 47 (0, 0)) → MOut w bm N S2 r (.int .i64 0) (.returned (.int .i64 0)) W) := Lib.hid fun V W hb hw hr => ⟨rfl, ⟨hr, h.len, h.l14, hL⟩, ((KeptG.refl w bm).then hb).wrote hw⟩
    clear h1 hw1 hr1 hL hT hf h
    go_enter Tryz.func29, Tryz.ntmps29
    go_upto_region 1 with (fail)
    rw [H1.out]
    have hrg := HR1.out _ (Below.refl _ _)
    go_wp2_with (first
      | (with_reducible refine wpList_load_nums rfl 35 (.tmp 3) rfl w.heap.size 0 rfl S2 _ hrg u1 rfl (by rw [sizeRS, HL.out]) ?_)
      | (go_at_call 68; refine (KF.out _).mono ?_; rintro e w2 ⟨rfl, hb2⟩
         have hrg2 := HR1.out _ hb2
         have hb02 := hb1.trans (hb2.mono hb1.size)
         have hm2 := HM.out _ hb02)
      | (with_reducible refine wpList_load_nums rfl 35 (.tmp 3) rfl w.heap.size 0 rfl S2 _ hrg2 u1 rfl (by rw [sizeRS, HL.out]) ?_)
      | (with_reducible refine wpList_store_part rfl 35 (.tmp 11) (.tmp 9) rfl bm 672 (mC N S r) (iC S2) 47 rfl rfl (by rw [sizeRS, iC_length, HL.out]) hm2 HLE.out (iC_one _) ?_
         intro w4 hw4 hr4
         rw [HE.out] at hr4))
    go_ret
    exact HO.out _ _ hb02 hw4 hr4
end
end Go.Proofs.YtekeoljfdnfbgaaGreat
