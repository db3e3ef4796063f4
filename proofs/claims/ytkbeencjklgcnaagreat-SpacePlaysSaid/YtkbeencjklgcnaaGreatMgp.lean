/- Texts that the law rests on besides. -/
import Derived.Deep.Slices
import Derived.Deep.Fields
import Derived.ProofKit
import Derived.OpenShut
import Derived.Deep.RegionHeld3
import Derived.Deep.Cut
import Derived.OrdersHeld
import Derived.BigQuiet
import Derived.Test.YtkbeencjklgcnaaGreatRows
import Derived.WalkKit
import Derived.ShutString
import Derived.ChangeOld
import Derived.Below
import Derived.Test.YtkbeencjklgcnaaGreatMg24

/- A call of layer 12, as its laws make one: Begin, the call, End; store and reference side by side. -/
namespace Go.Proofs.YtkbeencjklgcnaaGreat
set_option maxRecDepth 100000
open Go.RowKit
set_option linter.unusedVariables false

theorem sized12_is (x : Int) (hx : 0 ≤ x ∧ x ≤ 255) (w : World) : Calls Tryz.prog 8 #[.int .u8 x] w fun e w' => ∃ kk : Nat, (1 ≤ kk ∧ kk ≤ 12) ∧ (kk : Int) = 1 + x % 12 ∧ e = .returned (.int .i64 (64 * (kk : Int))) ∧ w = w' := by
  obtain ⟨r, hr⟩ : ∃ r : Nat, (r : Int) = x % 12 := ⟨(x % 12).toNat, by omega⟩
  have hr12 : r < 12 := by omega
  have ht : x.tmod 12 = r := by rw [Int.tmod_eq_emod_of_nonneg hx.1]; exact hr.symm
  have hr1 : (r : Int) < 12 := by omega
  have HR := Lib.hid hr
  have HT := Lib.hid ht
  clear hr
  go_enter Tryz.func8, Tryz.ntmps8
  go_wp2
  go_ret
  exact ⟨r + 1, by omega, by have := HR.out; omega, ret_i (show 64 * (1 + (r : Int)) = 64 * ((r + 1 : Nat) : Int) by omega), rfl⟩
/-- The store (outside a call) and the reference, side by side; w0: the world that the law began with. -/
structure Side (w0 w : World) (P M : Nat → Prop) (d p r : Value) (X : XSt) (n : Int) (O : List (Int × Int)) (kk : Nat) : Prop where
  inv : SInv w P d p X
  wi : X.wi = false
  fu : X.ds.fu = false
  has : Has X.is O kk
  ok : OOk O kk
  sp : RSp w M r n O
  pN : ∀ x, P x → w0.heap.size ≤ x
  mN : ∀ x, M x → w0.heap.size ≤ x
  ap : ∀ x, M x → ¬ P x
  be : Below w0.heap.size w0 w
def PM (P M : Nat → Prop) (k : Nat) : Prop := P k ∨ M k
theorem Chg.pm {w w' : World} {P P' : Nat → Prop} (h : Chg P P' w w') (M : Nat → Prop) : Chg (PM P M) (PM P' M) w w' := ⟨h.os, h.tape, h.output, h.size, fun k hk hn => ⟨(h.keep k hk fun e => hn (.inl e)).1, fun e => e.elim (fun e => (h.keep k hk fun e => hn (.inl e)).2 e) fun e => hn (.inr e)⟩⟩
theorem Chg.mp {w w' : World} {M : Nat → Prop} (h : Chg M M w w') (P : Nat → Prop) : Chg (PM P M) (PM P M) w w' := ⟨h.os, h.tape, h.output, h.size, fun k hk hn => ⟨(h.keep k hk fun e => hn (.inr e)).1, hn⟩⟩
/-- .. within a call of which nothing is put. -/
def callX (X : XSt) : XSt := { X with call := X.is, put := [], wi := true }
theorem RSp.chg {w w' : World} {P P' M : Nat → Prop} {r : Value} {n : Int} {O : List (Int × Int)} (h : RSp w M r n O) (hc : Chg P P' w w') (ha : ∀ x, M x → ¬ P x) : RSp w' M r n O ∧ ∀ x, M x → ¬ P' x := by
  obtain ⟨b, v, e, hr, ho, hM⟩ := h
  have hk : ∀ x, M x → w'.heap[x]? = w.heap[x]? ∧ ¬ P' x := fun x hx => hc.keep x (RSp.lt ⟨b, v, e, hr, ho, hM⟩ hx) (ha x hx)
  exact ⟨⟨b, v, e, (hk b ((hM b).2 (.inl rfl))).1.trans hr, ⟨ho.1, ownsRow_keep ho.2 fun g hg => (hk g ((hM g).2 (.inr hg))).1⟩, hM⟩, fun x hx => (hk x hx).2⟩
/-- The same, within a call: X its state. -/
structure Mid (w0 w : World) (P M : Nat → Prop) (d p r : Value) (X : XSt) (n : Int) (O O2 : List (Int × Int)) (kk : Nat) : Prop where
  inv : SInv w P d p X
  wi : X.wi = true
  fu : X.ds.fu = false
  has : Has X.is O kk
  has2 : Has X.call O2 kk
  ok : OOk O kk
  pN : ∀ x, P x → w0.heap.size ≤ x
  mN : ∀ x, M x → w0.heap.size ≤ x
  ap : ∀ x, M x → ¬ P x
  sz : w0.heap.size ≤ w.heap.size
  be : Below w0.heap.size w0 w
section
variable {w0 w : World} {P M : Nat → Prop} {d p r : Value} {X : XSt} {n : Int} {O O2 : List (Int × Int)} {kk : Nat}
theorem chg_base {P' : Nat → Prop} {w' : World} (hb : Below w0.heap.size w0 w) (hP : ∀ x, P x → w0.heap.size ≤ x) (hc : Chg P P' w w') : Below w0.heap.size w0 w' ∧ ∀ x, P' x → w0.heap.size ≤ x := by
  have hs := hb.size
  refine ⟨hb.trans (hc.below fun x hx => ⟨by omega, fun hp => by have := hP x hp; omega⟩), fun x hx => ?_⟩
  rcases chg_new hc hx with h | h
  · exact hP x h
  · omega
theorem Side.begin (h : Side w0 w P M d p r X n O kk) : Calls Tryz.prog 14 #[p] w fun e w' => e = .returned (.int .i64 0) ∧ ∃ P', Mid w0 w' P' M d p r (callX X) n O O kk ∧ RSp w' M r n O ∧ Chg (PM P M) (PM P' M) w w' := by
  refine (landed.begin h.inv).mono fun e w' ⟨he, P', hi, hc⟩ => ?_
  have e1 : xBegin X = (0, callX X) := by unfold xBegin; rw [if_neg (by rw [h.wi]; decide)]; rfl
  rw [e1] at he hi
  obtain ⟨hs, ha⟩ := h.sp.chg hc h.ap
  obtain ⟨hb, hp⟩ := chg_base h.be h.pN hc
  exact ⟨he, P', ⟨hi, rfl, h.fu, h.has, h.has, h.ok, hp, h.mN, ha, hb.size, hb⟩, hs, hc.pm M⟩
/-- End: kept. -/
theorem Mid.keep (h : Mid w0 w P M d p r X n O O2 kk) (hO : OOk O2 kk) (hs : RSp w M r n O2) : Calls Tryz.prog 17 #[p, .bool true] w fun e w' => e = .returned (.int .i64 0) ∧ ∃ P' X', Side w0 w' P' M d p r X' n O2 kk ∧ Chg (PM P M) (PM P' M) w w' := by
  refine (landed.endKeep h.inv h.wi).mono fun e w' he => ?_
  rcases he with ⟨B, dt, ds', _, hfu, he, P', hi, hc⟩ | ⟨hf, _⟩
  · obtain ⟨hs', ha⟩ := hs.chg hc h.ap
    obtain ⟨hb, hp⟩ := chg_base h.be h.pN hc
    exact ⟨he, P', _, ⟨hi, rfl, by show ds'.fu = false; rw [hfu]; exact h.fu, h.has2, hO, hs', hp, h.mN, ha, hb⟩, hc.pm M⟩
  · rw [h.fu] at hf; cases hf
/-- End: undone. -/
theorem Mid.undo (h : Mid w0 w P M d p r X n O O2 kk) (hs : RSp w M r n O) : Calls Tryz.prog 17 #[p, .bool false] w fun e w' => e = .returned (.int .i64 0) ∧ ∃ P' X', Side w0 w' P' M d p r X' n O kk ∧ Chg (PM P M) (PM P' M) w w' := by
  refine (landed.endUndo h.inv h.wi).mono fun e w' ⟨he, P', hi, hc⟩ => ?_
  obtain ⟨hs', ha⟩ := hs.chg hc h.ap
  obtain ⟨hb, hp⟩ := chg_base h.be h.pN hc
  exact ⟨he, P', _, ⟨hi, rfl, h.fu, h.has, h.ok, hs', hp, h.mN, ha, hb⟩, hc.pm M⟩
theorem Mid.low (h : Mid w0 w P M d p r X n O O2 kk) {w' : World} (hb : Below w.heap.size w w') : Mid w0 w' P M d p r X n O O2 kk :=
  { h with inv := h.inv.low hb, sz := Nat.le_trans h.sz hb.size, be := h.be.trans (hb.mono h.sz) }
/-- Behind a change of the reference's own. -/
theorem Mid.ref (h : Mid w0 w P M d p r X n O O2 kk) {w' : World} (hc : Chg M M w w') : Mid w0 w' P M d p r X n O O2 kk := by
  have hlt := h.inv.lt
  refine { h with inv := h.inv.keep hc.size fun x hx => (hc.keep x (hlt x hx) fun hm => h.ap x hm hx).1, sz := Nat.le_trans h.sz hc.size, be := h.be.trans (hc.below fun x hx => ⟨Nat.lt_of_lt_of_le hx h.sz, fun hm => by have := h.mN x hm; omega⟩) }
/-- Behind a change of the store's. -/
theorem Mid.put {X2 : XSt} {P2 : Nat → Prop} {w' : World} {O3 : List (Int × Int)} (h : Mid w0 w P M d p r X n O O2 kk) (hi : SInv w' P2 d p X2) (hc : Chg P P2 w w') (hw : X2.wi = true) (hf : X2.ds.fu = X.ds.fu) (his : X2.is = X.is) (hh : Has X2.call O3 kk) (hs : RSp w M r n O2) : Mid w0 w' P2 M d p r X2 n O O3 kk ∧ RSp w' M r n O2 := by
  obtain ⟨hs', ha⟩ := hs.chg hc h.ap
  obtain ⟨hb, hp⟩ := chg_base h.be h.pN hc
  exact ⟨⟨hi, hw, by rw [hf]; exact h.fu, by rw [his]; exact h.has, hh, h.ok, hp, h.mN, ha, hb.size, hb⟩, hs'⟩
end
end Go.Proofs.YtkbeencjklgcnaaGreat

/- An argument of type []Owner, opened to its cells. -/
namespace Go.Proofs.YtkbeencjklgcnaaGreat
set_option maxRecDepth 100000
open Go.RowKit Go.ChangeShapes Go.WideShapes
set_option linter.unusedVariables false

theorem owCells : Tryz.prog.cellsOf 32 = 2 := by kernel_rfl
theorem u16Cells : Tryz.prog.cellsOf 30 = 1 := by kernel_rfl

section
variable {H : Type} {enc : TypeId × Value → H} {W : World} {base : Nat} {spare : Nat → Bool} {held : Bool}
/-- One owner's two cells. -/
theorem ow_cells {a : Addr} {i m : Nat} {y : DataW H × List MemPlace} {cs : List Value} (hc : W.cells? base (a.add (i * 2)) 2 = some cs) (ht : DataW.trod enc Tryz.prog W base spare held m 32 cs = some y) :
    ∃ t : Int × Int, W.cell? (a.add (i * 2)) = some (.int .u16 t.1) ∧ W.cell? (a.add (i * 2 + 1)) = some (.int .u16 t.2) ∧ (0 ≤ t.1 ∧ t.1 ≤ 65535) ∧ (0 ≤ t.2 ∧ t.2 ≤ 65535) := by
  obtain ⟨xs, n, _, _, hlen, hxs, hf⟩ := DataW.trod_struct Tryz.underlying32 ht
  obtain ⟨_, hcl, hat⟩ := World.cells?_some hc
  match cs, hcl with
  | [c0, c1], _ =>
    match xs, hxs with
    | [y0, y1], _ =>
      have g0 : DataW.trod enc Tryz.prog W base spare held n 30 [c0] = some y0 := by
        have h0 : DataW.trod enc Tryz.prog W base spare held n 30 (List.take (Tryz.prog.cellsOf 30) (List.drop 0 [c0, c1])) = some y0 := hf 0 _ rfl
        rw [u16Cells] at h0
        exact h0
      have g1 : DataW.trod enc Tryz.prog W base spare held n 30 [c1] = some y1 := by
        have h0 : DataW.trod enc Tryz.prog W base spare held n 30 (List.take (Tryz.prog.cellsOf 30) (List.drop 1 [c0, c1])) = some y1 := hf 1 _ rfl
        rw [u16Cells] at h0
        exact h0
      obtain ⟨k, e0, _, w0⟩ := DataW.trod_int Tryz.underlying30 g0
      obtain ⟨b, e1, _, w1⟩ := DataW.trod_int Tryz.underlying30 g1
      simp only [List.cons.injEq, and_true] at e0 e1
      have a0 := hat 0 (by omega)
      have a1 := hat 1 (by omega)
      simp only [Go.Deep.add_add, List.getElem?_cons_zero, List.getElem?_cons_succ, e0, e1, Nat.add_zero] at a0 a1
      exact ⟨(k, b), a0, a1, bounds_u16 w0, bounds_u16 w1⟩

theorem owsl_of {v : Value} {d : DataW H} {p : List MemPlace} {r : Reach} {b0 : Nat} (hv : Value.okWide Tryz.prog W r b0 35 v) (h : DataW.Trod enc Tryz.prog W base spare held 35 v d p) : ∃ O, OwSl W v O := by
  obtain ⟨a0, len0, cap0, rfl⟩ := okWide_slice Tryz.underlying35 hv
  obtain ⟨fuel, hf⟩ := h
  rcases Go.Deep.open_slice Tryz.underlying35 hf with ⟨hcs, _⟩ | ⟨a, len, cap, m, n, D, Pl, hcs, _, hl, hm, hmm, _, hi⟩
  · simp [Value.cells] at hcs
    obtain ⟨rfl, rfl, rfl⟩ := hcs
    exact ⟨[], owB_of fun j h => by simp at h, .inl ⟨rfl, rfl⟩⟩
  · simp [Value.cells] at hcs
    obtain ⟨rfl, rfl, rfl⟩ := hcs
    have hlm : len0 ≤ m := by rw [hmm]; split <;> omega
    have hex : ∀ i, i < len0 → ∃ t : Int × Int, W.cell? (a.add (i * 2)) = some (.int .u16 t.1) ∧ W.cell? (a.add (i * 2 + 1)) = some (.int .u16 t.2) ∧ (0 ≤ t.1 ∧ t.1 ≤ 65535) ∧ (0 ≤ t.2 ∧ t.2 ≤ 65535) := fun i hi2 => by
      obtain ⟨cs', hc, ht⟩ := hi i (by omega)
      rw [owCells] at hc
      exact ow_cells hc ht
    obtain ⟨f, hfn⟩ := Go.Deep.choose_lt hex
    have hget : ∀ i, i < len0 → ((List.range len0).map f).getD i (0, 0) = f i := fun i hi2 => by
      simp [List.getD_eq_getElem?_getD, hi2]
    refine ⟨(List.range len0).map f, owB_of fun j hj => ?_, .inr ⟨a, cap0, by simp, fun i hi2 => ?_⟩⟩
    · have hj : j < len0 := by simpa using hj
      rw [hget j hj]
      exact (hfn j hj).2.2
    · have hi2 : i < len0 := by simpa using hi2
      obtain ⟨c0, c1, _⟩ := hfn i hi2
      obtain ⟨b, off, spot⟩ := a
      have hsp : spot = none := by
        obtain ⟨z0, _⟩ := hfn 0 (by omega)
        simpa [Addr.add] using World.cell?_spot z0
      subst hsp
      simp only [Addr.add_lit] at c0 c1
      rw [hget i hi2]
      exact ⟨by have := block_lt_of_cell c0; exact this, rfl, c0, by rw [Nat.add_assoc]; exact c1⟩
end
end Go.Proofs.YtkbeencjklgcnaaGreat

/- Arguments of layer 12's laws: Op, []Op, Owner. -/
namespace Go.Proofs.YtkbeencjklgcnaaGreat
set_option maxRecDepth 100000
open Go.RowKit Go.ChangeShapes Go.WideShapes
set_option linter.unusedVariables false

/-- A call of the script. -/
structure O12 where
  k : Int
  b : Int
  l : Int
  g : Int
  n : Int
  i : Int
  a : Int
instance : Inhabited O12 := ⟨⟨0, 0, 0, 0, 0, 0, 0⟩⟩
def in64 (x : Int) : Prop := -9223372036854775808 ≤ x ∧ x ≤ 9223372036854775807
def O12.ok (o : O12) : Prop := in64 o.b ∧ in64 o.l ∧ in64 o.g ∧ in64 o.n ∧ (0 ≤ o.i ∧ o.i ≤ 65535) ∧ (0 ≤ o.a ∧ o.a ≤ 65535)
def O12.cells (o : O12) : List Value := [.int .i64 o.k, .int .i64 o.b, .int .i64 o.l, .int .i64 o.g, .int .i64 o.n, .int .u16 o.i, .int .u16 o.a]
def opV12 (k b l g n i a : Int) : Value := .agg #[.int .i64 k, .int .i64 b, .int .i64 l, .int .i64 g, .int .i64 n, .int .u16 i, .int .u16 a]
/-- A []Op that reads as S. -/
def OpsT (W : World) (v : Value) (S : List O12) : Prop :=
  (∃ a c, v = .slice a 0 c ∧ S = []) ∨ ∃ b off cap, v = .slice (some ⟨b, off, none⟩) S.length cap ∧ ∀ i, i < S.length → b < W.heap.size ∧
    (W.cell? ⟨b, off + i * 7, none⟩ = some (.int .i64 (S.getD i default).k) ∧ W.cell? ⟨b, off + i * 7 + 1, none⟩ = some (.int .i64 (S.getD i default).b) ∧ W.cell? ⟨b, off + i * 7 + 2, none⟩ = some (.int .i64 (S.getD i default).l) ∧ W.cell? ⟨b, off + i * 7 + 3, none⟩ = some (.int .i64 (S.getD i default).g) ∧
      W.cell? ⟨b, off + i * 7 + 4, none⟩ = some (.int .i64 (S.getD i default).n) ∧ W.cell? ⟨b, off + i * 7 + 5, none⟩ = some (.int .u16 (S.getD i default).i) ∧ W.cell? ⟨b, off + i * 7 + 6, none⟩ = some (.int .u16 (S.getD i default).a)) ∧ (S.getD i default).ok
theorem op12Cells : Tryz.prog.cellsOf 34 = 7 := by kernel_rfl
theorem intCells12 : Tryz.prog.cellsOf 3 = 1 := by kernel_rfl
section
variable {H : Type} {enc : TypeId × Value → H} {W : World} {base : Nat} {spare : Nat → Bool} {held : Bool}
theorem ow2_cells {c0 c1 : Value} {m : Nat} {y : DataW H × List MemPlace} (ht : DataW.trod enc Tryz.prog W base (fun _ => true) held m 32 [c0, c1] = some y) : ∃ i a : Int, c0 = .int .u16 i ∧ c1 = .int .u16 a ∧ (0 ≤ i ∧ i ≤ 65535) ∧ (0 ≤ a ∧ a ≤ 65535) := by
  obtain ⟨xs, n, _, _, hlen, hxs, hf⟩ := DataW.trod_struct Tryz.underlying32 ht
  match xs, hxs with
  | [y0, y1], _ =>
    have g0 : DataW.trod enc Tryz.prog W base (fun _ => true) held n 30 [c0] = some y0 := by
      have h0 : DataW.trod enc Tryz.prog W base (fun _ => true) held n 30 (List.take (Tryz.prog.cellsOf 30) (List.drop 0 [c0, c1])) = some y0 := hf 0 _ rfl
      rw [u16Cells] at h0; exact h0
    have g1 : DataW.trod enc Tryz.prog W base (fun _ => true) held n 30 [c1] = some y1 := by
      have h0 : DataW.trod enc Tryz.prog W base (fun _ => true) held n 30 (List.take (Tryz.prog.cellsOf 30) (List.drop 1 [c0, c1])) = some y1 := hf 1 _ rfl
      rw [u16Cells] at h0; exact h0
    obtain ⟨k, e0, _, w0⟩ := DataW.trod_int Tryz.underlying30 g0
    obtain ⟨b, e1, _, w1⟩ := DataW.trod_int Tryz.underlying30 g1
    simp only [List.cons.injEq, and_true] at e0 e1
    exact ⟨k, b, e0, e1, bounds_u16 w0, bounds_u16 w1⟩
theorem ow12_open {v : Value} {d : DataW H} {p : List MemPlace} {r : Reach} {b0 : Nat} (hv : Value.okWide Tryz.prog W r b0 32 v) (h : DataW.Trod enc Tryz.prog W base (fun _ => true) held 32 v d p) : ∃ i a : Int, v = .agg #[.int .u16 i, .int .u16 a] ∧ (0 ≤ i ∧ i ≤ 65535) ∧ (0 ≤ a ∧ a ≤ 65535) := by
  obtain ⟨cs, rfl, hs⟩ := okWide_struct Tryz.underlying32 hv
  rw [owCells] at hs
  obtain ⟨fuel, hf⟩ := h
  have hl : cs.toList.length = 2 := by simpa [Value.cells] using hs
  obtain ⟨c0, c1, hcs⟩ : ∃ c0 c1, cs.toList = [c0, c1] := by
    match cs.toList, hl with
    | [c0, c1], _ => exact ⟨c0, c1, rfl⟩
  have hf' : DataW.trod enc Tryz.prog W base (fun _ => true) held fuel 32 [c0, c1] = some (d, p) := by rw [← hcs]; exact hf
  obtain ⟨i, a, rfl, rfl, h1, h2⟩ := ow2_cells hf'
  exact ⟨i, a, by rw [← Array.toArray_toList (xs := cs), hcs], h1, h2⟩
theorem op12_cells {cs : List Value} {m : Nat} {y : DataW H × List MemPlace} (hl : cs.length = 7) (ht : DataW.trod enc Tryz.prog W base (fun _ => true) held m 34 cs = some y) : ∃ o : O12, cs = o.cells ∧ o.ok := by
  obtain ⟨xs, n, _, _, hlen, hxs, hf⟩ := DataW.trod_struct Tryz.underlying34 ht
  match cs, hl with
  | [c0, c1, c2, c3, c4, c5, c6], _ =>
    match xs, hxs with
    | [y0, y1, y2, y3, y4, y5], _ =>
      have g0 : DataW.trod enc Tryz.prog W base (fun _ => true) held n 3 [c0] = some y0 := by
        have h0 : DataW.trod enc Tryz.prog W base (fun _ => true) held n 3 (List.take (Tryz.prog.cellsOf 3) (List.drop 0 [c0, c1, c2, c3, c4, c5, c6])) = some y0 := hf 0 _ rfl
        rw [intCells12] at h0; exact h0
      have g1 : DataW.trod enc Tryz.prog W base (fun _ => true) held n 3 [c1] = some y1 := by
        have h0 : DataW.trod enc Tryz.prog W base (fun _ => true) held n 3 (List.take (Tryz.prog.cellsOf 3) (List.drop 1 [c0, c1, c2, c3, c4, c5, c6])) = some y1 := hf 1 _ rfl
        rw [intCells12] at h0; exact h0
      have g2 : DataW.trod enc Tryz.prog W base (fun _ => true) held n 3 [c2] = some y2 := by
        have h0 : DataW.trod enc Tryz.prog W base (fun _ => true) held n 3 (List.take (Tryz.prog.cellsOf 3) (List.drop 2 [c0, c1, c2, c3, c4, c5, c6])) = some y2 := hf 2 _ rfl
        rw [intCells12] at h0; exact h0
      have g3 : DataW.trod enc Tryz.prog W base (fun _ => true) held n 3 [c3] = some y3 := by
        have h0 : DataW.trod enc Tryz.prog W base (fun _ => true) held n 3 (List.take (Tryz.prog.cellsOf 3) (List.drop 3 [c0, c1, c2, c3, c4, c5, c6])) = some y3 := hf 3 _ rfl
        rw [intCells12] at h0; exact h0
      have g4 : DataW.trod enc Tryz.prog W base (fun _ => true) held n 3 [c4] = some y4 := by
        have h0 : DataW.trod enc Tryz.prog W base (fun _ => true) held n 3 (List.take (Tryz.prog.cellsOf 3) (List.drop 4 [c0, c1, c2, c3, c4, c5, c6])) = some y4 := hf 4 _ rfl
        rw [intCells12] at h0; exact h0
      have g5 : DataW.trod enc Tryz.prog W base (fun _ => true) held n 32 [c5, c6] = some y5 := by
        have h0 : DataW.trod enc Tryz.prog W base (fun _ => true) held n 32 (List.take (Tryz.prog.cellsOf 32) (List.drop 5 [c0, c1, c2, c3, c4, c5, c6])) = some y5 := hf 5 _ rfl
        rw [owCells] at h0; exact h0
      obtain ⟨k, e0, _, wf0⟩ := DataW.trod_int Tryz.underlying3 g0
      obtain ⟨b, e1, _, wf1⟩ := DataW.trod_int Tryz.underlying3 g1
      obtain ⟨l, e2, _, wf2⟩ := DataW.trod_int Tryz.underlying3 g2
      obtain ⟨g, e3, _, wf3⟩ := DataW.trod_int Tryz.underlying3 g3
      obtain ⟨nn, e4, _, wf4⟩ := DataW.trod_int Tryz.underlying3 g4
      obtain ⟨i, a, e5, e6, b5, b6⟩ := ow2_cells g5
      simp only [List.cons.injEq, and_true] at e0 e1 e2 e3 e4
      subst e0 e1 e2 e3 e4 e5 e6
      exact ⟨⟨k, b, l, g, nn, i, a⟩, rfl, bounds_i64 wf1, bounds_i64 wf2, bounds_i64 wf3, bounds_i64 wf4, b5, b6⟩
theorem op12_open {v : Value} {d : DataW H} {p : List MemPlace} {r : Reach} {b0 : Nat} (hv : Value.okWide Tryz.prog W r b0 34 v) (h : DataW.Trod enc Tryz.prog W base (fun _ => true) held 34 v d p) : ∃ o : O12, v = opV12 o.k o.b o.l o.g o.n o.i o.a ∧ o.ok := by
  obtain ⟨cs, rfl, hs⟩ := okWide_struct Tryz.underlying34 hv
  rw [op12Cells] at hs
  obtain ⟨fuel, hf⟩ := h
  obtain ⟨o, e, ho⟩ := op12_cells (by simpa [Value.cells] using hs) hf
  have e' : cs.toList = o.cells := e
  have e2 : cs = #[.int .i64 o.k, .int .i64 o.b, .int .i64 o.l, .int .i64 o.g, .int .i64 o.n, .int .u16 o.i, .int .u16 o.a] := by
    rw [← Array.toArray_toList (xs := cs), e']; rfl
  exact ⟨o, by rw [e2]; rfl, ho⟩
theorem ops12_open {v : Value} {d : DataW H} {p : List MemPlace} {r : Reach} {b0 : Nat} (hv : Value.okWide Tryz.prog W r b0 22 v) (h : DataW.Trod enc Tryz.prog W base (fun _ => true) held 22 v d p) : ∃ S, OpsT W v S := by
  obtain ⟨a0, len0, cap0, rfl⟩ := okWide_slice Tryz.underlying22 hv
  obtain ⟨fuel, hf⟩ := h
  rcases Go.Deep.open_slice Tryz.underlying22 hf with ⟨hcs, _⟩ | ⟨a, len, cap, m, n, D, Pl, hcs, _, hl, hm, hmm, _, hi⟩
  · simp [Value.cells] at hcs
    obtain ⟨rfl, rfl, rfl⟩ := hcs
    exact ⟨[], .inl ⟨_, _, rfl, rfl⟩⟩
  · simp [Value.cells] at hcs
    obtain ⟨rfl, rfl, rfl⟩ := hcs
    have hlm : len0 ≤ m := by rw [hmm]; split <;> omega
    have hex : ∀ i, i < len0 → ∃ o : O12, (W.cell? (a.add (i * 7)) = some (.int .i64 o.k) ∧ W.cell? (a.add (i * 7 + 1)) = some (.int .i64 o.b) ∧ W.cell? (a.add (i * 7 + 2)) = some (.int .i64 o.l) ∧ W.cell? (a.add (i * 7 + 3)) = some (.int .i64 o.g) ∧ W.cell? (a.add (i * 7 + 4)) = some (.int .i64 o.n) ∧ W.cell? (a.add (i * 7 + 5)) = some (.int .u16 o.i) ∧ W.cell? (a.add (i * 7 + 6)) = some (.int .u16 o.a)) ∧ o.ok := fun i hi2 => by
      obtain ⟨cs', hc, ht⟩ := hi i (by omega)
      rw [op12Cells] at hc
      obtain ⟨_, hcl, hat⟩ := World.cells?_some hc
      obtain ⟨o, rfl, ho⟩ := op12_cells hcl ht
      have a0 := hat 0 (by omega)
      have a1 := hat 1 (by omega)
      have a2 := hat 2 (by omega)
      have a3 := hat 3 (by omega)
      have a4 := hat 4 (by omega)
      have a5 := hat 5 (by omega)
      have a6 := hat 6 (by omega)
      simp only [O12.cells, Go.Deep.add_add, List.getElem?_cons_zero, List.getElem?_cons_succ, Nat.add_zero] at a0 a1 a2 a3 a4 a5 a6
      exact ⟨o, ⟨a0, a1, a2, a3, a4, a5, a6⟩, ho⟩
    obtain ⟨f, hfn⟩ := Go.Deep.choose_lt hex
    by_cases h0 : len0 = 0
    · exact ⟨[], .inl ⟨_, _, by rw [h0], rfl⟩⟩
    refine ⟨(List.range len0).map f, .inr ?_⟩
    obtain ⟨b, off, spot⟩ := a
    have hsp : spot = none := by
      obtain ⟨⟨z0, _⟩, _⟩ := hfn 0 (by omega)
      simpa [Addr.add] using World.cell?_spot z0
    subst hsp
    refine ⟨b, off, cap0, by simp, fun i hi2 => ?_⟩
    have hi3 : i < len0 := by simpa using hi2
    have hget : ((List.range len0).map f).getD i default = f i := by simp [List.getD_eq_getElem?_getD, hi3]
    rw [hget]
    obtain ⟨⟨c0, c1, c2, c3, c4, c5, c6⟩, r⟩ := hfn i hi3
    simp only [Addr.add_lit] at c0 c1 c2 c3 c4 c5 c6
    exact ⟨block_lt_of_cell c0, ⟨c0, by rw [Nat.add_assoc]; exact c1, by rw [Nat.add_assoc]; exact c2, by rw [Nat.add_assoc]; exact c3, by rw [Nat.add_assoc]; exact c4, by rw [Nat.add_assoc]; exact c5, by rw [Nat.add_assoc]; exact c6⟩, r⟩
end
end Go.Proofs.YtkbeencjklgcnaaGreat

/- Calls of layer 12 that change something, on both sides. -/
namespace Go.Proofs.YtkbeencjklgcnaaGreat
set_option maxRecDepth 100000
open Go.RowKit
set_option linter.unusedVariables false

/-- What the landed call hands back within a call, and what the reference's then does. -/
structure Both (O O2 : List (Int × Int)) (kk : Nat) (F Fr : FuncId) (xs : List Value) (e : Ending) : Prop where
  land : ∀ {w0 w P M d p r X n}, Mid w0 w P M d p r (callX X) n O O kk → RSp w M r n O → Calls Tryz.prog F (p :: xs).toArray w fun e' w' => e' = e ∧ ∃ P' X', Mid w0 w' P' M d p r X' n O O2 kk ∧ RSp w' M r n O ∧ Chg (PM P M) (PM P' M) w w'
  refe : ∀ {w0 w P M d p r X n}, Mid w0 w P M d p r X n O O2 kk → RSp w M r n O → Calls Tryz.prog Fr (r :: xs).toArray w fun e' w' => e' = e ∧ Mid w0 w' P M d p r X n O O2 kk ∧ RSp w' M r n O2 ∧ Chg (PM P M) (PM P M) w w'
theorem callX_cur {X : XSt} {O : List (Int × Int)} {kk : Nat} (h : Has (callX X).call O kk) : Has (callX X).cur O kk := h
section
variable {O : List (Int × Int)} {kk : Nat}
theorem bothLow {F Fr : FuncId} {xs : List Value} {e : Ending} (h1 : ∀ {w0 w P M d p r X n}, Mid w0 w P M d p r (callX X) n O O kk → Calls Tryz.prog F (p :: xs).toArray w fun e' w' => e' = e ∧ Below w.heap.size w w')
    (h2 : ∀ {w M r n}, RSp w M r n O → Calls Tryz.prog Fr (r :: xs).toArray w fun e' w' => e' = e ∧ Below w.heap.size w w') : Both O O kk F Fr xs e :=
  ⟨fun hm hs => (h1 hm).mono fun e' w' ⟨he, hb⟩ => ⟨he, _, _, hm.low hb, hs.below hb, Chg.of_below hb⟩, fun hm hs => (h2 hs).mono fun e' w' ⟨he, hb⟩ => ⟨he, hm.low hb, hs.below hb, Chg.of_below hb⟩⟩
theorem bothPut {F Fr : FuncId} {xs : List Value} {e : Ending} {f : Nat} {o : Int × Int} (hf : f < 64 * kk)
    (h1 : ∀ {w0 w P M d p r X n}, Mid w0 w P M d p r (callX X) n O O kk → Calls Tryz.prog F (p :: xs).toArray w fun e' w' => e' = e ∧ ∃ P', SInv w' P' d p (putX (callX X) (f / 64) (grO (O.set f o) (f / 64))) ∧ Chg P P' w w')
    (h2 : ∀ {w M r n}, RSp w M r n O → Calls Tryz.prog Fr (r :: xs).toArray w fun e' w' => e' = e ∧ RSp w' M r n (O.set f o) ∧ Chg M M w w') : Both O (O.set f o) kk F Fr xs e :=
  ⟨fun hm hs => (h1 hm).mono fun e' w' ⟨he, P', hi, hc⟩ => by
      obtain ⟨a, b⟩ := hm.put hi hc rfl rfl rfl (hm.has2.put hf o) hs
      exact ⟨he, P', _, a, b, hc.pm _⟩,
    fun hm hs => (h2 hs).mono fun e' w' ⟨he, hs', hc⟩ => ⟨he, hm.ref hc, hs', hc.mp _⟩⟩
theorem take_bad {b l g i j : Int} (hb : b ≤ 9223372036854775807) (hl : l ≤ 9223372036854775807) (hi : 0 ≤ i ∧ i ≤ 65535) (hj : 0 ≤ j ∧ j ≤ 65535) (hno : takeNo b l i j) :
    Both O O kk 15 16 [.int .i64 b, .int .i64 l, .int .i64 g, .agg #[.int .u16 i, .int .u16 j]] (.returned (.tuple #[.int .i64 0, .int .i64 1])) :=
  bothLow (fun hm => spTake_no hb hl hi hj hno _ _) (fun hs => rSpTake_no hb hl hi hj hno _ _)
theorem take_full12 (hO : OOk O kk) {a m : Nat} (hm1 : 1 ≤ m) (hma : m ≤ a) (hak : a ≤ kk) (g : Int) {i j : Int} (hi : 0 ≤ i ∧ i ≤ 65535) (hj : 0 ≤ j ∧ j ≤ 65535) (hf : frmO i j = true) (h0 : i ≠ 0) (h6 : i ≠ 65535) (hc : 62 * (m : Int) - 42 ≤ cntU O (64 * a)) :
    Both O O kk 15 16 [.int .i64 (64 * (a : Int)), .int .i64 (64 * (m : Int)), .int .i64 g, .agg #[.int .u16 i, .int .u16 j]] (.returned (.tuple #[.int .i64 0, .int .i64 13])) :=
  bothLow (fun hm => spTake_full hm.inv (callX_cur hm.has2) hO hm1 hma hak g hi hj hf h0 h6 hc) (fun hs => rSpTake_full hs hO hm1 hma hak g hi hj hf h0 h6 hc)
theorem take_yes12 (hO : OOk O kk) {a m : Nat} (hm1 : 1 ≤ m) (hma : m ≤ a) (hak : a ≤ kk) (g : Int) {i j : Int} (hi : 0 ≤ i ∧ i ≤ 65535) (hj : 0 ≤ j ∧ j ≤ 65535) (hf : frmO i j = true) (h0 : i ≠ 0) (h6 : i ≠ 65535) {f : Nat}
    (hc : (cntU O (64 * a) : Int) < 62 * (m : Int) - 42) (hfm : f < 64 * m) (hfs : findS O (64 * m) (goalS (64 * m) g) = f) (hfx : fixB (f : Int) = false) :
    Both O (O.set f (i, j)) kk 15 16 [.int .i64 (64 * (a : Int)), .int .i64 (64 * (m : Int)), .int .i64 g, .agg #[.int .u16 i, .int .u16 j]] (.returned (.tuple #[.int .i64 f, .int .i64 0])) :=
  bothPut (by omega) (fun hm => spTake_yes hm.inv rfl rfl hm.has2 hO hm1 hma hak g hi hj hf h0 h6 hc hfm hfs hfx) (fun hs => rSpTake_yes hs hO hm1 hma hak g hi hj hf h0 h6 hc hfm hfs)
/-- Whatever Take is asked. -/
theorem take12 (hO : OOk O kk) {b l g i j : Int} (hb : b ≤ 64 * (kk : Int)) (hl : l ≤ 64 * (kk : Int)) (hi : 0 ≤ i ∧ i ≤ 65535) (hj : 0 ≤ j ∧ j ≤ 65535) :
    ∃ (x E : Int) (O2 : List (Int × Int)), OOk O2 kk ∧ (E = 0 ∨ (E ≠ 0 ∧ O2 = O)) ∧ Both O O2 kk 15 16 [.int .i64 b, .int .i64 l, .int .i64 g, .agg #[.int .u16 i, .int .u16 j]] (.returned (.tuple #[.int .i64 x, .int .i64 E])) := by
  have h12 := hO.k12
  by_cases hno : takeNo b l i j
  · exact ⟨0, 1, O, hO, .inr ⟨by decide, rfl⟩, take_bad (by omega) (by omega) hi hj hno⟩
  · have h1 : frmB b = true := by cases h : frmB b; · exact absurd (.inl h) hno
                                  · rfl
    have h2 : frmB l = true := by cases h : frmB l; · exact absurd (.inr (.inl h)) hno
                                  · rfl
    have h3 : ¬ b < l := fun h => hno (.inr (.inr (.inl h)))
    have h4 : frmO i j = true := by cases h : frmO i j; · exact absurd (.inr (.inr (.inr (.inl h)))) hno
                                    · rfl
    have h5 : i ≠ 0 := fun h => hno (.inr (.inr (.inr (.inr (.inl h)))))
    have h6 : i ≠ 65535 := fun h => hno (.inr (.inr (.inr (.inr (.inr h)))))
    obtain ⟨a, a1, _, rfl⟩ := frm_yes h1
    obtain ⟨m, m1, _, rfl⟩ := frm_yes h2
    by_cases hc : 62 * (m : Int) - 42 ≤ cntU O (64 * a)
    · exact ⟨0, 13, O, hO, .inr ⟨by decide, rfl⟩, take_full12 hO m1 (by omega) (by omega) g hi hj h4 h5 h6 hc⟩
    · have hmono := cntU_mono O (show 64 * m ≤ 64 * a by omega)
      obtain ⟨f, f1, f2, f3, f4⟩ := find_free hO m1 (by omega) (g := goalS (64 * m) g) (by unfold goalS; split <;> omega) (by omega)
      exact ⟨f, 0, _, hO.set (by omega) f4 hi hj h4 h6, .inl rfl, take_yes12 hO m1 (by omega) (by omega) g hi hj h4 h5 h6 (by omega) f1 f2 f4⟩
theorem open_no {n : Int} (h : openN n = false) : n < 0 ∨ 768 ≤ n ∨ fixB n = true := by
  unfold openN at h
  by_cases h1 : 0 ≤ n ∧ n < 768
  · rw [decide_eq_true h1] at h
    exact .inr (.inr (by simpa using h))
  · omega
theorem open_yes {n : Int} (h : openN n = true) : 0 ≤ n ∧ n < 768 ∧ fixB n = false := by
  unfold openN at h
  rw [Bool.and_eq_true, decide_eq_true_eq, Bool.not_eq_true'] at h
  exact ⟨h.1.1, h.1.2, h.2⟩
theorem give12 (hO : OOk O kk) {n : Int} (hn : in64 n) (hk : n ≤ 64 * (kk : Int) - 1) :
    ∃ (E : Int) (O2 : List (Int × Int)), OOk O2 kk ∧ (E = 0 ∨ (E ≠ 0 ∧ O2 = O)) ∧ Both O O2 kk 23 30 [.int .i64 n] (.returned (.int .i64 E)) := by
  have hl := hO.len
  have h1 := hO.k1
  have h12 := hO.k12
  cases ho : openN n
  · refine ⟨1, O, hO, .inr ⟨by decide, rfl⟩, bothLow (fun hm => (spGive_far hn.2 ho _ _).mono fun e w' ⟨he, hw⟩ => ⟨he, by rw [← hw]; exact Below.refl _ _⟩) (fun hs => (rSpGive_no hs (by omega) (by omega) hn ?_).mono fun e w' ⟨he, hw⟩ => ⟨he, by rw [← hw]; exact Below.refl _ _⟩)⟩
    rcases open_no ho with h | h | h
    · exact .inl h
    · omega
    · exact .inr (.inr (.inl h))
  · obtain ⟨p1, p2, p3⟩ := open_yes ho
    obtain ⟨m, rfl⟩ : ∃ m : Nat, n = m := ⟨n.toNat, by omega⟩
    cases hf : freeJ O m
    · exact ⟨0, _, hO.set (by omega) p3 (by decide) (by decide) (by decide) (by decide), .inl rfl, bothPut (by omega) (fun hm => spGive_yes hm.inv rfl rfl hm.has2 hO (by omega) p3 hf) (fun hs => rSpGive_yes hs (by omega) (by omega) p3 hf)⟩
    · exact ⟨1, O, hO, .inr ⟨by decide, rfl⟩, bothLow (fun hm => spGive_free hm.inv (callX_cur hm.has2) hO (by omega) hf) (fun hs => (rSpGive_no hs (by omega) (by omega) hn (.inr (.inr (.inr (by rw [Int.toNat_natCast]; exact hf))))).mono fun e w' ⟨he, hw⟩ => ⟨he, by rw [← hw]; exact Below.refl _ _⟩)⟩
theorem set12 (hO : OOk O kk) {n i j : Int} (hn : in64 n) (hk : n ≤ 64 * (kk : Int) - 1) (hi : 0 ≤ i ∧ i ≤ 65535) (hj : 0 ≤ j ∧ j ≤ 65535) :
    ∃ (E : Int) (O2 : List (Int × Int)), OOk O2 kk ∧ (E = 0 ∨ (E ≠ 0 ∧ O2 = O)) ∧ Both O O2 kk 22 31 [.int .i64 n, .agg #[.int .u16 i, .int .u16 j]] (.returned (.int .i64 E)) := by
  have hl := hO.len
  have h1 := hO.k1
  have h12 := hO.k12
  by_cases hno : openN n = false ∨ frmO i j = false ∨ i = 65535
  · refine ⟨1, O, hO, .inr ⟨by decide, rfl⟩, bothLow (fun hm => spSet_no hn.2 hi hj hno _ _) (fun hs => rSpSet_no hs (by omega) (by omega) hn hi hj ?_)⟩
    rcases hno with h | h | h
    · rcases open_no h with h | h | h
      · exact .inl h
      · omega
      · exact .inr (.inr (.inl h))
    · exact .inr (.inr (.inr (.inl h)))
    · exact .inr (.inr (.inr (.inr h)))
  · have ho : openN n = true := by cases h : openN n; · exact absurd (.inl h) hno
                                   · rfl
    have hf : frmO i j = true := by cases h : frmO i j; · exact absurd (.inr (.inl h)) hno
                                    · rfl
    have h6 : i ≠ 65535 := fun h => hno (.inr (.inr h))
    obtain ⟨p1, p2, p3⟩ := open_yes ho
    obtain ⟨m, rfl⟩ : ∃ m : Nat, n = m := ⟨n.toNat, by omega⟩
    exact ⟨0, _, hO.set (by omega) p3 hi hj hf h6, .inl rfl, bothPut (by omega) (fun hm => spSet_yes hm.inv rfl rfl hm.has2 hO (by omega) p3 hi hj hf h6) (fun hs => rSpSet_yes hs (by omega) (by omega) p3 hi hj hf h6)⟩
end
end Go.Proofs.YtkbeencjklgcnaaGreat

/- Calls of layer 12 that change nothing, on both sides. -/
namespace Go.Proofs.YtkbeencjklgcnaaGreat
set_option maxRecDepth 100000
open Go.RowKit
set_option linter.unusedVariables false

section
variable {O : List (Int × Int)} {kk : Nat}
theorem same_low {w w' : World} (h : w = w') : Below w.heap.size w w' := by rw [← h]; exact Below.refl _ _
theorem run12 (hO : OOk O kk) {l q : Int} (hl : l ≤ 64 * (kk : Int)) (hq : q ≤ 9223372036854775807) : ∃ x E : Int, Both O O kk 21 32 [.int .i64 l, .int .i64 q] (.returned (.tuple #[.int .i64 x, .int .i64 E])) := by
  have h12 := hO.k12
  have hlen := hO.len
  by_cases hno : frmB l = false ∨ q < 1
  · exact ⟨0, 1, bothLow (fun hm => (spRun_no l q (by omega) hno _ _).mono fun e w' ⟨h1, h2⟩ => ⟨h1, same_low h2⟩) (fun hs => (rSpRun_no hs (by omega) hno).mono fun e w' ⟨h1, h2⟩ => ⟨h1, same_low h2⟩)⟩
  · have h2 : frmB l = true := by cases h : frmB l; · exact absurd (.inl h) hno
                                  · rfl
    have h3 : 1 ≤ q := by
      by_cases h : q < 1
      · exact absurd (.inr h) hno
      · omega
    obtain ⟨m, m1, m12, rfl⟩ := frm_yes h2
    refine ⟨_, 0, bothLow (fun hm => spRun_yes hm.inv (callX_cur hm.has2) hO m1 (by omega) h3) (fun hs => ?_)⟩
    have := rSpRun_yes hs (L := 64 * m) (by rw [show ((64 * m : Nat) : Int) = 64 * (m : Int) by omega]; exact frm_mk m m1 m12) (by omega) (by omega) (by omega) ⟨h3, hq⟩
    rw [show ((64 * m : Nat) : Int) = 64 * (m : Int) by omega] at this
    exact this.mono fun e w' ⟨h1, h2⟩ => ⟨h1, same_low h2⟩
theorem used12 (hO : OOk O kk) {l : Int} (hl : l ≤ 64 * (kk : Int)) : ∃ x E : Int, Both O O kk 18 19 [.int .i64 l] (.returned (.tuple #[.int .i64 x, .int .i64 E])) := by
  have h12 := hO.k12
  have hlen := hO.len
  cases h2 : frmB l
  · exact ⟨0, 1, bothLow (fun hm => (spUsed_no l (by omega) h2 _ _).mono fun e w' ⟨h1, h2⟩ => ⟨h1, same_low h2⟩) (fun hs => (rSpUsed_no hs (by omega) h2).mono fun e w' ⟨h1, h2⟩ => ⟨h1, same_low h2⟩)⟩
  · obtain ⟨m, m1, m12, rfl⟩ := frm_yes h2
    refine ⟨_, 0, bothLow (fun hm => spUsed_yes hm.inv (callX_cur hm.has2) hO m1 (by omega)) (fun hs => ?_)⟩
    have := rSpUsed_yes hs (L := 64 * m) (by rw [show ((64 * m : Nat) : Int) = 64 * (m : Int) by omega]; exact frm_mk m m1 m12) (by omega) (by omega) (by omega)
    rw [show ((64 * m : Nat) : Int) = 64 * (m : Int) by omega] at this
    exact this.mono fun e w' ⟨h1, h2⟩ => ⟨h1, same_low h2⟩
/-- Find: the landed one, told apart where the size is none. -/
theorem find12_no (hO : OOk O kk) {l g : Int} (hl : l ≤ 64 * (kk : Int)) (hf : frmB l = false) (p : Value) (w : World) : Calls Tryz.prog 20 #[p, .int .i64 l, .int .i64 g] w fun e w' => e = .returned (.tuple #[.int .i64 0, .int .i64 1]) ∧ w = w' := by
  have h12 := hO.k12
  exact spFind_no l g (by omega) hf p w
structure FindB (O : List (Int × Int)) (kk m : Nat) (g x : Int) : Prop where
  land : ∀ {w0 w P M d p r X n}, Mid w0 w P M d p r (callX X) n O O kk → Calls Tryz.prog 20 #[p, .int .i64 (64 * (m : Int)), .int .i64 g] w fun e w' => e = .returned (.tuple #[.int .i64 x, .int .i64 0]) ∧ Below w.heap.size w w'
  refe : ∀ {w M r n}, RSp w M r n O → Calls Tryz.prog 33 #[r, .int .i64 (64 * (m : Int)), .int .i64 g] w fun e w' => e = .returned (.int .i64 x) ∧ w = w'
theorem find12_yes (hO : OOk O kk) {m : Nat} (m1 : 1 ≤ m) (hm : m ≤ kk) (g : Int) : ∃ x : Int, FindB O kk m g x := by
  have h12 := hO.k12
  have hlen := hO.len
  refine ⟨_, fun hm' => spFind_yes hm'.inv (callX_cur hm'.has2) hO m1 hm g, fun hs => ?_⟩
  have := rSpFind_any hs (L := 64 * m) (by omega) (by omega) (by omega) g
  rw [show ((64 * m : Nat) : Int) = 64 * (m : Int) by omega] at this
  exact this
/-- Owner of block n. -/
theorem owner12 (hO : OOk O kk) {k : Nat} (hk : k < 64 * kk) : ∀ {w0 w P M d p r X n}, Mid w0 w P M d p r (callX X) n O O kk → Calls Tryz.prog 12 #[p, .int .i64 k] w fun e w' => e = .returned (.tuple #[.agg #[.int .u16 (O.getD k (0, 0)).1, .int .u16 (O.getD k (0, 0)).2], .int .i64 0]) ∧ Below w.heap.size w w' :=
  fun hm => spOwner_yes hm.inv (callX_cur hm.has2) hO hk
end
end Go.Proofs.YtkbeencjklgcnaaGreat

/- The law's do: a call on both sides. -/
namespace Go.Proofs.YtkbeencjklgcnaaGreat
set_option maxRecDepth 100000
open Go.RowKit
set_option linter.unusedVariables false

/- The words that the drawn regions use again and again, in short. -/
theorem q1 {α : Type _} (l : List α) (i : Nat) (a : α) : l.toArray.setIfInBounds i a = (l.set i a).toArray := List.setIfInBounds_toArray l i a
theorem q2 {α : Type _} {x : α} {xs : List α} {a : α} : (x :: xs).set 0 a = a :: xs := List.set_cons_zero
theorem q3 {α : Type _} {x : α} {xs : List α} {i : Nat} {a : α} : (x :: xs).set (i + 1) a = x :: xs.set i a := List.set_cons_succ
theorem q4 {α : Type _} {xs : List α} {i : Nat} (h : i < xs.toArray.size) : xs.toArray[i] = xs[i]'(by simpa using h) := List.getElem_toArray h
theorem q5 {α : Type _} (a : α) (l : List α) (h : 0 < (a :: l).length) : (a :: l)[0] = a := List.getElem_cons_zero a l h
theorem q6 {α : Type _} (a : α) (l : List α) (i : Nat) (h : i + 1 < (a :: l).length) : (a :: l)[i + 1] = l[i]'(by simpa using h) := List.getElem_cons_succ a l i h
theorem tk {P : Program} {ops : Array Oper} {Q : Exit → Act → World → Prop} {md : Region.Mode} {S : World → Prop} (i : Nat) {oi : Oper} (v : Value) {fuel : Nat} {listed : Array Bool} {a : Act} {w : World} (hi : ops[i]? = some oi)
    (hb : (Region.noSelect ops && (Region.free md ops listed i && (Region.ready md ops listed).contains i)) = true)
    (hQ : ∀ c a w, Q (.panic c) (a.put oi.dst v) w → Q (.panic c) a w) (hy : YieldsIf P ops S oi v a) (hS : S w)
    (h : wpAnyH P md ops Q S fuel (listed.setIfInBounds i true) (a.put oi.dst v) w) : wpAnyH P md ops Q S (fuel + 1) listed a w := by
  rw [Bool.and_eq_true, Bool.and_eq_true] at hb
  exact wpAnyH_take hi hb.1 hb.2.1 hb.2.2 hQ hy hS h
/-- The cells of a call, boxed at block xb. -/
def OpAt (W : World) (xb : Nat) (o : O12) : Prop :=
  (W.cell? ⟨xb, 0, none⟩ = some (.int .i64 o.k) ∧ W.cell? ⟨xb, 1, none⟩ = some (.int .i64 o.b) ∧ W.cell? ⟨xb, 2, none⟩ = some (.int .i64 o.l) ∧ W.cell? ⟨xb, 3, none⟩ = some (.int .i64 o.g)) ∧ W.cell? ⟨xb, 4, none⟩ = some (.int .i64 o.n) ∧ W.cell? ⟨xb, 5, none⟩ = some (.int .u16 o.i) ∧ W.cell? ⟨xb, 6, none⟩ = some (.int .u16 o.a)
/-- What do has at its start. -/
structure DoK (w0 w W1 : World) (P M : Nat → Prop) (d p r : Value) (X : XSt) (n : Int) (O : List (Int × Int)) (kk xb : Nat) (o : O12) : Prop where
  sd : Side w0 W1 P M d p r X n O kk
  op : ∀ W P', Chg (PM P M) (PM P' M) W1 W → OpAt W xb o
  ch : Chg (PM P M) (PM P M) w W1
theorem doK {w0 w : World} {P M : Nat → Prop} {d p r : Value} {X : XSt} {n : Int} {O : List (Int × Int)} {kk : Nat} (h : Side w0 w P M d p r X n O kk) (o : O12) :
    DoK w0 w (w.alloc (.cells #[.int .i64 o.k, .int .i64 o.b, .int .i64 o.l, .int .i64 o.g, .int .i64 o.n, .int .u16 o.i, .int .u16 o.a] 34)) P M d p r X n O kk w.heap.size o := by
  have hb := below_box w (.cells #[.int .i64 o.k, .int .i64 o.b, .int .i64 o.l, .int .i64 o.g, .int .i64 o.n, .int .u16 o.i, .int .u16 o.a] 34)
  have hn := heap_alloc_new w (.cells #[.int .i64 o.k, .int .i64 o.b, .int .i64 o.l, .int .i64 o.g, .int .i64 o.n, .int .u16 o.i, .int .u16 o.a] 34)
  have hlt := h.inv.lt
  refine ⟨{ h with inv := h.inv.low hb, sp := h.sp.below hb, be := h.be.trans (hb.mono h.be.size) }, fun W P' hc => ?_, Chg.of_below hb⟩
  have hr := (hc.keep w.heap.size (by simp) (fun e => e.elim (fun e => by have := hlt _ e; omega) fun e => by have := h.sp.lt e; omega)).1.trans hn
  exact ⟨⟨cell_of_row _ _ _ _ _ _ hr, cell_of_row _ _ _ _ _ _ hr, cell_of_row _ _ _ _ _ _ hr, cell_of_row _ _ _ _ _ _ hr⟩, cell_of_row _ _ _ _ _ _ hr, cell_of_row _ _ _ _ _ _ hr, cell_of_row _ _ _ _ _ _ hr⟩
/-- The reference's number of blocks, in memory. -/
theorem RSp.n0 {w : World} {M : Nat → Prop} {br : Nat} {n : Int} {O : List (Int × Int)} (h : RSp w M (.pointer (some ⟨br, 0, none⟩)) n O) : w.cell? ⟨br, 0, none⟩ = some (.int .i64 n) := by
  obtain ⟨b, v, e, hr, _⟩ := h
  obtain rfl : br = b := by injection e with e; injection e with e; injection e with e
  rw [cell_of_row _ _ _ _ _ _ hr]; rfl
section
variable {w0 w : World} {P M : Nat → Prop} {d : Value} {b br : Nat} {X : XSt} {O : List (Int × Int)} {kk : Nat}
/-- What do hands back. -/
def DoOut (w0 w : World) (P M : Nat → Prop) (d p r : Value) (kk : Nat) (e : Ending) (w' : World) : Prop :=
  e = .returned (.bool true) ∧ ∃ P' X' O2, Side w0 w' P' M d p r X' (64 * (kk : Int)) O2 kk ∧ Chg (PM P M) (PM P' M) w w'
end
end Go.Proofs.YtkbeencjklgcnaaGreat

/- The law's do: a call on both sides. -/
namespace Go.Proofs.YtkbeencjklgcnaaGreat
set_option maxRecDepth 100000
open Go.RowKit
set_option linter.unusedVariables false

section
variable {w0 w : World} {P M : Nat → Prop} {d : Value} {b br : Nat} {X : XSt} {O : List (Int × Int)} {kk : Nat}
set_option maxHeartbeats 4000000 in
theorem do_take (h : Side w0 w P M d (.pointer (some ⟨b, 0, none⟩)) (.pointer (some ⟨br, 0, none⟩)) X (64 * (kk : Int)) O kk) (o : O12) (ho : o.ok) (hk : o.k = 1) :
    Calls Tryz.prog 11 #[.pointer (some ⟨b, 0, none⟩), .pointer (some ⟨br, 0, none⟩), opV12 o.k o.b o.l o.g o.n o.i o.a] w (DoOut w0 w P M d (.pointer (some ⟨b, 0, none⟩)) (.pointer (some ⟨br, 0, none⟩)) kk) := by
  have h1 := h.ok.k1
  have h12 := h.ok.k12
  have hok := h.ok
  obtain ⟨q1, q2, q3, q4, q5, q6⟩ := ho
  obtain ⟨x, E, O2, hO2, hor, HB⟩ := take12 (b := min o.b (64 * (kk : Int))) (l := min o.l (64 * (kk : Int))) (g := o.g) hok (by omega) (by omega) q5 q6
  have hd := doK h o
  obtain ⟨W1, hW1⟩ : ∃ W1, W1 = w.alloc (.cells #[.int .i64 o.k, .int .i64 o.b, .int .i64 o.l, .int .i64 o.g, .int .i64 o.n, .int .u16 o.i, .int .u16 o.a] 34) := ⟨_, rfl⟩
  rw [← hW1] at hd
  obtain ⟨xb, hxb⟩ : ∃ xb, xb = w.heap.size := ⟨_, rfl⟩
  rw [← hxb] at hd
  have HW1 := Lib.hid hW1.symm
  have HXB := Lib.hid hxb
  have HD := Lib.hid hd
  have hwr : IntKind.i64.wrap (64 * (kk : Int) - 1) = 64 * (kk : Int) - 1 := by rw [IntKind.wrap_i64]; omega
  have HBB := Lib.hid HB
  have HO2 := Lib.hid hO2
  have HOR := Lib.hid hor
  clear HB hO2 hor
  have HK := Lib.hid hk
  have KB := Lib.hid hd.sd.begin
  clear hW1 hxb hd h hok hk q1 q2 q3 q4 q5 q6
  unfold opV12
  go_enter Tryz.func11, Tryz.ntmps11
  go_upto_region 1 with (fail)
  rw [HW1.out, ← HXB.out]
  go_upto_region 9 with (first
    | (go_at_call 14; refine KB.out.mono ?_; rintro e w2 ⟨rfl, P2, hm2, hs2, hc2⟩; obtain ⟨⟨x0, _, _, _⟩, _, _, _⟩ := HD.out.op _ _ hc2; rw [HK.out] at x0))
  have hS2 : w2.drew.cell? ⟨xb, 1, none⟩ = some (.int .i64 o.b) ∧ w2.drew.cell? ⟨xb, 2, none⟩ = some (.int .i64 o.l) ∧ w2.drew.cell? ⟨xb, 3, none⟩ = some (.int .i64 o.g) ∧ w2.drew.cell? ⟨xb, 5, none⟩ = some (.int .u16 o.i) ∧ w2.drew.cell? ⟨xb, 6, none⟩ = some (.int .u16 o.a) ∧ w2.drew.cell? ⟨br, 0, none⟩ = some (.int .i64 (64 * (kk : Int))) := by
    obtain ⟨⟨z0, z1, z2, z3⟩, z4, z5, z6⟩ := HD.out.op _ _ (hc2.trans (Chg.of_below (Below.refl _ _).drew))
    exact ⟨z1, z2, z3, z5, z6, hs2.n0⟩
  refine wp_region_held_drew (S := fun W => W.cell? ⟨xb, 1, none⟩ = some (.int .i64 o.b) ∧ W.cell? ⟨xb, 2, none⟩ = some (.int .i64 o.l) ∧ W.cell? ⟨xb, 3, none⟩ = some (.int .i64 o.g) ∧ W.cell? ⟨xb, 5, none⟩ = some (.int .u16 o.i) ∧ W.cell? ⟨xb, 6, none⟩ = some (.int .u16 o.a) ∧ W.cell? ⟨br, 0, none⟩ = some (.int .i64 (64 * (kk : Int)))) (by kernel_rfl) hS2 (fun hHeld => ?_)
  clear hHeld
  refine tk 0 (.pointer (some ⟨b, 0, none⟩)) rfl (by kernel_rfl) (fun _ _ _ h => h) (Or.inl ⟨by rfl, ?_⟩) (by assumption) ?_
  · rintro W ⟨s0, s1, s2, s3, s4, s5⟩; go_simp
  (try simp only [Act.put, q1, q2, q3, q4, q5, q6])
  refine tk 1 (.pointer (some ⟨xb, 1, none⟩)) rfl (by kernel_rfl) (fun _ _ _ h => h) (Or.inl ⟨by rfl, ?_⟩) (by assumption) ?_
  · rintro W ⟨s0, s1, s2, s3, s4, s5⟩; go_simp
  (try simp only [Act.put, q1, q2, q3, q4, q5, q6])
  refine tk 2 (.int .i64 (o.b)) rfl (by kernel_rfl) (fun _ _ _ h => h) (Or.inl ⟨by rfl, ?_⟩) (by assumption) ?_
  · rintro W ⟨s0, s1, s2, s3, s4, s5⟩; go_simp
  (try simp only [Act.put, q1, q2, q3, q4, q5, q6])
  refine tk 3 (.pointer (some ⟨br, 0, none⟩)) rfl (by kernel_rfl) (fun _ _ _ h => h) (Or.inl ⟨by rfl, ?_⟩) (by assumption) ?_
  · rintro W ⟨s0, s1, s2, s3, s4, s5⟩; go_simp
  (try simp only [Act.put, q1, q2, q3, q4, q5, q6])
  refine tk 4 (.pointer (some ⟨br, 0, none⟩)) rfl (by kernel_rfl) (fun _ _ _ h => h) (Or.inl ⟨by rfl, ?_⟩) (by assumption) ?_
  · rintro W ⟨s0, s1, s2, s3, s4, s5⟩; go_simp
  (try simp only [Act.put, q1, q2, q3, q4, q5, q6])
  refine tk 5 (.pointer (some ⟨br, 0, none⟩)) rfl (by kernel_rfl) (fun _ _ _ h => h) (Or.inl ⟨by rfl, ?_⟩) (by assumption) ?_
  · rintro W ⟨s0, s1, s2, s3, s4, s5⟩; go_simp
  (try simp only [Act.put, q1, q2, q3, q4, q5, q6])
  refine tk 6 (.int .i64 (64 * (kk : Int))) rfl (by kernel_rfl) (fun _ _ _ h => h) (Or.inl ⟨by rfl, ?_⟩) (by assumption) ?_
  · rintro W ⟨s0, s1, s2, s3, s4, s5⟩; go_simp
  (try simp only [Act.put, q1, q2, q3, q4, q5, q6])
  refine tk 7 (.int .i64 (min o.b (64 * (kk : Int)))) rfl (by kernel_rfl) (fun _ _ _ h => h) (Or.inl ⟨by rfl, ?_⟩) (by assumption) ?_
  · rintro W ⟨s0, s1, s2, s3, s4, s5⟩; go_simp
  (try simp only [Act.put, q1, q2, q3, q4, q5, q6])
  refine tk 8 (.pointer (some ⟨xb, 2, none⟩)) rfl (by kernel_rfl) (fun _ _ _ h => h) (Or.inl ⟨by rfl, ?_⟩) (by assumption) ?_
  · rintro W ⟨s0, s1, s2, s3, s4, s5⟩; go_simp
  (try simp only [Act.put, q1, q2, q3, q4, q5, q6])
  refine tk 9 (.int .i64 (o.l)) rfl (by kernel_rfl) (fun _ _ _ h => h) (Or.inl ⟨by rfl, ?_⟩) (by assumption) ?_
  · rintro W ⟨s0, s1, s2, s3, s4, s5⟩; go_simp
  (try simp only [Act.put, q1, q2, q3, q4, q5, q6])
  refine tk 10 (.pointer (some ⟨br, 0, none⟩)) rfl (by kernel_rfl) (fun _ _ _ h => h) (Or.inl ⟨by rfl, ?_⟩) (by assumption) ?_
  · rintro W ⟨s0, s1, s2, s3, s4, s5⟩; go_simp
  (try simp only [Act.put, q1, q2, q3, q4, q5, q6])
  refine tk 11 (.pointer (some ⟨br, 0, none⟩)) rfl (by kernel_rfl) (fun _ _ _ h => h) (Or.inl ⟨by rfl, ?_⟩) (by assumption) ?_
  · rintro W ⟨s0, s1, s2, s3, s4, s5⟩; go_simp
  (try simp only [Act.put, q1, q2, q3, q4, q5, q6])
  refine tk 12 (.pointer (some ⟨br, 0, none⟩)) rfl (by kernel_rfl) (fun _ _ _ h => h) (Or.inl ⟨by rfl, ?_⟩) (by assumption) ?_
  · rintro W ⟨s0, s1, s2, s3, s4, s5⟩; go_simp
  (try simp only [Act.put, q1, q2, q3, q4, q5, q6])
  refine tk 13 (.int .i64 (64 * (kk : Int))) rfl (by kernel_rfl) (fun _ _ _ h => h) (Or.inl ⟨by rfl, ?_⟩) (by assumption) ?_
  · rintro W ⟨s0, s1, s2, s3, s4, s5⟩; go_simp
  (try simp only [Act.put, q1, q2, q3, q4, q5, q6])
  refine tk 14 (.int .i64 (min o.l (64 * (kk : Int)))) rfl (by kernel_rfl) (fun _ _ _ h => h) (Or.inl ⟨by rfl, ?_⟩) (by assumption) ?_
  · rintro W ⟨s0, s1, s2, s3, s4, s5⟩; go_simp
  (try simp only [Act.put, q1, q2, q3, q4, q5, q6])
  refine tk 15 (.pointer (some ⟨xb, 3, none⟩)) rfl (by kernel_rfl) (fun _ _ _ h => h) (Or.inl ⟨by rfl, ?_⟩) (by assumption) ?_
  · rintro W ⟨s0, s1, s2, s3, s4, s5⟩; go_simp
  (try simp only [Act.put, q1, q2, q3, q4, q5, q6])
  refine tk 16 (.int .i64 (o.g)) rfl (by kernel_rfl) (fun _ _ _ h => h) (Or.inl ⟨by rfl, ?_⟩) (by assumption) ?_
  · rintro W ⟨s0, s1, s2, s3, s4, s5⟩; go_simp
  (try simp only [Act.put, q1, q2, q3, q4, q5, q6])
  refine tk 17 (.pointer (some ⟨xb, 5, none⟩)) rfl (by kernel_rfl) (fun _ _ _ h => h) (Or.inl ⟨by rfl, ?_⟩) (by assumption) ?_
  · rintro W ⟨s0, s1, s2, s3, s4, s5⟩; go_simp
  (try simp only [Act.put, q1, q2, q3, q4, q5, q6])
  refine tk 18 (.agg #[.int .u16 o.i, .int .u16 o.a]) rfl (by kernel_rfl) (fun _ _ _ h => h) (Or.inl ⟨by rfl, ?_⟩) (by assumption) ?_
  · rintro W ⟨s0, s1, s2, s3, s4, s5⟩; go_simp
  (try simp only [Act.put, q1, q2, q3, q4, q5, q6])
  refine wpAnyH_ready (rs := [19]) (by kernel_rfl) (by simp) (AllReadyH.cons rfl (fun K hK => ?_) AllReadyH.nil)
  go_simp
  go_at_call 15
  refine (HBB.out.land (hm2.low (Below.refl _ _).drew) (hs2.below (Below.refl _ _).drew)).mono ?_
  rintro e w3 ⟨rfl, P3, X3, hm3, hs3, hd3⟩
  have hc3 := hc2.trans ((Chg.of_below (Below.refl _ _).drew).trans hd3)
  have hS3 : w3.cell? ⟨xb, 1, none⟩ = some (.int .i64 o.b) ∧ w3.cell? ⟨xb, 2, none⟩ = some (.int .i64 o.l) ∧ w3.cell? ⟨xb, 3, none⟩ = some (.int .i64 o.g) ∧ w3.cell? ⟨xb, 5, none⟩ = some (.int .u16 o.i) ∧ w3.cell? ⟨xb, 6, none⟩ = some (.int .u16 o.a) ∧ w3.cell? ⟨br, 0, none⟩ = some (.int .i64 (64 * (kk : Int))) := by
    obtain ⟨⟨z0, z1, z2, z3⟩, z4, z5, z6⟩ := HD.out.op _ _ hc3
    exact ⟨z1, z2, z3, z5, z6, hs3.n0⟩
  refine hK.out _ _ hS3 (fun hHeld => ?_)
  clear hK K hHeld hS2
  (try simp only [Act.put, q1, q2, q3, q4, q5, q6])
  refine tk 20 (.tuple #[.int .i64 x, .int .i64 E]) rfl (by kernel_rfl) (fun _ _ _ h => h) (Or.inl ⟨by rfl, ?_⟩) (by assumption) ?_
  · rintro W ⟨s0, s1, s2, s3, s4, s5⟩; go_simp
  (try simp only [Act.put, q1, q2, q3, q4, q5, q6])
  refine tk 21 (.int .i64 (x)) rfl (by kernel_rfl) (fun _ _ _ h => h) (Or.inl ⟨by rfl, ?_⟩) (by assumption) ?_
  · rintro W ⟨s0, s1, s2, s3, s4, s5⟩; go_simp
  (try simp only [Act.put, q1, q2, q3, q4, q5, q6])
  refine tk 22 (.int .i64 (E)) rfl (by kernel_rfl) (fun _ _ _ h => h) (Or.inl ⟨by rfl, ?_⟩) (by assumption) ?_
  · rintro W ⟨s0, s1, s2, s3, s4, s5⟩; go_simp
  (try simp only [Act.put, q1, q2, q3, q4, q5, q6])
  refine tk 23 (.int .i64 (x)) rfl (by kernel_rfl) (fun _ _ _ h => h) (Or.inl ⟨by rfl, ?_⟩) (by assumption) ?_
  · rintro W ⟨s0, s1, s2, s3, s4, s5⟩; go_simp
  (try simp only [Act.put, q1, q2, q3, q4, q5, q6])
  refine tk 24 (.int .i64 (E)) rfl (by kernel_rfl) (fun _ _ _ h => h) (Or.inl ⟨by rfl, ?_⟩) (by assumption) ?_
  · rintro W ⟨s0, s1, s2, s3, s4, s5⟩; go_simp
  (try simp only [Act.put, q1, q2, q3, q4, q5, q6])
  refine wpAnyH_done (by kernel_rfl) ?_ _
  clear hS3
  go_upto_region 10 with (fail)
  have hS3 : w3.drew.cell? ⟨xb, 1, none⟩ = some (.int .i64 o.b) ∧ w3.drew.cell? ⟨xb, 2, none⟩ = some (.int .i64 o.l) ∧ w3.drew.cell? ⟨xb, 3, none⟩ = some (.int .i64 o.g) ∧ w3.drew.cell? ⟨xb, 5, none⟩ = some (.int .u16 o.i) ∧ w3.drew.cell? ⟨xb, 6, none⟩ = some (.int .u16 o.a) ∧ w3.drew.cell? ⟨br, 0, none⟩ = some (.int .i64 (64 * (kk : Int))) := by
    obtain ⟨⟨z0, z1, z2, z3⟩, z4, z5, z6⟩ := HD.out.op _ _ (hc3.trans (Chg.of_below (Below.refl _ _).drew))
    exact ⟨z1, z2, z3, z5, z6, hs3.n0⟩
  refine wp_region_held_drew (S := fun W => W.cell? ⟨xb, 1, none⟩ = some (.int .i64 o.b) ∧ W.cell? ⟨xb, 2, none⟩ = some (.int .i64 o.l) ∧ W.cell? ⟨xb, 3, none⟩ = some (.int .i64 o.g) ∧ W.cell? ⟨xb, 5, none⟩ = some (.int .u16 o.i) ∧ W.cell? ⟨xb, 6, none⟩ = some (.int .u16 o.a) ∧ W.cell? ⟨br, 0, none⟩ = some (.int .i64 (64 * (kk : Int)))) (by kernel_rfl) hS3 (fun hHeld => ?_)
  clear hHeld
  refine tk 0 (.pointer (some ⟨br, 0, none⟩)) rfl (by kernel_rfl) (fun _ _ _ h => h) (Or.inl ⟨by rfl, ?_⟩) (by assumption) ?_
  · rintro W ⟨s0, s1, s2, s3, s4, s5⟩; go_simp
  (try simp only [Act.put, q1, q2, q3, q4, q5, q6])
  refine tk 1 (.pointer (some ⟨xb, 1, none⟩)) rfl (by kernel_rfl) (fun _ _ _ h => h) (Or.inl ⟨by rfl, ?_⟩) (by assumption) ?_
  · rintro W ⟨s0, s1, s2, s3, s4, s5⟩; go_simp
  (try simp only [Act.put, q1, q2, q3, q4, q5, q6])
  refine tk 2 (.int .i64 (o.b)) rfl (by kernel_rfl) (fun _ _ _ h => h) (Or.inl ⟨by rfl, ?_⟩) (by assumption) ?_
  · rintro W ⟨s0, s1, s2, s3, s4, s5⟩; go_simp
  (try simp only [Act.put, q1, q2, q3, q4, q5, q6])
  refine tk 3 (.pointer (some ⟨br, 0, none⟩)) rfl (by kernel_rfl) (fun _ _ _ h => h) (Or.inl ⟨by rfl, ?_⟩) (by assumption) ?_
  · rintro W ⟨s0, s1, s2, s3, s4, s5⟩; go_simp
  (try simp only [Act.put, q1, q2, q3, q4, q5, q6])
  refine tk 4 (.pointer (some ⟨br, 0, none⟩)) rfl (by kernel_rfl) (fun _ _ _ h => h) (Or.inl ⟨by rfl, ?_⟩) (by assumption) ?_
  · rintro W ⟨s0, s1, s2, s3, s4, s5⟩; go_simp
  (try simp only [Act.put, q1, q2, q3, q4, q5, q6])
  refine tk 5 (.pointer (some ⟨br, 0, none⟩)) rfl (by kernel_rfl) (fun _ _ _ h => h) (Or.inl ⟨by rfl, ?_⟩) (by assumption) ?_
  · rintro W ⟨s0, s1, s2, s3, s4, s5⟩; go_simp
  (try simp only [Act.put, q1, q2, q3, q4, q5, q6])
  refine tk 6 (.int .i64 (64 * (kk : Int))) rfl (by kernel_rfl) (fun _ _ _ h => h) (Or.inl ⟨by rfl, ?_⟩) (by assumption) ?_
  · rintro W ⟨s0, s1, s2, s3, s4, s5⟩; go_simp
  (try simp only [Act.put, q1, q2, q3, q4, q5, q6])
  refine tk 7 (.int .i64 (min o.b (64 * (kk : Int)))) rfl (by kernel_rfl) (fun _ _ _ h => h) (Or.inl ⟨by rfl, ?_⟩) (by assumption) ?_
  · rintro W ⟨s0, s1, s2, s3, s4, s5⟩; go_simp
  (try simp only [Act.put, q1, q2, q3, q4, q5, q6])
  refine tk 8 (.pointer (some ⟨xb, 2, none⟩)) rfl (by kernel_rfl) (fun _ _ _ h => h) (Or.inl ⟨by rfl, ?_⟩) (by assumption) ?_
  · rintro W ⟨s0, s1, s2, s3, s4, s5⟩; go_simp
  (try simp only [Act.put, q1, q2, q3, q4, q5, q6])
  refine tk 9 (.int .i64 (o.l)) rfl (by kernel_rfl) (fun _ _ _ h => h) (Or.inl ⟨by rfl, ?_⟩) (by assumption) ?_
  · rintro W ⟨s0, s1, s2, s3, s4, s5⟩; go_simp
  (try simp only [Act.put, q1, q2, q3, q4, q5, q6])
  refine tk 10 (.pointer (some ⟨br, 0, none⟩)) rfl (by kernel_rfl) (fun _ _ _ h => h) (Or.inl ⟨by rfl, ?_⟩) (by assumption) ?_
  · rintro W ⟨s0, s1, s2, s3, s4, s5⟩; go_simp
  (try simp only [Act.put, q1, q2, q3, q4, q5, q6])
  refine tk 11 (.pointer (some ⟨br, 0, none⟩)) rfl (by kernel_rfl) (fun _ _ _ h => h) (Or.inl ⟨by rfl, ?_⟩) (by assumption) ?_
  · rintro W ⟨s0, s1, s2, s3, s4, s5⟩; go_simp
  (try simp only [Act.put, q1, q2, q3, q4, q5, q6])
  refine tk 12 (.pointer (some ⟨br, 0, none⟩)) rfl (by kernel_rfl) (fun _ _ _ h => h) (Or.inl ⟨by rfl, ?_⟩) (by assumption) ?_
  · rintro W ⟨s0, s1, s2, s3, s4, s5⟩; go_simp
  (try simp only [Act.put, q1, q2, q3, q4, q5, q6])
  refine tk 13 (.int .i64 (64 * (kk : Int))) rfl (by kernel_rfl) (fun _ _ _ h => h) (Or.inl ⟨by rfl, ?_⟩) (by assumption) ?_
  · rintro W ⟨s0, s1, s2, s3, s4, s5⟩; go_simp
  (try simp only [Act.put, q1, q2, q3, q4, q5, q6])
  refine tk 14 (.int .i64 (min o.l (64 * (kk : Int)))) rfl (by kernel_rfl) (fun _ _ _ h => h) (Or.inl ⟨by rfl, ?_⟩) (by assumption) ?_
  · rintro W ⟨s0, s1, s2, s3, s4, s5⟩; go_simp
  (try simp only [Act.put, q1, q2, q3, q4, q5, q6])
  refine tk 15 (.pointer (some ⟨xb, 3, none⟩)) rfl (by kernel_rfl) (fun _ _ _ h => h) (Or.inl ⟨by rfl, ?_⟩) (by assumption) ?_
  · rintro W ⟨s0, s1, s2, s3, s4, s5⟩; go_simp
  (try simp only [Act.put, q1, q2, q3, q4, q5, q6])
  refine tk 16 (.int .i64 (o.g)) rfl (by kernel_rfl) (fun _ _ _ h => h) (Or.inl ⟨by rfl, ?_⟩) (by assumption) ?_
  · rintro W ⟨s0, s1, s2, s3, s4, s5⟩; go_simp
  (try simp only [Act.put, q1, q2, q3, q4, q5, q6])
  refine tk 17 (.pointer (some ⟨xb, 5, none⟩)) rfl (by kernel_rfl) (fun _ _ _ h => h) (Or.inl ⟨by rfl, ?_⟩) (by assumption) ?_
  · rintro W ⟨s0, s1, s2, s3, s4, s5⟩; go_simp
  (try simp only [Act.put, q1, q2, q3, q4, q5, q6])
  refine tk 18 (.agg #[.int .u16 o.i, .int .u16 o.a]) rfl (by kernel_rfl) (fun _ _ _ h => h) (Or.inl ⟨by rfl, ?_⟩) (by assumption) ?_
  · rintro W ⟨s0, s1, s2, s3, s4, s5⟩; go_simp
  (try simp only [Act.put, q1, q2, q3, q4, q5, q6])
  refine wpAnyH_ready (rs := [19]) (by kernel_rfl) (by simp) (AllReadyH.cons rfl (fun K hK => ?_) AllReadyH.nil)
  go_simp
  go_at_call 16
  refine (HBB.out.refe (hm3.low (Below.refl _ _).drew) (hs3.below (Below.refl _ _).drew)).mono ?_
  rintro e w4 ⟨rfl, hm4, hs4, hd4⟩
  have hc4 := hc3.trans ((Chg.of_below (Below.refl _ _).drew).trans hd4)
  have hS4 : w4.cell? ⟨xb, 1, none⟩ = some (.int .i64 o.b) ∧ w4.cell? ⟨xb, 2, none⟩ = some (.int .i64 o.l) ∧ w4.cell? ⟨xb, 3, none⟩ = some (.int .i64 o.g) ∧ w4.cell? ⟨xb, 5, none⟩ = some (.int .u16 o.i) ∧ w4.cell? ⟨xb, 6, none⟩ = some (.int .u16 o.a) ∧ w4.cell? ⟨br, 0, none⟩ = some (.int .i64 (64 * (kk : Int))) := by
    obtain ⟨⟨z0, z1, z2, z3⟩, z4, z5, z6⟩ := HD.out.op _ _ hc4
    exact ⟨z1, z2, z3, z5, z6, hs4.n0⟩
  refine hK.out _ _ hS4 (fun hHeld => ?_)
  clear hK K hHeld hS3
  (try simp only [Act.put, q1, q2, q3, q4, q5, q6])
  refine tk 20 (.tuple #[.int .i64 x, .int .i64 E]) rfl (by kernel_rfl) (fun _ _ _ h => h) (Or.inl ⟨by rfl, ?_⟩) (by assumption) ?_
  · rintro W ⟨s0, s1, s2, s3, s4, s5⟩; go_simp
  (try simp only [Act.put, q1, q2, q3, q4, q5, q6])
  refine tk 21 (.int .i64 (x)) rfl (by kernel_rfl) (fun _ _ _ h => h) (Or.inl ⟨by rfl, ?_⟩) (by assumption) ?_
  · rintro W ⟨s0, s1, s2, s3, s4, s5⟩; go_simp
  (try simp only [Act.put, q1, q2, q3, q4, q5, q6])
  refine tk 22 (.int .i64 (E)) rfl (by kernel_rfl) (fun _ _ _ h => h) (Or.inl ⟨by rfl, ?_⟩) (by assumption) ?_
  · rintro W ⟨s0, s1, s2, s3, s4, s5⟩; go_simp
  (try simp only [Act.put, q1, q2, q3, q4, q5, q6])
  refine tk 23 (.int .i64 (x)) rfl (by kernel_rfl) (fun _ _ _ h => h) (Or.inl ⟨by rfl, ?_⟩) (by assumption) ?_
  · rintro W ⟨s0, s1, s2, s3, s4, s5⟩; go_simp
  (try simp only [Act.put, q1, q2, q3, q4, q5, q6])
  refine tk 24 (.int .i64 (E)) rfl (by kernel_rfl) (fun _ _ _ h => h) (Or.inl ⟨by rfl, ?_⟩) (by assumption) ?_
  · rintro W ⟨s0, s1, s2, s3, s4, s5⟩; go_simp
  (try simp only [Act.put, q1, q2, q3, q4, q5, q6])
  refine wpAnyH_done (by kernel_rfl) ?_ _
  clear hS4
  rcases HOR.out with rfl | ⟨hne, rfl⟩
  · have HO := HO2.out
    clear HOR
    go_wp2_with (go_at_call 17; refine (hm4.keep HO hs4).mono ?_; rintro e w9 ⟨rfl, P9, X9, hsd9, hc9⟩)
    go_ret
    exact ⟨rfl, P9, X9, _, hsd9, (HD.out.ch.trans hc4).trans hc9⟩
  · have hnb : (E == 0) = false := by simpa using hne
    clear hne
    go_wp2_with (go_at_call 17; refine (hm4.undo hs4).mono ?_; rintro e w9 ⟨rfl, P9, X9, hsd9, hc9⟩)
    go_ret
    exact ⟨rfl, P9, X9, _, hsd9, (HD.out.ch.trans hc4).trans hc9⟩
end
end Go.Proofs.YtkbeencjklgcnaaGreat

/- The law's do: a call on both sides. -/
namespace Go.Proofs.YtkbeencjklgcnaaGreat
set_option maxRecDepth 100000
open Go.RowKit
set_option linter.unusedVariables false

section
variable {w0 w : World} {P M : Nat → Prop} {d : Value} {b br : Nat} {X : XSt} {O : List (Int × Int)} {kk : Nat}
set_option maxHeartbeats 4000000 in
theorem do_give (h : Side w0 w P M d (.pointer (some ⟨b, 0, none⟩)) (.pointer (some ⟨br, 0, none⟩)) X (64 * (kk : Int)) O kk) (o : O12) (ho : o.ok) (hk : o.k = 2) :
    Calls Tryz.prog 11 #[.pointer (some ⟨b, 0, none⟩), .pointer (some ⟨br, 0, none⟩), opV12 o.k o.b o.l o.g o.n o.i o.a] w (DoOut w0 w P M d (.pointer (some ⟨b, 0, none⟩)) (.pointer (some ⟨br, 0, none⟩)) kk) := by
  have h1 := h.ok.k1
  have h12 := h.ok.k12
  have hok := h.ok
  obtain ⟨q1, q2, q3, q4, q5, q6⟩ := ho
  obtain ⟨E, O2, hO2, hor, HB⟩ := give12 (n := min o.n (64 * (kk : Int) - 1)) hok (by unfold in64 at q4 ⊢; omega) (by omega)
  have hd := doK h o
  obtain ⟨W1, hW1⟩ : ∃ W1, W1 = w.alloc (.cells #[.int .i64 o.k, .int .i64 o.b, .int .i64 o.l, .int .i64 o.g, .int .i64 o.n, .int .u16 o.i, .int .u16 o.a] 34) := ⟨_, rfl⟩
  rw [← hW1] at hd
  obtain ⟨xb, hxb⟩ : ∃ xb, xb = w.heap.size := ⟨_, rfl⟩
  rw [← hxb] at hd
  have HW1 := Lib.hid hW1.symm
  have HXB := Lib.hid hxb
  have HD := Lib.hid hd
  have hwr : IntKind.i64.wrap (64 * (kk : Int) - 1) = 64 * (kk : Int) - 1 := by rw [IntKind.wrap_i64]; omega
  have HBB := Lib.hid HB
  have HO2 := Lib.hid hO2
  have HOR := Lib.hid hor
  clear HB hO2 hor
  have HK := Lib.hid hk
  have KB := Lib.hid hd.sd.begin
  clear hW1 hxb hd h hok hk q1 q2 q3 q4 q5 q6
  unfold opV12
  go_enter Tryz.func11, Tryz.ntmps11
  go_upto_region 1 with (fail)
  rw [HW1.out, ← HXB.out]
  go_upto_region 13 with (first
    | (go_at_call 14; refine KB.out.mono ?_; rintro e w2 ⟨rfl, P2, hm2, hs2, hc2⟩; obtain ⟨⟨x0, _, _, _⟩, _, _, _⟩ := HD.out.op _ _ hc2; rw [HK.out] at x0))
  have hS2 : w2.drew.cell? ⟨xb, 4, none⟩ = some (.int .i64 o.n) ∧ w2.drew.cell? ⟨br, 0, none⟩ = some (.int .i64 (64 * (kk : Int))) := by
    obtain ⟨⟨z0, z1, z2, z3⟩, z4, z5, z6⟩ := HD.out.op _ _ (hc2.trans (Chg.of_below (Below.refl _ _).drew))
    exact ⟨z4, hs2.n0⟩
  refine wp_region_held_drew (S := fun W => W.cell? ⟨xb, 4, none⟩ = some (.int .i64 o.n) ∧ W.cell? ⟨br, 0, none⟩ = some (.int .i64 (64 * (kk : Int)))) (by kernel_rfl) hS2 (fun hHeld => ?_)
  clear hHeld
  refine tk 0 (.pointer (some ⟨b, 0, none⟩)) rfl (by kernel_rfl) (fun _ _ _ h => h) (Or.inl ⟨by rfl, ?_⟩) (by assumption) ?_
  · rintro W ⟨s0, s1⟩; go_simp
  (try simp only [Act.put, q1, q2, q3, q4, q5, q6])
  refine tk 1 (.pointer (some ⟨xb, 4, none⟩)) rfl (by kernel_rfl) (fun _ _ _ h => h) (Or.inl ⟨by rfl, ?_⟩) (by assumption) ?_
  · rintro W ⟨s0, s1⟩; go_simp
  (try simp only [Act.put, q1, q2, q3, q4, q5, q6])
  refine tk 2 (.int .i64 (o.n)) rfl (by kernel_rfl) (fun _ _ _ h => h) (Or.inl ⟨by rfl, ?_⟩) (by assumption) ?_
  · rintro W ⟨s0, s1⟩; go_simp
  (try simp only [Act.put, q1, q2, q3, q4, q5, q6])
  refine tk 3 (.pointer (some ⟨br, 0, none⟩)) rfl (by kernel_rfl) (fun _ _ _ h => h) (Or.inl ⟨by rfl, ?_⟩) (by assumption) ?_
  · rintro W ⟨s0, s1⟩; go_simp
  (try simp only [Act.put, q1, q2, q3, q4, q5, q6])
  refine tk 4 (.pointer (some ⟨br, 0, none⟩)) rfl (by kernel_rfl) (fun _ _ _ h => h) (Or.inl ⟨by rfl, ?_⟩) (by assumption) ?_
  · rintro W ⟨s0, s1⟩; go_simp
  (try simp only [Act.put, q1, q2, q3, q4, q5, q6])
  refine tk 5 (.pointer (some ⟨br, 0, none⟩)) rfl (by kernel_rfl) (fun _ _ _ h => h) (Or.inl ⟨by rfl, ?_⟩) (by assumption) ?_
  · rintro W ⟨s0, s1⟩; go_simp
  (try simp only [Act.put, q1, q2, q3, q4, q5, q6])
  refine tk 6 (.int .i64 (64 * (kk : Int))) rfl (by kernel_rfl) (fun _ _ _ h => h) (Or.inl ⟨by rfl, ?_⟩) (by assumption) ?_
  · rintro W ⟨s0, s1⟩; go_simp
  (try simp only [Act.put, q1, q2, q3, q4, q5, q6])
  refine tk 7 (.int .i64 (64 * (kk : Int) - 1)) rfl (by kernel_rfl) (fun _ _ _ h => h) (Or.inl ⟨by rfl, ?_⟩) (by assumption) ?_
  · rintro W ⟨s0, s1⟩; go_simp
  (try simp only [Act.put, q1, q2, q3, q4, q5, q6])
  refine tk 8 (.int .i64 (min o.n (64 * (kk : Int) - 1))) rfl (by kernel_rfl) (fun _ _ _ h => h) (Or.inl ⟨by rfl, ?_⟩) (by assumption) ?_
  · rintro W ⟨s0, s1⟩; go_simp
  (try simp only [Act.put, q1, q2, q3, q4, q5, q6])
  refine wpAnyH_ready (rs := [9]) (by kernel_rfl) (by simp) (AllReadyH.cons rfl (fun K hK => ?_) AllReadyH.nil)
  go_simp
  go_at_call 23
  refine (HBB.out.land (hm2.low (Below.refl _ _).drew) (hs2.below (Below.refl _ _).drew)).mono ?_
  rintro e w3 ⟨rfl, P3, X3, hm3, hs3, hd3⟩
  have hc3 := hc2.trans ((Chg.of_below (Below.refl _ _).drew).trans hd3)
  have hS3 : w3.cell? ⟨xb, 4, none⟩ = some (.int .i64 o.n) ∧ w3.cell? ⟨br, 0, none⟩ = some (.int .i64 (64 * (kk : Int))) := by
    obtain ⟨⟨z0, z1, z2, z3⟩, z4, z5, z6⟩ := HD.out.op _ _ hc3
    exact ⟨z4, hs3.n0⟩
  refine hK.out _ _ hS3 (fun hHeld => ?_)
  clear hK K hHeld hS2
  (try simp only [Act.put, q1, q2, q3, q4, q5, q6])
  refine tk 10 (.int .i64 (E)) rfl (by kernel_rfl) (fun _ _ _ h => h) (Or.inl ⟨by rfl, ?_⟩) (by assumption) ?_
  · rintro W ⟨s0, s1⟩; go_simp
  (try simp only [Act.put, q1, q2, q3, q4, q5, q6])
  refine wpAnyH_done (by kernel_rfl) ?_ _
  clear hS3
  go_upto_region 14 with (fail)
  have hS3 : w3.drew.cell? ⟨xb, 4, none⟩ = some (.int .i64 o.n) ∧ w3.drew.cell? ⟨br, 0, none⟩ = some (.int .i64 (64 * (kk : Int))) := by
    obtain ⟨⟨z0, z1, z2, z3⟩, z4, z5, z6⟩ := HD.out.op _ _ (hc3.trans (Chg.of_below (Below.refl _ _).drew))
    exact ⟨z4, hs3.n0⟩
  refine wp_region_held_drew (S := fun W => W.cell? ⟨xb, 4, none⟩ = some (.int .i64 o.n) ∧ W.cell? ⟨br, 0, none⟩ = some (.int .i64 (64 * (kk : Int)))) (by kernel_rfl) hS3 (fun hHeld => ?_)
  clear hHeld
  refine tk 0 (.int .i64 (E)) rfl (by kernel_rfl) (fun _ _ _ h => h) (Or.inl ⟨by rfl, ?_⟩) (by assumption) ?_
  · rintro W ⟨s0, s1⟩; go_simp
  (try simp only [Act.put, q1, q2, q3, q4, q5, q6])
  refine tk 1 (.pointer (some ⟨br, 0, none⟩)) rfl (by kernel_rfl) (fun _ _ _ h => h) (Or.inl ⟨by rfl, ?_⟩) (by assumption) ?_
  · rintro W ⟨s0, s1⟩; go_simp
  (try simp only [Act.put, q1, q2, q3, q4, q5, q6])
  refine tk 2 (.pointer (some ⟨xb, 4, none⟩)) rfl (by kernel_rfl) (fun _ _ _ h => h) (Or.inl ⟨by rfl, ?_⟩) (by assumption) ?_
  · rintro W ⟨s0, s1⟩; go_simp
  (try simp only [Act.put, q1, q2, q3, q4, q5, q6])
  refine tk 3 (.int .i64 (o.n)) rfl (by kernel_rfl) (fun _ _ _ h => h) (Or.inl ⟨by rfl, ?_⟩) (by assumption) ?_
  · rintro W ⟨s0, s1⟩; go_simp
  (try simp only [Act.put, q1, q2, q3, q4, q5, q6])
  refine tk 4 (.pointer (some ⟨br, 0, none⟩)) rfl (by kernel_rfl) (fun _ _ _ h => h) (Or.inl ⟨by rfl, ?_⟩) (by assumption) ?_
  · rintro W ⟨s0, s1⟩; go_simp
  (try simp only [Act.put, q1, q2, q3, q4, q5, q6])
  refine tk 5 (.pointer (some ⟨br, 0, none⟩)) rfl (by kernel_rfl) (fun _ _ _ h => h) (Or.inl ⟨by rfl, ?_⟩) (by assumption) ?_
  · rintro W ⟨s0, s1⟩; go_simp
  (try simp only [Act.put, q1, q2, q3, q4, q5, q6])
  refine tk 6 (.pointer (some ⟨br, 0, none⟩)) rfl (by kernel_rfl) (fun _ _ _ h => h) (Or.inl ⟨by rfl, ?_⟩) (by assumption) ?_
  · rintro W ⟨s0, s1⟩; go_simp
  (try simp only [Act.put, q1, q2, q3, q4, q5, q6])
  refine tk 7 (.int .i64 (64 * (kk : Int))) rfl (by kernel_rfl) (fun _ _ _ h => h) (Or.inl ⟨by rfl, ?_⟩) (by assumption) ?_
  · rintro W ⟨s0, s1⟩; go_simp
  (try simp only [Act.put, q1, q2, q3, q4, q5, q6])
  refine tk 8 (.int .i64 (64 * (kk : Int) - 1)) rfl (by kernel_rfl) (fun _ _ _ h => h) (Or.inl ⟨by rfl, ?_⟩) (by assumption) ?_
  · rintro W ⟨s0, s1⟩; go_simp
  (try simp only [Act.put, q1, q2, q3, q4, q5, q6])
  refine tk 9 (.int .i64 (min o.n (64 * (kk : Int) - 1))) rfl (by kernel_rfl) (fun _ _ _ h => h) (Or.inl ⟨by rfl, ?_⟩) (by assumption) ?_
  · rintro W ⟨s0, s1⟩; go_simp
  (try simp only [Act.put, q1, q2, q3, q4, q5, q6])
  refine wpAnyH_ready (rs := [10]) (by kernel_rfl) (by simp) (AllReadyH.cons rfl (fun K hK => ?_) AllReadyH.nil)
  go_simp
  go_at_call 30
  refine (HBB.out.refe (hm3.low (Below.refl _ _).drew) (hs3.below (Below.refl _ _).drew)).mono ?_
  rintro e w4 ⟨rfl, hm4, hs4, hd4⟩
  have hc4 := hc3.trans ((Chg.of_below (Below.refl _ _).drew).trans hd4)
  have hS4 : w4.cell? ⟨xb, 4, none⟩ = some (.int .i64 o.n) ∧ w4.cell? ⟨br, 0, none⟩ = some (.int .i64 (64 * (kk : Int))) := by
    obtain ⟨⟨z0, z1, z2, z3⟩, z4, z5, z6⟩ := HD.out.op _ _ hc4
    exact ⟨z4, hs4.n0⟩
  refine hK.out _ _ hS4 (fun hHeld => ?_)
  clear hK K hHeld hS3
  (try simp only [Act.put, q1, q2, q3, q4, q5, q6])
  refine tk 11 (.bool true) rfl (by kernel_rfl) (fun _ _ _ h => h) (Or.inl ⟨by rfl, ?_⟩) (by assumption) ?_
  · rintro W ⟨s0, s1⟩; go_simp
  (try simp only [Act.put, q1, q2, q3, q4, q5, q6])
  refine tk 12 (.bool true) rfl (by kernel_rfl) (fun _ _ _ h => h) (Or.inl ⟨by rfl, ?_⟩) (by assumption) ?_
  · rintro W ⟨s0, s1⟩; go_simp
  (try simp only [Act.put, q1, q2, q3, q4, q5, q6])
  refine wpAnyH_done (by kernel_rfl) ?_ _
  clear hS4
  rcases HOR.out with rfl | ⟨hne, rfl⟩
  · have HO := HO2.out
    clear HOR
    go_wp2_with (go_at_call 17; refine (hm4.keep HO hs4).mono ?_; rintro e w9 ⟨rfl, P9, X9, hsd9, hc9⟩)
    go_ret
    exact ⟨rfl, P9, X9, _, hsd9, (HD.out.ch.trans hc4).trans hc9⟩
  · have hnb : (E == 0) = false := by simpa using hne
    clear hne
    go_wp2_with (go_at_call 17; refine (hm4.undo hs4).mono ?_; rintro e w9 ⟨rfl, P9, X9, hsd9, hc9⟩)
    go_ret
    exact ⟨rfl, P9, X9, _, hsd9, (HD.out.ch.trans hc4).trans hc9⟩
end
end Go.Proofs.YtkbeencjklgcnaaGreat

/- The law's do: a call on both sides. -/
namespace Go.Proofs.YtkbeencjklgcnaaGreat
set_option maxRecDepth 100000
open Go.RowKit
set_option linter.unusedVariables false

section
variable {w0 w : World} {P M : Nat → Prop} {d : Value} {b br : Nat} {X : XSt} {O : List (Int × Int)} {kk : Nat}
set_option maxHeartbeats 4000000 in
theorem do_set (h : Side w0 w P M d (.pointer (some ⟨b, 0, none⟩)) (.pointer (some ⟨br, 0, none⟩)) X (64 * (kk : Int)) O kk) (o : O12) (ho : o.ok) (hk : o.k = 3) :
    Calls Tryz.prog 11 #[.pointer (some ⟨b, 0, none⟩), .pointer (some ⟨br, 0, none⟩), opV12 o.k o.b o.l o.g o.n o.i o.a] w (DoOut w0 w P M d (.pointer (some ⟨b, 0, none⟩)) (.pointer (some ⟨br, 0, none⟩)) kk) := by
  have h1 := h.ok.k1
  have h12 := h.ok.k12
  have hok := h.ok
  obtain ⟨q1, q2, q3, q4, q5, q6⟩ := ho
  obtain ⟨E, O2, hO2, hor, HB⟩ := set12 (n := min o.n (64 * (kk : Int) - 1)) hok (by unfold in64 at q4 ⊢; omega) (by omega) q5 q6
  have hd := doK h o
  obtain ⟨W1, hW1⟩ : ∃ W1, W1 = w.alloc (.cells #[.int .i64 o.k, .int .i64 o.b, .int .i64 o.l, .int .i64 o.g, .int .i64 o.n, .int .u16 o.i, .int .u16 o.a] 34) := ⟨_, rfl⟩
  rw [← hW1] at hd
  obtain ⟨xb, hxb⟩ : ∃ xb, xb = w.heap.size := ⟨_, rfl⟩
  rw [← hxb] at hd
  have HW1 := Lib.hid hW1.symm
  have HXB := Lib.hid hxb
  have HD := Lib.hid hd
  have hwr : IntKind.i64.wrap (64 * (kk : Int) - 1) = 64 * (kk : Int) - 1 := by rw [IntKind.wrap_i64]; omega
  have HBB := Lib.hid HB
  have HO2 := Lib.hid hO2
  have HOR := Lib.hid hor
  clear HB hO2 hor
  have HK := Lib.hid hk
  have KB := Lib.hid hd.sd.begin
  clear hW1 hxb hd h hok hk q1 q2 q3 q4 q5 q6
  unfold opV12
  go_enter Tryz.func11, Tryz.ntmps11
  go_upto_region 1 with (fail)
  rw [HW1.out, ← HXB.out]
  go_upto_region 16 with (first
    | (go_at_call 14; refine KB.out.mono ?_; rintro e w2 ⟨rfl, P2, hm2, hs2, hc2⟩; obtain ⟨⟨x0, _, _, _⟩, _, _, _⟩ := HD.out.op _ _ hc2; rw [HK.out] at x0))
  have hS2 : w2.drew.cell? ⟨xb, 4, none⟩ = some (.int .i64 o.n) ∧ w2.drew.cell? ⟨xb, 5, none⟩ = some (.int .u16 o.i) ∧ w2.drew.cell? ⟨xb, 6, none⟩ = some (.int .u16 o.a) ∧ w2.drew.cell? ⟨br, 0, none⟩ = some (.int .i64 (64 * (kk : Int))) := by
    obtain ⟨⟨z0, z1, z2, z3⟩, z4, z5, z6⟩ := HD.out.op _ _ (hc2.trans (Chg.of_below (Below.refl _ _).drew))
    exact ⟨z4, z5, z6, hs2.n0⟩
  refine wp_region_held_drew (S := fun W => W.cell? ⟨xb, 4, none⟩ = some (.int .i64 o.n) ∧ W.cell? ⟨xb, 5, none⟩ = some (.int .u16 o.i) ∧ W.cell? ⟨xb, 6, none⟩ = some (.int .u16 o.a) ∧ W.cell? ⟨br, 0, none⟩ = some (.int .i64 (64 * (kk : Int)))) (by kernel_rfl) hS2 (fun hHeld => ?_)
  clear hHeld
  refine tk 0 (.pointer (some ⟨b, 0, none⟩)) rfl (by kernel_rfl) (fun _ _ _ h => h) (Or.inl ⟨by rfl, ?_⟩) (by assumption) ?_
  · rintro W ⟨s0, s1, s2, s3⟩; go_simp
  (try simp only [Act.put, q1, q2, q3, q4, q5, q6])
  refine tk 1 (.pointer (some ⟨xb, 4, none⟩)) rfl (by kernel_rfl) (fun _ _ _ h => h) (Or.inl ⟨by rfl, ?_⟩) (by assumption) ?_
  · rintro W ⟨s0, s1, s2, s3⟩; go_simp
  (try simp only [Act.put, q1, q2, q3, q4, q5, q6])
  refine tk 2 (.int .i64 (o.n)) rfl (by kernel_rfl) (fun _ _ _ h => h) (Or.inl ⟨by rfl, ?_⟩) (by assumption) ?_
  · rintro W ⟨s0, s1, s2, s3⟩; go_simp
  (try simp only [Act.put, q1, q2, q3, q4, q5, q6])
  refine tk 3 (.pointer (some ⟨br, 0, none⟩)) rfl (by kernel_rfl) (fun _ _ _ h => h) (Or.inl ⟨by rfl, ?_⟩) (by assumption) ?_
  · rintro W ⟨s0, s1, s2, s3⟩; go_simp
  (try simp only [Act.put, q1, q2, q3, q4, q5, q6])
  refine tk 4 (.pointer (some ⟨br, 0, none⟩)) rfl (by kernel_rfl) (fun _ _ _ h => h) (Or.inl ⟨by rfl, ?_⟩) (by assumption) ?_
  · rintro W ⟨s0, s1, s2, s3⟩; go_simp
  (try simp only [Act.put, q1, q2, q3, q4, q5, q6])
  refine tk 5 (.pointer (some ⟨br, 0, none⟩)) rfl (by kernel_rfl) (fun _ _ _ h => h) (Or.inl ⟨by rfl, ?_⟩) (by assumption) ?_
  · rintro W ⟨s0, s1, s2, s3⟩; go_simp
  (try simp only [Act.put, q1, q2, q3, q4, q5, q6])
  refine tk 6 (.int .i64 (64 * (kk : Int))) rfl (by kernel_rfl) (fun _ _ _ h => h) (Or.inl ⟨by rfl, ?_⟩) (by assumption) ?_
  · rintro W ⟨s0, s1, s2, s3⟩; go_simp
  (try simp only [Act.put, q1, q2, q3, q4, q5, q6])
  refine tk 7 (.int .i64 (64 * (kk : Int) - 1)) rfl (by kernel_rfl) (fun _ _ _ h => h) (Or.inl ⟨by rfl, ?_⟩) (by assumption) ?_
  · rintro W ⟨s0, s1, s2, s3⟩; go_simp
  (try simp only [Act.put, q1, q2, q3, q4, q5, q6])
  refine tk 8 (.int .i64 (min o.n (64 * (kk : Int) - 1))) rfl (by kernel_rfl) (fun _ _ _ h => h) (Or.inl ⟨by rfl, ?_⟩) (by assumption) ?_
  · rintro W ⟨s0, s1, s2, s3⟩; go_simp
  (try simp only [Act.put, q1, q2, q3, q4, q5, q6])
  refine tk 9 (.pointer (some ⟨xb, 5, none⟩)) rfl (by kernel_rfl) (fun _ _ _ h => h) (Or.inl ⟨by rfl, ?_⟩) (by assumption) ?_
  · rintro W ⟨s0, s1, s2, s3⟩; go_simp
  (try simp only [Act.put, q1, q2, q3, q4, q5, q6])
  refine tk 10 (.agg #[.int .u16 o.i, .int .u16 o.a]) rfl (by kernel_rfl) (fun _ _ _ h => h) (Or.inl ⟨by rfl, ?_⟩) (by assumption) ?_
  · rintro W ⟨s0, s1, s2, s3⟩; go_simp
  (try simp only [Act.put, q1, q2, q3, q4, q5, q6])
  refine wpAnyH_ready (rs := [11]) (by kernel_rfl) (by simp) (AllReadyH.cons rfl (fun K hK => ?_) AllReadyH.nil)
  go_simp
  go_at_call 22
  refine (HBB.out.land (hm2.low (Below.refl _ _).drew) (hs2.below (Below.refl _ _).drew)).mono ?_
  rintro e w3 ⟨rfl, P3, X3, hm3, hs3, hd3⟩
  have hc3 := hc2.trans ((Chg.of_below (Below.refl _ _).drew).trans hd3)
  have hS3 : w3.cell? ⟨xb, 4, none⟩ = some (.int .i64 o.n) ∧ w3.cell? ⟨xb, 5, none⟩ = some (.int .u16 o.i) ∧ w3.cell? ⟨xb, 6, none⟩ = some (.int .u16 o.a) ∧ w3.cell? ⟨br, 0, none⟩ = some (.int .i64 (64 * (kk : Int))) := by
    obtain ⟨⟨z0, z1, z2, z3⟩, z4, z5, z6⟩ := HD.out.op _ _ hc3
    exact ⟨z4, z5, z6, hs3.n0⟩
  refine hK.out _ _ hS3 (fun hHeld => ?_)
  clear hK K hHeld hS2
  (try simp only [Act.put, q1, q2, q3, q4, q5, q6])
  refine tk 12 (.int .i64 (E)) rfl (by kernel_rfl) (fun _ _ _ h => h) (Or.inl ⟨by rfl, ?_⟩) (by assumption) ?_
  · rintro W ⟨s0, s1, s2, s3⟩; go_simp
  (try simp only [Act.put, q1, q2, q3, q4, q5, q6])
  refine wpAnyH_done (by kernel_rfl) ?_ _
  clear hS3
  go_upto_region 17 with (fail)
  have hS3 : w3.drew.cell? ⟨xb, 4, none⟩ = some (.int .i64 o.n) ∧ w3.drew.cell? ⟨xb, 5, none⟩ = some (.int .u16 o.i) ∧ w3.drew.cell? ⟨xb, 6, none⟩ = some (.int .u16 o.a) ∧ w3.drew.cell? ⟨br, 0, none⟩ = some (.int .i64 (64 * (kk : Int))) := by
    obtain ⟨⟨z0, z1, z2, z3⟩, z4, z5, z6⟩ := HD.out.op _ _ (hc3.trans (Chg.of_below (Below.refl _ _).drew))
    exact ⟨z4, z5, z6, hs3.n0⟩
  refine wp_region_held_drew (S := fun W => W.cell? ⟨xb, 4, none⟩ = some (.int .i64 o.n) ∧ W.cell? ⟨xb, 5, none⟩ = some (.int .u16 o.i) ∧ W.cell? ⟨xb, 6, none⟩ = some (.int .u16 o.a) ∧ W.cell? ⟨br, 0, none⟩ = some (.int .i64 (64 * (kk : Int)))) (by kernel_rfl) hS3 (fun hHeld => ?_)
  clear hHeld
  refine tk 0 (.int .i64 (E)) rfl (by kernel_rfl) (fun _ _ _ h => h) (Or.inl ⟨by rfl, ?_⟩) (by assumption) ?_
  · rintro W ⟨s0, s1, s2, s3⟩; go_simp
  (try simp only [Act.put, q1, q2, q3, q4, q5, q6])
  refine tk 1 (.pointer (some ⟨br, 0, none⟩)) rfl (by kernel_rfl) (fun _ _ _ h => h) (Or.inl ⟨by rfl, ?_⟩) (by assumption) ?_
  · rintro W ⟨s0, s1, s2, s3⟩; go_simp
  (try simp only [Act.put, q1, q2, q3, q4, q5, q6])
  refine tk 2 (.pointer (some ⟨xb, 4, none⟩)) rfl (by kernel_rfl) (fun _ _ _ h => h) (Or.inl ⟨by rfl, ?_⟩) (by assumption) ?_
  · rintro W ⟨s0, s1, s2, s3⟩; go_simp
  (try simp only [Act.put, q1, q2, q3, q4, q5, q6])
  refine tk 3 (.int .i64 (o.n)) rfl (by kernel_rfl) (fun _ _ _ h => h) (Or.inl ⟨by rfl, ?_⟩) (by assumption) ?_
  · rintro W ⟨s0, s1, s2, s3⟩; go_simp
  (try simp only [Act.put, q1, q2, q3, q4, q5, q6])
  refine tk 4 (.pointer (some ⟨br, 0, none⟩)) rfl (by kernel_rfl) (fun _ _ _ h => h) (Or.inl ⟨by rfl, ?_⟩) (by assumption) ?_
  · rintro W ⟨s0, s1, s2, s3⟩; go_simp
  (try simp only [Act.put, q1, q2, q3, q4, q5, q6])
  refine tk 5 (.pointer (some ⟨br, 0, none⟩)) rfl (by kernel_rfl) (fun _ _ _ h => h) (Or.inl ⟨by rfl, ?_⟩) (by assumption) ?_
  · rintro W ⟨s0, s1, s2, s3⟩; go_simp
  (try simp only [Act.put, q1, q2, q3, q4, q5, q6])
  refine tk 6 (.pointer (some ⟨br, 0, none⟩)) rfl (by kernel_rfl) (fun _ _ _ h => h) (Or.inl ⟨by rfl, ?_⟩) (by assumption) ?_
  · rintro W ⟨s0, s1, s2, s3⟩; go_simp
  (try simp only [Act.put, q1, q2, q3, q4, q5, q6])
  refine tk 7 (.int .i64 (64 * (kk : Int))) rfl (by kernel_rfl) (fun _ _ _ h => h) (Or.inl ⟨by rfl, ?_⟩) (by assumption) ?_
  · rintro W ⟨s0, s1, s2, s3⟩; go_simp
  (try simp only [Act.put, q1, q2, q3, q4, q5, q6])
  refine tk 8 (.int .i64 (64 * (kk : Int) - 1)) rfl (by kernel_rfl) (fun _ _ _ h => h) (Or.inl ⟨by rfl, ?_⟩) (by assumption) ?_
  · rintro W ⟨s0, s1, s2, s3⟩; go_simp
  (try simp only [Act.put, q1, q2, q3, q4, q5, q6])
  refine tk 9 (.int .i64 (min o.n (64 * (kk : Int) - 1))) rfl (by kernel_rfl) (fun _ _ _ h => h) (Or.inl ⟨by rfl, ?_⟩) (by assumption) ?_
  · rintro W ⟨s0, s1, s2, s3⟩; go_simp
  (try simp only [Act.put, q1, q2, q3, q4, q5, q6])
  refine tk 10 (.pointer (some ⟨xb, 5, none⟩)) rfl (by kernel_rfl) (fun _ _ _ h => h) (Or.inl ⟨by rfl, ?_⟩) (by assumption) ?_
  · rintro W ⟨s0, s1, s2, s3⟩; go_simp
  (try simp only [Act.put, q1, q2, q3, q4, q5, q6])
  refine tk 11 (.agg #[.int .u16 o.i, .int .u16 o.a]) rfl (by kernel_rfl) (fun _ _ _ h => h) (Or.inl ⟨by rfl, ?_⟩) (by assumption) ?_
  · rintro W ⟨s0, s1, s2, s3⟩; go_simp
  (try simp only [Act.put, q1, q2, q3, q4, q5, q6])
  refine wpAnyH_ready (rs := [12]) (by kernel_rfl) (by simp) (AllReadyH.cons rfl (fun K hK => ?_) AllReadyH.nil)
  go_simp
  go_at_call 31
  refine (HBB.out.refe (hm3.low (Below.refl _ _).drew) (hs3.below (Below.refl _ _).drew)).mono ?_
  rintro e w4 ⟨rfl, hm4, hs4, hd4⟩
  have hc4 := hc3.trans ((Chg.of_below (Below.refl _ _).drew).trans hd4)
  have hS4 : w4.cell? ⟨xb, 4, none⟩ = some (.int .i64 o.n) ∧ w4.cell? ⟨xb, 5, none⟩ = some (.int .u16 o.i) ∧ w4.cell? ⟨xb, 6, none⟩ = some (.int .u16 o.a) ∧ w4.cell? ⟨br, 0, none⟩ = some (.int .i64 (64 * (kk : Int))) := by
    obtain ⟨⟨z0, z1, z2, z3⟩, z4, z5, z6⟩ := HD.out.op _ _ hc4
    exact ⟨z4, z5, z6, hs4.n0⟩
  refine hK.out _ _ hS4 (fun hHeld => ?_)
  clear hK K hHeld hS3
  (try simp only [Act.put, q1, q2, q3, q4, q5, q6])
  refine tk 13 (.bool true) rfl (by kernel_rfl) (fun _ _ _ h => h) (Or.inl ⟨by rfl, ?_⟩) (by assumption) ?_
  · rintro W ⟨s0, s1, s2, s3⟩; go_simp
  (try simp only [Act.put, q1, q2, q3, q4, q5, q6])
  refine tk 14 (.bool true) rfl (by kernel_rfl) (fun _ _ _ h => h) (Or.inl ⟨by rfl, ?_⟩) (by assumption) ?_
  · rintro W ⟨s0, s1, s2, s3⟩; go_simp
  (try simp only [Act.put, q1, q2, q3, q4, q5, q6])
  refine wpAnyH_done (by kernel_rfl) ?_ _
  clear hS4
  rcases HOR.out with rfl | ⟨hne, rfl⟩
  · have HO := HO2.out
    clear HOR
    go_wp2_with (go_at_call 17; refine (hm4.keep HO hs4).mono ?_; rintro e w9 ⟨rfl, P9, X9, hsd9, hc9⟩)
    go_ret
    exact ⟨rfl, P9, X9, _, hsd9, (HD.out.ch.trans hc4).trans hc9⟩
  · have hnb : (E == 0) = false := by simpa using hne
    clear hne
    go_wp2_with (go_at_call 17; refine (hm4.undo hs4).mono ?_; rintro e w9 ⟨rfl, P9, X9, hsd9, hc9⟩)
    go_ret
    exact ⟨rfl, P9, X9, _, hsd9, (HD.out.ch.trans hc4).trans hc9⟩
end
end Go.Proofs.YtkbeencjklgcnaaGreat

/- The law's do: a call on both sides. -/
namespace Go.Proofs.YtkbeencjklgcnaaGreat
set_option maxRecDepth 100000
open Go.RowKit
set_option linter.unusedVariables false

section
variable {w0 w : World} {P M : Nat → Prop} {d : Value} {b br : Nat} {X : XSt} {O : List (Int × Int)} {kk : Nat}
set_option maxHeartbeats 4000000 in
theorem do_run (h : Side w0 w P M d (.pointer (some ⟨b, 0, none⟩)) (.pointer (some ⟨br, 0, none⟩)) X (64 * (kk : Int)) O kk) (o : O12) (ho : o.ok) (hk : o.k = 4) :
    Calls Tryz.prog 11 #[.pointer (some ⟨b, 0, none⟩), .pointer (some ⟨br, 0, none⟩), opV12 o.k o.b o.l o.g o.n o.i o.a] w (DoOut w0 w P M d (.pointer (some ⟨b, 0, none⟩)) (.pointer (some ⟨br, 0, none⟩)) kk) := by
  have h1 := h.ok.k1
  have h12 := h.ok.k12
  have hok := h.ok
  obtain ⟨q1, q2, q3, q4, q5, q6⟩ := ho
  obtain ⟨x, E, HB⟩ := run12 (l := min o.l (64 * (kk : Int))) (q := o.n) hok (by omega) q4.2
  have hO2 := hok
  have hd := doK h o
  obtain ⟨W1, hW1⟩ : ∃ W1, W1 = w.alloc (.cells #[.int .i64 o.k, .int .i64 o.b, .int .i64 o.l, .int .i64 o.g, .int .i64 o.n, .int .u16 o.i, .int .u16 o.a] 34) := ⟨_, rfl⟩
  rw [← hW1] at hd
  obtain ⟨xb, hxb⟩ : ∃ xb, xb = w.heap.size := ⟨_, rfl⟩
  rw [← hxb] at hd
  have HW1 := Lib.hid hW1.symm
  have HXB := Lib.hid hxb
  have HD := Lib.hid hd
  have hwr : IntKind.i64.wrap (64 * (kk : Int) - 1) = 64 * (kk : Int) - 1 := by rw [IntKind.wrap_i64]; omega
  have HBB := Lib.hid HB
  have HO2 := Lib.hid hO2
  clear HB hO2
  have HK := Lib.hid hk
  have KB := Lib.hid hd.sd.begin
  clear hW1 hxb hd h hok hk q1 q2 q3 q4 q5 q6
  unfold opV12
  go_enter Tryz.func11, Tryz.ntmps11
  go_upto_region 1 with (fail)
  rw [HW1.out, ← HXB.out]
  go_upto_region 19 with (first
    | (go_at_call 14; refine KB.out.mono ?_; rintro e w2 ⟨rfl, P2, hm2, hs2, hc2⟩; obtain ⟨⟨x0, _, _, _⟩, _, _, _⟩ := HD.out.op _ _ hc2; rw [HK.out] at x0))
  have hS2 : w2.drew.cell? ⟨xb, 2, none⟩ = some (.int .i64 o.l) ∧ w2.drew.cell? ⟨xb, 4, none⟩ = some (.int .i64 o.n) ∧ w2.drew.cell? ⟨br, 0, none⟩ = some (.int .i64 (64 * (kk : Int))) := by
    obtain ⟨⟨z0, z1, z2, z3⟩, z4, z5, z6⟩ := HD.out.op _ _ (hc2.trans (Chg.of_below (Below.refl _ _).drew))
    exact ⟨z2, z4, hs2.n0⟩
  refine wp_region_held_drew (S := fun W => W.cell? ⟨xb, 2, none⟩ = some (.int .i64 o.l) ∧ W.cell? ⟨xb, 4, none⟩ = some (.int .i64 o.n) ∧ W.cell? ⟨br, 0, none⟩ = some (.int .i64 (64 * (kk : Int)))) (by kernel_rfl) hS2 (fun hHeld => ?_)
  clear hHeld
  refine tk 0 (.pointer (some ⟨b, 0, none⟩)) rfl (by kernel_rfl) (fun _ _ _ h => h) (Or.inl ⟨by rfl, ?_⟩) (by assumption) ?_
  · rintro W ⟨s0, s1, s2⟩; go_simp
  (try simp only [Act.put, q1, q2, q3, q4, q5, q6])
  refine tk 1 (.pointer (some ⟨xb, 2, none⟩)) rfl (by kernel_rfl) (fun _ _ _ h => h) (Or.inl ⟨by rfl, ?_⟩) (by assumption) ?_
  · rintro W ⟨s0, s1, s2⟩; go_simp
  (try simp only [Act.put, q1, q2, q3, q4, q5, q6])
  refine tk 2 (.int .i64 (o.l)) rfl (by kernel_rfl) (fun _ _ _ h => h) (Or.inl ⟨by rfl, ?_⟩) (by assumption) ?_
  · rintro W ⟨s0, s1, s2⟩; go_simp
  (try simp only [Act.put, q1, q2, q3, q4, q5, q6])
  refine tk 3 (.pointer (some ⟨br, 0, none⟩)) rfl (by kernel_rfl) (fun _ _ _ h => h) (Or.inl ⟨by rfl, ?_⟩) (by assumption) ?_
  · rintro W ⟨s0, s1, s2⟩; go_simp
  (try simp only [Act.put, q1, q2, q3, q4, q5, q6])
  refine tk 4 (.pointer (some ⟨br, 0, none⟩)) rfl (by kernel_rfl) (fun _ _ _ h => h) (Or.inl ⟨by rfl, ?_⟩) (by assumption) ?_
  · rintro W ⟨s0, s1, s2⟩; go_simp
  (try simp only [Act.put, q1, q2, q3, q4, q5, q6])
  refine tk 5 (.pointer (some ⟨br, 0, none⟩)) rfl (by kernel_rfl) (fun _ _ _ h => h) (Or.inl ⟨by rfl, ?_⟩) (by assumption) ?_
  · rintro W ⟨s0, s1, s2⟩; go_simp
  (try simp only [Act.put, q1, q2, q3, q4, q5, q6])
  refine tk 6 (.int .i64 (64 * (kk : Int))) rfl (by kernel_rfl) (fun _ _ _ h => h) (Or.inl ⟨by rfl, ?_⟩) (by assumption) ?_
  · rintro W ⟨s0, s1, s2⟩; go_simp
  (try simp only [Act.put, q1, q2, q3, q4, q5, q6])
  refine tk 7 (.int .i64 (min o.l (64 * (kk : Int)))) rfl (by kernel_rfl) (fun _ _ _ h => h) (Or.inl ⟨by rfl, ?_⟩) (by assumption) ?_
  · rintro W ⟨s0, s1, s2⟩; go_simp
  (try simp only [Act.put, q1, q2, q3, q4, q5, q6])
  refine tk 8 (.pointer (some ⟨xb, 4, none⟩)) rfl (by kernel_rfl) (fun _ _ _ h => h) (Or.inl ⟨by rfl, ?_⟩) (by assumption) ?_
  · rintro W ⟨s0, s1, s2⟩; go_simp
  (try simp only [Act.put, q1, q2, q3, q4, q5, q6])
  refine tk 9 (.int .i64 (o.n)) rfl (by kernel_rfl) (fun _ _ _ h => h) (Or.inl ⟨by rfl, ?_⟩) (by assumption) ?_
  · rintro W ⟨s0, s1, s2⟩; go_simp
  (try simp only [Act.put, q1, q2, q3, q4, q5, q6])
  refine wpAnyH_ready (rs := [10]) (by kernel_rfl) (by simp) (AllReadyH.cons rfl (fun K hK => ?_) AllReadyH.nil)
  go_simp
  go_at_call 21
  refine (HBB.out.land (hm2.low (Below.refl _ _).drew) (hs2.below (Below.refl _ _).drew)).mono ?_
  rintro e w3 ⟨rfl, P3, X3, hm3, hs3, hd3⟩
  have hc3 := hc2.trans ((Chg.of_below (Below.refl _ _).drew).trans hd3)
  have hS3 : w3.cell? ⟨xb, 2, none⟩ = some (.int .i64 o.l) ∧ w3.cell? ⟨xb, 4, none⟩ = some (.int .i64 o.n) ∧ w3.cell? ⟨br, 0, none⟩ = some (.int .i64 (64 * (kk : Int))) := by
    obtain ⟨⟨z0, z1, z2, z3⟩, z4, z5, z6⟩ := HD.out.op _ _ hc3
    exact ⟨z2, z4, hs3.n0⟩
  refine hK.out _ _ hS3 (fun hHeld => ?_)
  clear hK K hHeld hS2
  (try simp only [Act.put, q1, q2, q3, q4, q5, q6])
  refine tk 11 (.tuple #[.int .i64 x, .int .i64 E]) rfl (by kernel_rfl) (fun _ _ _ h => h) (Or.inl ⟨by rfl, ?_⟩) (by assumption) ?_
  · rintro W ⟨s0, s1, s2⟩; go_simp
  (try simp only [Act.put, q1, q2, q3, q4, q5, q6])
  refine tk 12 (.int .i64 (x)) rfl (by kernel_rfl) (fun _ _ _ h => h) (Or.inl ⟨by rfl, ?_⟩) (by assumption) ?_
  · rintro W ⟨s0, s1, s2⟩; go_simp
  (try simp only [Act.put, q1, q2, q3, q4, q5, q6])
  refine tk 13 (.int .i64 (E)) rfl (by kernel_rfl) (fun _ _ _ h => h) (Or.inl ⟨by rfl, ?_⟩) (by assumption) ?_
  · rintro W ⟨s0, s1, s2⟩; go_simp
  (try simp only [Act.put, q1, q2, q3, q4, q5, q6])
  refine tk 14 (.int .i64 (x)) rfl (by kernel_rfl) (fun _ _ _ h => h) (Or.inl ⟨by rfl, ?_⟩) (by assumption) ?_
  · rintro W ⟨s0, s1, s2⟩; go_simp
  (try simp only [Act.put, q1, q2, q3, q4, q5, q6])
  refine tk 15 (.int .i64 (E)) rfl (by kernel_rfl) (fun _ _ _ h => h) (Or.inl ⟨by rfl, ?_⟩) (by assumption) ?_
  · rintro W ⟨s0, s1, s2⟩; go_simp
  (try simp only [Act.put, q1, q2, q3, q4, q5, q6])
  refine wpAnyH_done (by kernel_rfl) ?_ _
  clear hS3
  go_upto_region 20 with (fail)
  have hS3 : w3.drew.cell? ⟨xb, 2, none⟩ = some (.int .i64 o.l) ∧ w3.drew.cell? ⟨xb, 4, none⟩ = some (.int .i64 o.n) ∧ w3.drew.cell? ⟨br, 0, none⟩ = some (.int .i64 (64 * (kk : Int))) := by
    obtain ⟨⟨z0, z1, z2, z3⟩, z4, z5, z6⟩ := HD.out.op _ _ (hc3.trans (Chg.of_below (Below.refl _ _).drew))
    exact ⟨z2, z4, hs3.n0⟩
  refine wp_region_held_drew (S := fun W => W.cell? ⟨xb, 2, none⟩ = some (.int .i64 o.l) ∧ W.cell? ⟨xb, 4, none⟩ = some (.int .i64 o.n) ∧ W.cell? ⟨br, 0, none⟩ = some (.int .i64 (64 * (kk : Int)))) (by kernel_rfl) hS3 (fun hHeld => ?_)
  clear hHeld
  refine tk 0 (.pointer (some ⟨br, 0, none⟩)) rfl (by kernel_rfl) (fun _ _ _ h => h) (Or.inl ⟨by rfl, ?_⟩) (by assumption) ?_
  · rintro W ⟨s0, s1, s2⟩; go_simp
  (try simp only [Act.put, q1, q2, q3, q4, q5, q6])
  refine tk 1 (.pointer (some ⟨xb, 2, none⟩)) rfl (by kernel_rfl) (fun _ _ _ h => h) (Or.inl ⟨by rfl, ?_⟩) (by assumption) ?_
  · rintro W ⟨s0, s1, s2⟩; go_simp
  (try simp only [Act.put, q1, q2, q3, q4, q5, q6])
  refine tk 2 (.int .i64 (o.l)) rfl (by kernel_rfl) (fun _ _ _ h => h) (Or.inl ⟨by rfl, ?_⟩) (by assumption) ?_
  · rintro W ⟨s0, s1, s2⟩; go_simp
  (try simp only [Act.put, q1, q2, q3, q4, q5, q6])
  refine tk 3 (.pointer (some ⟨br, 0, none⟩)) rfl (by kernel_rfl) (fun _ _ _ h => h) (Or.inl ⟨by rfl, ?_⟩) (by assumption) ?_
  · rintro W ⟨s0, s1, s2⟩; go_simp
  (try simp only [Act.put, q1, q2, q3, q4, q5, q6])
  refine tk 4 (.pointer (some ⟨br, 0, none⟩)) rfl (by kernel_rfl) (fun _ _ _ h => h) (Or.inl ⟨by rfl, ?_⟩) (by assumption) ?_
  · rintro W ⟨s0, s1, s2⟩; go_simp
  (try simp only [Act.put, q1, q2, q3, q4, q5, q6])
  refine tk 5 (.pointer (some ⟨br, 0, none⟩)) rfl (by kernel_rfl) (fun _ _ _ h => h) (Or.inl ⟨by rfl, ?_⟩) (by assumption) ?_
  · rintro W ⟨s0, s1, s2⟩; go_simp
  (try simp only [Act.put, q1, q2, q3, q4, q5, q6])
  refine tk 6 (.int .i64 (64 * (kk : Int))) rfl (by kernel_rfl) (fun _ _ _ h => h) (Or.inl ⟨by rfl, ?_⟩) (by assumption) ?_
  · rintro W ⟨s0, s1, s2⟩; go_simp
  (try simp only [Act.put, q1, q2, q3, q4, q5, q6])
  refine tk 7 (.int .i64 (min o.l (64 * (kk : Int)))) rfl (by kernel_rfl) (fun _ _ _ h => h) (Or.inl ⟨by rfl, ?_⟩) (by assumption) ?_
  · rintro W ⟨s0, s1, s2⟩; go_simp
  (try simp only [Act.put, q1, q2, q3, q4, q5, q6])
  refine tk 8 (.pointer (some ⟨xb, 4, none⟩)) rfl (by kernel_rfl) (fun _ _ _ h => h) (Or.inl ⟨by rfl, ?_⟩) (by assumption) ?_
  · rintro W ⟨s0, s1, s2⟩; go_simp
  (try simp only [Act.put, q1, q2, q3, q4, q5, q6])
  refine tk 9 (.int .i64 (o.n)) rfl (by kernel_rfl) (fun _ _ _ h => h) (Or.inl ⟨by rfl, ?_⟩) (by assumption) ?_
  · rintro W ⟨s0, s1, s2⟩; go_simp
  (try simp only [Act.put, q1, q2, q3, q4, q5, q6])
  refine wpAnyH_ready (rs := [10]) (by kernel_rfl) (by simp) (AllReadyH.cons rfl (fun K hK => ?_) AllReadyH.nil)
  go_simp
  go_at_call 32
  refine (HBB.out.refe (hm3.low (Below.refl _ _).drew) (hs3.below (Below.refl _ _).drew)).mono ?_
  rintro e w4 ⟨rfl, hm4, hs4, hd4⟩
  have hc4 := hc3.trans ((Chg.of_below (Below.refl _ _).drew).trans hd4)
  have hS4 : w4.cell? ⟨xb, 2, none⟩ = some (.int .i64 o.l) ∧ w4.cell? ⟨xb, 4, none⟩ = some (.int .i64 o.n) ∧ w4.cell? ⟨br, 0, none⟩ = some (.int .i64 (64 * (kk : Int))) := by
    obtain ⟨⟨z0, z1, z2, z3⟩, z4, z5, z6⟩ := HD.out.op _ _ hc4
    exact ⟨z2, z4, hs4.n0⟩
  refine hK.out _ _ hS4 (fun hHeld => ?_)
  clear hK K hHeld hS3
  (try simp only [Act.put, q1, q2, q3, q4, q5, q6])
  refine tk 11 (.tuple #[.int .i64 x, .int .i64 E]) rfl (by kernel_rfl) (fun _ _ _ h => h) (Or.inl ⟨by rfl, ?_⟩) (by assumption) ?_
  · rintro W ⟨s0, s1, s2⟩; go_simp
  (try simp only [Act.put, q1, q2, q3, q4, q5, q6])
  refine tk 12 (.int .i64 (x)) rfl (by kernel_rfl) (fun _ _ _ h => h) (Or.inl ⟨by rfl, ?_⟩) (by assumption) ?_
  · rintro W ⟨s0, s1, s2⟩; go_simp
  (try simp only [Act.put, q1, q2, q3, q4, q5, q6])
  refine tk 13 (.int .i64 (E)) rfl (by kernel_rfl) (fun _ _ _ h => h) (Or.inl ⟨by rfl, ?_⟩) (by assumption) ?_
  · rintro W ⟨s0, s1, s2⟩; go_simp
  (try simp only [Act.put, q1, q2, q3, q4, q5, q6])
  refine tk 14 (.int .i64 (x)) rfl (by kernel_rfl) (fun _ _ _ h => h) (Or.inl ⟨by rfl, ?_⟩) (by assumption) ?_
  · rintro W ⟨s0, s1, s2⟩; go_simp
  (try simp only [Act.put, q1, q2, q3, q4, q5, q6])
  refine tk 15 (.int .i64 (E)) rfl (by kernel_rfl) (fun _ _ _ h => h) (Or.inl ⟨by rfl, ?_⟩) (by assumption) ?_
  · rintro W ⟨s0, s1, s2⟩; go_simp
  (try simp only [Act.put, q1, q2, q3, q4, q5, q6])
  refine wpAnyH_done (by kernel_rfl) ?_ _
  clear hS4
  have HO := HO2.out
  go_wp2_with (go_at_call 17; refine (hm4.keep HO hs4).mono ?_; rintro e w9 ⟨rfl, P9, X9, hsd9, hc9⟩)
  go_ret
  exact ⟨rfl, P9, X9, _, hsd9, (HD.out.ch.trans hc4).trans hc9⟩
end
end Go.Proofs.YtkbeencjklgcnaaGreat

/- The law's do: a call on both sides. -/
namespace Go.Proofs.YtkbeencjklgcnaaGreat
set_option maxRecDepth 100000
open Go.RowKit
set_option linter.unusedVariables false

section
variable {w0 w : World} {P M : Nat → Prop} {d : Value} {b br : Nat} {X : XSt} {O : List (Int × Int)} {kk : Nat}
set_option maxHeartbeats 4000000 in
theorem do_used (h : Side w0 w P M d (.pointer (some ⟨b, 0, none⟩)) (.pointer (some ⟨br, 0, none⟩)) X (64 * (kk : Int)) O kk) (o : O12) (ho : o.ok) (hk : o.k = 6) :
    Calls Tryz.prog 11 #[.pointer (some ⟨b, 0, none⟩), .pointer (some ⟨br, 0, none⟩), opV12 o.k o.b o.l o.g o.n o.i o.a] w (DoOut w0 w P M d (.pointer (some ⟨b, 0, none⟩)) (.pointer (some ⟨br, 0, none⟩)) kk) := by
  have h1 := h.ok.k1
  have h12 := h.ok.k12
  have hok := h.ok
  obtain ⟨q1, q2, q3, q4, q5, q6⟩ := ho
  obtain ⟨x, E, HB⟩ := used12 (l := min o.b (64 * (kk : Int))) hok (by omega)
  have hO2 := hok
  have hd := doK h o
  obtain ⟨W1, hW1⟩ : ∃ W1, W1 = w.alloc (.cells #[.int .i64 o.k, .int .i64 o.b, .int .i64 o.l, .int .i64 o.g, .int .i64 o.n, .int .u16 o.i, .int .u16 o.a] 34) := ⟨_, rfl⟩
  rw [← hW1] at hd
  obtain ⟨xb, hxb⟩ : ∃ xb, xb = w.heap.size := ⟨_, rfl⟩
  rw [← hxb] at hd
  have HW1 := Lib.hid hW1.symm
  have HXB := Lib.hid hxb
  have HD := Lib.hid hd
  have hwr : IntKind.i64.wrap (64 * (kk : Int) - 1) = 64 * (kk : Int) - 1 := by rw [IntKind.wrap_i64]; omega
  have HBB := Lib.hid HB
  have HO2 := Lib.hid hO2
  clear HB hO2
  have HK := Lib.hid hk
  have KB := Lib.hid hd.sd.begin
  clear hW1 hxb hd h hok hk q1 q2 q3 q4 q5 q6
  unfold opV12
  go_enter Tryz.func11, Tryz.ntmps11
  go_upto_region 1 with (fail)
  rw [HW1.out, ← HXB.out]
  go_upto_region 29 with (first
    | (go_at_call 14; refine KB.out.mono ?_; rintro e w2 ⟨rfl, P2, hm2, hs2, hc2⟩; obtain ⟨⟨x0, _, _, _⟩, _, _, _⟩ := HD.out.op _ _ hc2; rw [HK.out] at x0))
  have hS2 : w2.drew.cell? ⟨xb, 1, none⟩ = some (.int .i64 o.b) ∧ w2.drew.cell? ⟨br, 0, none⟩ = some (.int .i64 (64 * (kk : Int))) := by
    obtain ⟨⟨z0, z1, z2, z3⟩, z4, z5, z6⟩ := HD.out.op _ _ (hc2.trans (Chg.of_below (Below.refl _ _).drew))
    exact ⟨z1, hs2.n0⟩
  refine wp_region_held_drew (S := fun W => W.cell? ⟨xb, 1, none⟩ = some (.int .i64 o.b) ∧ W.cell? ⟨br, 0, none⟩ = some (.int .i64 (64 * (kk : Int)))) (by kernel_rfl) hS2 (fun hHeld => ?_)
  clear hHeld
  refine tk 0 (.pointer (some ⟨b, 0, none⟩)) rfl (by kernel_rfl) (fun _ _ _ h => h) (Or.inl ⟨by rfl, ?_⟩) (by assumption) ?_
  · rintro W ⟨s0, s1⟩; go_simp
  (try simp only [Act.put, q1, q2, q3, q4, q5, q6])
  refine tk 1 (.pointer (some ⟨xb, 1, none⟩)) rfl (by kernel_rfl) (fun _ _ _ h => h) (Or.inl ⟨by rfl, ?_⟩) (by assumption) ?_
  · rintro W ⟨s0, s1⟩; go_simp
  (try simp only [Act.put, q1, q2, q3, q4, q5, q6])
  refine tk 2 (.int .i64 (o.b)) rfl (by kernel_rfl) (fun _ _ _ h => h) (Or.inl ⟨by rfl, ?_⟩) (by assumption) ?_
  · rintro W ⟨s0, s1⟩; go_simp
  (try simp only [Act.put, q1, q2, q3, q4, q5, q6])
  refine tk 3 (.pointer (some ⟨br, 0, none⟩)) rfl (by kernel_rfl) (fun _ _ _ h => h) (Or.inl ⟨by rfl, ?_⟩) (by assumption) ?_
  · rintro W ⟨s0, s1⟩; go_simp
  (try simp only [Act.put, q1, q2, q3, q4, q5, q6])
  refine tk 4 (.pointer (some ⟨br, 0, none⟩)) rfl (by kernel_rfl) (fun _ _ _ h => h) (Or.inl ⟨by rfl, ?_⟩) (by assumption) ?_
  · rintro W ⟨s0, s1⟩; go_simp
  (try simp only [Act.put, q1, q2, q3, q4, q5, q6])
  refine tk 5 (.pointer (some ⟨br, 0, none⟩)) rfl (by kernel_rfl) (fun _ _ _ h => h) (Or.inl ⟨by rfl, ?_⟩) (by assumption) ?_
  · rintro W ⟨s0, s1⟩; go_simp
  (try simp only [Act.put, q1, q2, q3, q4, q5, q6])
  refine tk 6 (.int .i64 (64 * (kk : Int))) rfl (by kernel_rfl) (fun _ _ _ h => h) (Or.inl ⟨by rfl, ?_⟩) (by assumption) ?_
  · rintro W ⟨s0, s1⟩; go_simp
  (try simp only [Act.put, q1, q2, q3, q4, q5, q6])
  refine tk 7 (.int .i64 (min o.b (64 * (kk : Int)))) rfl (by kernel_rfl) (fun _ _ _ h => h) (Or.inl ⟨by rfl, ?_⟩) (by assumption) ?_
  · rintro W ⟨s0, s1⟩; go_simp
  (try simp only [Act.put, q1, q2, q3, q4, q5, q6])
  refine wpAnyH_ready (rs := [8]) (by kernel_rfl) (by simp) (AllReadyH.cons rfl (fun K hK => ?_) AllReadyH.nil)
  go_simp
  go_at_call 18
  refine (HBB.out.land (hm2.low (Below.refl _ _).drew) (hs2.below (Below.refl _ _).drew)).mono ?_
  rintro e w3 ⟨rfl, P3, X3, hm3, hs3, hd3⟩
  have hc3 := hc2.trans ((Chg.of_below (Below.refl _ _).drew).trans hd3)
  have hS3 : w3.cell? ⟨xb, 1, none⟩ = some (.int .i64 o.b) ∧ w3.cell? ⟨br, 0, none⟩ = some (.int .i64 (64 * (kk : Int))) := by
    obtain ⟨⟨z0, z1, z2, z3⟩, z4, z5, z6⟩ := HD.out.op _ _ hc3
    exact ⟨z1, hs3.n0⟩
  refine hK.out _ _ hS3 (fun hHeld => ?_)
  clear hK K hHeld hS2
  (try simp only [Act.put, q1, q2, q3, q4, q5, q6])
  refine tk 9 (.tuple #[.int .i64 x, .int .i64 E]) rfl (by kernel_rfl) (fun _ _ _ h => h) (Or.inl ⟨by rfl, ?_⟩) (by assumption) ?_
  · rintro W ⟨s0, s1⟩; go_simp
  (try simp only [Act.put, q1, q2, q3, q4, q5, q6])
  refine tk 10 (.int .i64 (x)) rfl (by kernel_rfl) (fun _ _ _ h => h) (Or.inl ⟨by rfl, ?_⟩) (by assumption) ?_
  · rintro W ⟨s0, s1⟩; go_simp
  (try simp only [Act.put, q1, q2, q3, q4, q5, q6])
  refine tk 11 (.int .i64 (E)) rfl (by kernel_rfl) (fun _ _ _ h => h) (Or.inl ⟨by rfl, ?_⟩) (by assumption) ?_
  · rintro W ⟨s0, s1⟩; go_simp
  (try simp only [Act.put, q1, q2, q3, q4, q5, q6])
  refine tk 12 (.int .i64 (x)) rfl (by kernel_rfl) (fun _ _ _ h => h) (Or.inl ⟨by rfl, ?_⟩) (by assumption) ?_
  · rintro W ⟨s0, s1⟩; go_simp
  (try simp only [Act.put, q1, q2, q3, q4, q5, q6])
  refine tk 13 (.int .i64 (E)) rfl (by kernel_rfl) (fun _ _ _ h => h) (Or.inl ⟨by rfl, ?_⟩) (by assumption) ?_
  · rintro W ⟨s0, s1⟩; go_simp
  (try simp only [Act.put, q1, q2, q3, q4, q5, q6])
  refine wpAnyH_done (by kernel_rfl) ?_ _
  clear hS3
  go_upto_region 30 with (fail)
  have hS3 : w3.drew.cell? ⟨xb, 1, none⟩ = some (.int .i64 o.b) ∧ w3.drew.cell? ⟨br, 0, none⟩ = some (.int .i64 (64 * (kk : Int))) := by
    obtain ⟨⟨z0, z1, z2, z3⟩, z4, z5, z6⟩ := HD.out.op _ _ (hc3.trans (Chg.of_below (Below.refl _ _).drew))
    exact ⟨z1, hs3.n0⟩
  refine wp_region_held_drew (S := fun W => W.cell? ⟨xb, 1, none⟩ = some (.int .i64 o.b) ∧ W.cell? ⟨br, 0, none⟩ = some (.int .i64 (64 * (kk : Int)))) (by kernel_rfl) hS3 (fun hHeld => ?_)
  clear hHeld
  refine tk 0 (.pointer (some ⟨br, 0, none⟩)) rfl (by kernel_rfl) (fun _ _ _ h => h) (Or.inl ⟨by rfl, ?_⟩) (by assumption) ?_
  · rintro W ⟨s0, s1⟩; go_simp
  (try simp only [Act.put, q1, q2, q3, q4, q5, q6])
  refine tk 1 (.pointer (some ⟨xb, 1, none⟩)) rfl (by kernel_rfl) (fun _ _ _ h => h) (Or.inl ⟨by rfl, ?_⟩) (by assumption) ?_
  · rintro W ⟨s0, s1⟩; go_simp
  (try simp only [Act.put, q1, q2, q3, q4, q5, q6])
  refine tk 2 (.int .i64 (o.b)) rfl (by kernel_rfl) (fun _ _ _ h => h) (Or.inl ⟨by rfl, ?_⟩) (by assumption) ?_
  · rintro W ⟨s0, s1⟩; go_simp
  (try simp only [Act.put, q1, q2, q3, q4, q5, q6])
  refine tk 3 (.pointer (some ⟨br, 0, none⟩)) rfl (by kernel_rfl) (fun _ _ _ h => h) (Or.inl ⟨by rfl, ?_⟩) (by assumption) ?_
  · rintro W ⟨s0, s1⟩; go_simp
  (try simp only [Act.put, q1, q2, q3, q4, q5, q6])
  refine tk 4 (.pointer (some ⟨br, 0, none⟩)) rfl (by kernel_rfl) (fun _ _ _ h => h) (Or.inl ⟨by rfl, ?_⟩) (by assumption) ?_
  · rintro W ⟨s0, s1⟩; go_simp
  (try simp only [Act.put, q1, q2, q3, q4, q5, q6])
  refine tk 5 (.pointer (some ⟨br, 0, none⟩)) rfl (by kernel_rfl) (fun _ _ _ h => h) (Or.inl ⟨by rfl, ?_⟩) (by assumption) ?_
  · rintro W ⟨s0, s1⟩; go_simp
  (try simp only [Act.put, q1, q2, q3, q4, q5, q6])
  refine tk 6 (.int .i64 (64 * (kk : Int))) rfl (by kernel_rfl) (fun _ _ _ h => h) (Or.inl ⟨by rfl, ?_⟩) (by assumption) ?_
  · rintro W ⟨s0, s1⟩; go_simp
  (try simp only [Act.put, q1, q2, q3, q4, q5, q6])
  refine tk 7 (.int .i64 (min o.b (64 * (kk : Int)))) rfl (by kernel_rfl) (fun _ _ _ h => h) (Or.inl ⟨by rfl, ?_⟩) (by assumption) ?_
  · rintro W ⟨s0, s1⟩; go_simp
  (try simp only [Act.put, q1, q2, q3, q4, q5, q6])
  refine wpAnyH_ready (rs := [8]) (by kernel_rfl) (by simp) (AllReadyH.cons rfl (fun K hK => ?_) AllReadyH.nil)
  go_simp
  go_at_call 19
  refine (HBB.out.refe (hm3.low (Below.refl _ _).drew) (hs3.below (Below.refl _ _).drew)).mono ?_
  rintro e w4 ⟨rfl, hm4, hs4, hd4⟩
  have hc4 := hc3.trans ((Chg.of_below (Below.refl _ _).drew).trans hd4)
  have hS4 : w4.cell? ⟨xb, 1, none⟩ = some (.int .i64 o.b) ∧ w4.cell? ⟨br, 0, none⟩ = some (.int .i64 (64 * (kk : Int))) := by
    obtain ⟨⟨z0, z1, z2, z3⟩, z4, z5, z6⟩ := HD.out.op _ _ hc4
    exact ⟨z1, hs4.n0⟩
  refine hK.out _ _ hS4 (fun hHeld => ?_)
  clear hK K hHeld hS3
  (try simp only [Act.put, q1, q2, q3, q4, q5, q6])
  refine tk 9 (.tuple #[.int .i64 x, .int .i64 E]) rfl (by kernel_rfl) (fun _ _ _ h => h) (Or.inl ⟨by rfl, ?_⟩) (by assumption) ?_
  · rintro W ⟨s0, s1⟩; go_simp
  (try simp only [Act.put, q1, q2, q3, q4, q5, q6])
  refine tk 10 (.int .i64 (x)) rfl (by kernel_rfl) (fun _ _ _ h => h) (Or.inl ⟨by rfl, ?_⟩) (by assumption) ?_
  · rintro W ⟨s0, s1⟩; go_simp
  (try simp only [Act.put, q1, q2, q3, q4, q5, q6])
  refine tk 11 (.int .i64 (E)) rfl (by kernel_rfl) (fun _ _ _ h => h) (Or.inl ⟨by rfl, ?_⟩) (by assumption) ?_
  · rintro W ⟨s0, s1⟩; go_simp
  (try simp only [Act.put, q1, q2, q3, q4, q5, q6])
  refine tk 12 (.int .i64 (x)) rfl (by kernel_rfl) (fun _ _ _ h => h) (Or.inl ⟨by rfl, ?_⟩) (by assumption) ?_
  · rintro W ⟨s0, s1⟩; go_simp
  (try simp only [Act.put, q1, q2, q3, q4, q5, q6])
  refine tk 13 (.int .i64 (E)) rfl (by kernel_rfl) (fun _ _ _ h => h) (Or.inl ⟨by rfl, ?_⟩) (by assumption) ?_
  · rintro W ⟨s0, s1⟩; go_simp
  (try simp only [Act.put, q1, q2, q3, q4, q5, q6])
  refine wpAnyH_done (by kernel_rfl) ?_ _
  clear hS4
  have HO := HO2.out
  go_wp2_with (go_at_call 17; refine (hm4.keep HO hs4).mono ?_; rintro e w9 ⟨rfl, P9, X9, hsd9, hc9⟩)
  go_ret
  exact ⟨rfl, P9, X9, _, hsd9, (HD.out.ch.trans hc4).trans hc9⟩
end
end Go.Proofs.YtkbeencjklgcnaaGreat

/- The law's do: a call on both sides. -/
namespace Go.Proofs.YtkbeencjklgcnaaGreat
set_option maxRecDepth 100000
open Go.RowKit
set_option linter.unusedVariables false

section
variable {w0 w : World} {P M : Nat → Prop} {d : Value} {b br : Nat} {X : XSt} {O : List (Int × Int)} {kk : Nat}
set_option maxHeartbeats 4000000 in
theorem do_find_no (h : Side w0 w P M d (.pointer (some ⟨b, 0, none⟩)) (.pointer (some ⟨br, 0, none⟩)) X (64 * (kk : Int)) O kk) (o : O12) (ho : o.ok) (hk : o.k = 5) (hf : frmB (min o.l (64 * (kk : Int))) = false) :
    Calls Tryz.prog 11 #[.pointer (some ⟨b, 0, none⟩), .pointer (some ⟨br, 0, none⟩), opV12 o.k o.b o.l o.g o.n o.i o.a] w (DoOut w0 w P M d (.pointer (some ⟨b, 0, none⟩)) (.pointer (some ⟨br, 0, none⟩)) kk) := by
  have h1 := h.ok.k1
  have h12 := h.ok.k12
  have hok := h.ok
  obtain ⟨q1, q2, q3, q4, q5, q6⟩ := ho
  obtain ⟨mn, hmn⟩ : ∃ mn, mn = min o.l (64 * (kk : Int)) := ⟨_, rfl⟩
  rw [← hmn] at hf
  have hmn' : min o.l (64 * (kk : Int)) = mn := hmn.symm
  have KF := Lib.hid (find12_no (g := o.g) hok (show mn ≤ 64 * (kk : Int) by omega) hf)
  have hfr := frm_no hf
  have hor : mn < 64 ∨ (64 ≤ mn ∧ mn.tmod 64 ≠ 0) := by
    by_cases h : mn < 64
    · exact .inl h
    · refine .inr ⟨by omega, ?_⟩
      rw [Int.tmod_eq_emod_of_nonneg (by omega)]; omega
  have hO2 := hok
  have hd := doK h o
  obtain ⟨W1, hW1⟩ : ∃ W1, W1 = w.alloc (.cells #[.int .i64 o.k, .int .i64 o.b, .int .i64 o.l, .int .i64 o.g, .int .i64 o.n, .int .u16 o.i, .int .u16 o.a] 34) := ⟨_, rfl⟩
  rw [← hW1] at hd
  obtain ⟨xb, hxb⟩ : ∃ xb, xb = w.heap.size := ⟨_, rfl⟩
  rw [← hxb] at hd
  have HW1 := Lib.hid hW1.symm
  have HXB := Lib.hid hxb
  have HD := Lib.hid hd
  have hwr : IntKind.i64.wrap (64 * (kk : Int) - 1) = 64 * (kk : Int) - 1 := by rw [IntKind.wrap_i64]; omega
  have HOR := Lib.hid hor
  clear hor hf hfr hmn
  have HO2 := Lib.hid hO2
  clear hO2
  have HK := Lib.hid hk
  have KB := Lib.hid hd.sd.begin
  clear hW1 hxb hd h hok hk q1 q2 q3 q4 q5 q6
  unfold opV12
  go_enter Tryz.func11, Tryz.ntmps11
  go_upto_region 1 with (fail)
  rw [HW1.out, ← HXB.out]
  go_upto_region 23 with (first
    | (go_at_call 14; refine KB.out.mono ?_; rintro e w2 ⟨rfl, P2, hm2, hs2, hc2⟩; obtain ⟨⟨x0, _, _, _⟩, _, _, _⟩ := HD.out.op _ _ hc2; rw [HK.out] at x0))
  have hS2 : w2.drew.cell? ⟨xb, 2, none⟩ = some (.int .i64 o.l) ∧ w2.drew.cell? ⟨br, 0, none⟩ = some (.int .i64 (64 * (kk : Int))) := by
    obtain ⟨⟨z0, z1, z2, z3⟩, z4, z5, z6⟩ := HD.out.op _ _ (hc2.trans (Chg.of_below (Below.refl _ _).drew))
    exact ⟨z2, hs2.n0⟩
  refine wp_region_held_drew (S := fun W => W.cell? ⟨xb, 2, none⟩ = some (.int .i64 o.l) ∧ W.cell? ⟨br, 0, none⟩ = some (.int .i64 (64 * (kk : Int)))) (by kernel_rfl) hS2 (fun hHeld => ?_)
  clear hHeld
  refine tk 0 (.pointer (some ⟨xb, 2, none⟩)) rfl (by kernel_rfl) (fun _ _ _ h => h) (Or.inl ⟨by rfl, ?_⟩) (by assumption) ?_
  · rintro W ⟨s0, s1⟩; go_simp
  (try simp only [Act.put, q1, q2, q3, q4, q5, q6])
  refine tk 1 (.int .i64 (o.l)) rfl (by kernel_rfl) (fun _ _ _ h => h) (Or.inl ⟨by rfl, ?_⟩) (by assumption) ?_
  · rintro W ⟨s0, s1⟩; go_simp
  (try simp only [Act.put, q1, q2, q3, q4, q5, q6])
  refine tk 2 (.pointer (some ⟨br, 0, none⟩)) rfl (by kernel_rfl) (fun _ _ _ h => h) (Or.inl ⟨by rfl, ?_⟩) (by assumption) ?_
  · rintro W ⟨s0, s1⟩; go_simp
  (try simp only [Act.put, q1, q2, q3, q4, q5, q6])
  refine tk 3 (.pointer (some ⟨br, 0, none⟩)) rfl (by kernel_rfl) (fun _ _ _ h => h) (Or.inl ⟨by rfl, ?_⟩) (by assumption) ?_
  · rintro W ⟨s0, s1⟩; go_simp
  (try simp only [Act.put, q1, q2, q3, q4, q5, q6])
  refine tk 4 (.pointer (some ⟨br, 0, none⟩)) rfl (by kernel_rfl) (fun _ _ _ h => h) (Or.inl ⟨by rfl, ?_⟩) (by assumption) ?_
  · rintro W ⟨s0, s1⟩; go_simp
  (try simp only [Act.put, q1, q2, q3, q4, q5, q6])
  refine tk 5 (.int .i64 (64 * (kk : Int))) rfl (by kernel_rfl) (fun _ _ _ h => h) (Or.inl ⟨by rfl, ?_⟩) (by assumption) ?_
  · rintro W ⟨s0, s1⟩; go_simp
  (try simp only [Act.put, q1, q2, q3, q4, q5, q6])
  refine tk 6 (.int .i64 (mn)) rfl (by kernel_rfl) (fun _ _ _ h => h) (Or.inl ⟨by rfl, ?_⟩) (by assumption) ?_
  · rintro W ⟨s0, s1⟩; go_simp
  (try simp only [Act.put, q1, q2, q3, q4, q5, q6])
  refine tk 7 (.int .i64 (mn)) rfl (by kernel_rfl) (fun _ _ _ h => h) (Or.inl ⟨by rfl, ?_⟩) (by assumption) ?_
  · rintro W ⟨s0, s1⟩; go_simp
  (try simp only [Act.put, q1, q2, q3, q4, q5, q6])
  refine wpAnyH_done (by kernel_rfl) ?_ _
  clear hS2
  have hd2 : Below w2.heap.size w2 w2.drew := (Below.refl _ _).drew
  have hm3 := hm2.low hd2
  have hs3 := hs2.below hd2
  have hc3 := hc2.trans (Chg.of_below hd2)
  obtain ⟨⟨_, _, _, x3⟩, _, _, _⟩ := HD.out.op _ _ hc3
  rcases HOR.out with hlt | ⟨hge, hne⟩
  · have HO := HO2.out
    go_wp2_with (first
      | (go_at_call 20; refine (KF.out _ _).mono ?_; rintro e w' ⟨rfl, rfl⟩)
      | (go_at_call 17; refine (hm3.keep HO hs3).mono ?_; rintro e w9 ⟨rfl, P9, X9, hsd9, hc9⟩))
    go_ret
    exact ⟨rfl, P9, X9, _, hsd9, (HD.out.ch.trans hc3).trans hc9⟩
  · have HO := HO2.out
    have hnl : ¬ mn < 64 := by omega
    obtain ⟨z, hz⟩ : ∃ z, mn.tmod 64 = z := ⟨_, rfl⟩
    rw [hz] at hne
    have hnb : (z != 0) = true := by simpa using hne
    have hnb2 : (z == 0) = false := by simpa using hne
    clear hne
    go_wp2_with (first
      | (go_at_call 20; refine (KF.out _ _).mono ?_; rintro e w' ⟨rfl, rfl⟩)
      | (go_at_call 17; refine (hm3.keep HO hs3).mono ?_; rintro e w9 ⟨rfl, P9, X9, hsd9, hc9⟩))
    go_ret
    exact ⟨rfl, P9, X9, _, hsd9, (HD.out.ch.trans hc3).trans hc9⟩
set_option maxHeartbeats 4000000 in
theorem do_find_yes (h : Side w0 w P M d (.pointer (some ⟨b, 0, none⟩)) (.pointer (some ⟨br, 0, none⟩)) X (64 * (kk : Int)) O kk) (o : O12) (ho : o.ok) (hk : o.k = 5) (hf : frmB (min o.l (64 * (kk : Int))) = true) :
    Calls Tryz.prog 11 #[.pointer (some ⟨b, 0, none⟩), .pointer (some ⟨br, 0, none⟩), opV12 o.k o.b o.l o.g o.n o.i o.a] w (DoOut w0 w P M d (.pointer (some ⟨b, 0, none⟩)) (.pointer (some ⟨br, 0, none⟩)) kk) := by
  have h1 := h.ok.k1
  have h12 := h.ok.k12
  have hok := h.ok
  obtain ⟨q1, q2, q3, q4, q5, q6⟩ := ho
  obtain ⟨m, m1, m12, hmn'⟩ := frm_yes hf
  obtain ⟨x, KL⟩ := find12_yes hok m1 (show m ≤ kk by omega) o.g
  have hml : ¬ 64 * (m : Int) < 64 := by omega
  have hmr : (64 * (m : Int)).tmod 64 = 0 := by rw [Int.tmod_eq_emod_of_nonneg (by omega)]; omega
  have hO2 := hok
  have hd := doK h o
  obtain ⟨W1, hW1⟩ : ∃ W1, W1 = w.alloc (.cells #[.int .i64 o.k, .int .i64 o.b, .int .i64 o.l, .int .i64 o.g, .int .i64 o.n, .int .u16 o.i, .int .u16 o.a] 34) := ⟨_, rfl⟩
  rw [← hW1] at hd
  obtain ⟨xb, hxb⟩ : ∃ xb, xb = w.heap.size := ⟨_, rfl⟩
  rw [← hxb] at hd
  have HW1 := Lib.hid hW1.symm
  have HXB := Lib.hid hxb
  have HD := Lib.hid hd
  have hwr : IntKind.i64.wrap (64 * (kk : Int) - 1) = 64 * (kk : Int) - 1 := by rw [IntKind.wrap_i64]; omega
  have HKL := Lib.hid KL
  clear KL hf
  have HO2 := Lib.hid hO2
  clear hO2
  have HK := Lib.hid hk
  have KB := Lib.hid hd.sd.begin
  clear hW1 hxb hd h hok hk q1 q2 q3 q4 q5 q6
  unfold opV12
  go_enter Tryz.func11, Tryz.ntmps11
  go_upto_region 1 with (fail)
  rw [HW1.out, ← HXB.out]
  go_upto_region 23 with (first
    | (go_at_call 14; refine KB.out.mono ?_; rintro e w2 ⟨rfl, P2, hm2, hs2, hc2⟩; obtain ⟨⟨x0, _, _, _⟩, _, _, _⟩ := HD.out.op _ _ hc2; rw [HK.out] at x0))
  have hS2 : w2.drew.cell? ⟨xb, 2, none⟩ = some (.int .i64 o.l) ∧ w2.drew.cell? ⟨br, 0, none⟩ = some (.int .i64 (64 * (kk : Int))) := by
    obtain ⟨⟨z0, z1, z2, z3⟩, z4, z5, z6⟩ := HD.out.op _ _ (hc2.trans (Chg.of_below (Below.refl _ _).drew))
    exact ⟨z2, hs2.n0⟩
  refine wp_region_held_drew (S := fun W => W.cell? ⟨xb, 2, none⟩ = some (.int .i64 o.l) ∧ W.cell? ⟨br, 0, none⟩ = some (.int .i64 (64 * (kk : Int)))) (by kernel_rfl) hS2 (fun hHeld => ?_)
  clear hHeld
  refine tk 0 (.pointer (some ⟨xb, 2, none⟩)) rfl (by kernel_rfl) (fun _ _ _ h => h) (Or.inl ⟨by rfl, ?_⟩) (by assumption) ?_
  · rintro W ⟨s0, s1⟩; go_simp
  (try simp only [Act.put, q1, q2, q3, q4, q5, q6])
  refine tk 1 (.int .i64 (o.l)) rfl (by kernel_rfl) (fun _ _ _ h => h) (Or.inl ⟨by rfl, ?_⟩) (by assumption) ?_
  · rintro W ⟨s0, s1⟩; go_simp
  (try simp only [Act.put, q1, q2, q3, q4, q5, q6])
  refine tk 2 (.pointer (some ⟨br, 0, none⟩)) rfl (by kernel_rfl) (fun _ _ _ h => h) (Or.inl ⟨by rfl, ?_⟩) (by assumption) ?_
  · rintro W ⟨s0, s1⟩; go_simp
  (try simp only [Act.put, q1, q2, q3, q4, q5, q6])
  refine tk 3 (.pointer (some ⟨br, 0, none⟩)) rfl (by kernel_rfl) (fun _ _ _ h => h) (Or.inl ⟨by rfl, ?_⟩) (by assumption) ?_
  · rintro W ⟨s0, s1⟩; go_simp
  (try simp only [Act.put, q1, q2, q3, q4, q5, q6])
  refine tk 4 (.pointer (some ⟨br, 0, none⟩)) rfl (by kernel_rfl) (fun _ _ _ h => h) (Or.inl ⟨by rfl, ?_⟩) (by assumption) ?_
  · rintro W ⟨s0, s1⟩; go_simp
  (try simp only [Act.put, q1, q2, q3, q4, q5, q6])
  refine tk 5 (.int .i64 (64 * (kk : Int))) rfl (by kernel_rfl) (fun _ _ _ h => h) (Or.inl ⟨by rfl, ?_⟩) (by assumption) ?_
  · rintro W ⟨s0, s1⟩; go_simp
  (try simp only [Act.put, q1, q2, q3, q4, q5, q6])
  refine tk 6 (.int .i64 (64 * (m : Int))) rfl (by kernel_rfl) (fun _ _ _ h => h) (Or.inl ⟨by rfl, ?_⟩) (by assumption) ?_
  · rintro W ⟨s0, s1⟩; go_simp
  (try simp only [Act.put, q1, q2, q3, q4, q5, q6])
  refine tk 7 (.int .i64 (64 * (m : Int))) rfl (by kernel_rfl) (fun _ _ _ h => h) (Or.inl ⟨by rfl, ?_⟩) (by assumption) ?_
  · rintro W ⟨s0, s1⟩; go_simp
  (try simp only [Act.put, q1, q2, q3, q4, q5, q6])
  refine wpAnyH_done (by kernel_rfl) ?_ _
  clear hS2
  have hd2 : Below w2.heap.size w2 w2.drew := (Below.refl _ _).drew
  have hm3 := hm2.low hd2
  have hs3 := hs2.below hd2
  have hc3 := hc2.trans (Chg.of_below hd2)
  obtain ⟨⟨_, _, _, x3⟩, _, _, _⟩ := HD.out.op _ _ hc3
  have HO := HO2.out
  go_wp2_with (first
    | (go_at_call 20; refine (HKL.out.land hm3).mono ?_; rintro e w4 ⟨rfl, hb4⟩; have hm4 := hm3.low hb4; have hs4 := hs3.below hb4; have hc4 := hc3.trans (Chg.of_below hb4); obtain ⟨⟨_, _, _, y3⟩, _, _, _⟩ := HD.out.op _ _ hc4)
    | (go_at_call 33; refine (HKL.out.refe hs4).mono ?_; rintro e w' ⟨rfl, rfl⟩)
    | (go_at_call 17; refine (hm4.keep HO hs4).mono ?_; rintro e w9 ⟨rfl, P9, X9, hsd9, hc9⟩))
  go_ret
  exact ⟨rfl, P9, X9, _, hsd9, (HD.out.ch.trans hc4).trans hc9⟩
end
end Go.Proofs.YtkbeencjklgcnaaGreat

/- The law's do: a call on both sides. -/
namespace Go.Proofs.YtkbeencjklgcnaaGreat
set_option maxRecDepth 100000
open Go.RowKit
set_option linter.unusedVariables false

section
variable {w0 w : World} {P M : Nat → Prop} {d : Value} {b br : Nat} {X : XSt} {O : List (Int × Int)} {kk : Nat}
set_option maxHeartbeats 4000000 in
theorem do_owner_no (h : Side w0 w P M d (.pointer (some ⟨b, 0, none⟩)) (.pointer (some ⟨br, 0, none⟩)) X (64 * (kk : Int)) O kk) (o : O12) (ho : o.ok) (hk : o.k ≠ 1 ∧ o.k ≠ 2 ∧ o.k ≠ 3 ∧ o.k ≠ 4 ∧ o.k ≠ 5 ∧ o.k ≠ 6) (hneg : o.n < 0) :
    Calls Tryz.prog 11 #[.pointer (some ⟨b, 0, none⟩), .pointer (some ⟨br, 0, none⟩), opV12 o.k o.b o.l o.g o.n o.i o.a] w (DoOut w0 w P M d (.pointer (some ⟨b, 0, none⟩)) (.pointer (some ⟨br, 0, none⟩)) kk) := by
  have h1 := h.ok.k1
  have h12 := h.ok.k12
  have hok := h.ok
  obtain ⟨q1, q2, q3, q4, q5, q6⟩ := ho
  obtain ⟨mn, hmn⟩ : ∃ mn, mn = min o.n (64 * (kk : Int) - 1) := ⟨_, rfl⟩
  have hmn' : min o.n (64 * (kk : Int) - 1) = mn := hmn.symm
  have KO := Lib.hid (spOwner_no mn (by omega) (.pointer (some ⟨b, 0, none⟩)))
  have hO2 := hok
  have hd := doK h o
  obtain ⟨W1, hW1⟩ : ∃ W1, W1 = w.alloc (.cells #[.int .i64 o.k, .int .i64 o.b, .int .i64 o.l, .int .i64 o.g, .int .i64 o.n, .int .u16 o.i, .int .u16 o.a] 34) := ⟨_, rfl⟩
  rw [← hW1] at hd
  obtain ⟨xb, hxb⟩ : ∃ xb, xb = w.heap.size := ⟨_, rfl⟩
  rw [← hxb] at hd
  have HW1 := Lib.hid hW1.symm
  have HXB := Lib.hid hxb
  have HD := Lib.hid hd
  have hwr : IntKind.i64.wrap (64 * (kk : Int) - 1) = 64 * (kk : Int) - 1 := by rw [IntKind.wrap_i64]; omega
  clear hmn
  have HO2 := Lib.hid hO2
  have e1 : (o.k == 1) = false := by simpa using hk.1
  have e2 : (o.k == 2) = false := by simpa using hk.2.1
  have e3 : (o.k == 3) = false := by simpa using hk.2.2.1
  have e4 : (o.k == 4) = false := by simpa using hk.2.2.2.1
  have e5 : (o.k == 5) = false := by simpa using hk.2.2.2.2.1
  have e6 : (o.k == 6) = false := by simpa using hk.2.2.2.2.2
  clear hO2
  have HK := Lib.hid hk
  have KB := Lib.hid hd.sd.begin
  clear hW1 hxb hd h hok hk q1 q2 q3 q4 q5 q6
  unfold opV12
  go_enter Tryz.func11, Tryz.ntmps11
  go_upto_region 1 with (fail)
  rw [HW1.out, ← HXB.out]
  go_upto_region 6 with (first
    | (go_at_call 14; refine KB.out.mono ?_; rintro e w2 ⟨rfl, P2, hm2, hs2, hc2⟩; obtain ⟨⟨x0, _, _, _⟩, _, _, _⟩ := HD.out.op _ _ hc2))
  have hmA := hm2.low (Below.refl _ _).drew
  have hsA := hs2.below (Below.refl _ _).drew
  have hcA := hc2.trans (Chg.of_below (Below.refl _ _).drew)
  have HSx : Hid (∀ W, Below w2.drew.heap.size w2.drew W → W.cell? ⟨xb, 4, none⟩ = some (.int .i64 o.n) ∧ W.cell? ⟨br, 0, none⟩ = some (.int .i64 (64 * (kk : Int)))) := Lib.hid fun W hb => by
    obtain ⟨⟨z0, z1, z2, z3⟩, z4, z5, z6⟩ := HD.out.op _ _ (hcA.trans (Chg.of_below hb))
    exact ⟨z4, (hsA.below hb).n0⟩
  have hS2 := HSx.out _ (Below.refl _ _)
  refine wp_region_held_drew (S := fun W => W.cell? ⟨xb, 4, none⟩ = some (.int .i64 o.n) ∧ W.cell? ⟨br, 0, none⟩ = some (.int .i64 (64 * (kk : Int)))) (by kernel_rfl) hS2 (fun hHeld => ?_)
  clear hHeld
  refine tk 0 (.pointer (some ⟨b, 0, none⟩)) rfl (by kernel_rfl) (fun _ _ _ h => h) (Or.inl ⟨by rfl, ?_⟩) (by assumption) ?_
  · rintro W ⟨s0, s1⟩; go_simp
  (try simp only [Act.put, q1, q2, q3, q4, q5, q6])
  refine tk 1 (.pointer (some ⟨xb, 4, none⟩)) rfl (by kernel_rfl) (fun _ _ _ h => h) (Or.inl ⟨by rfl, ?_⟩) (by assumption) ?_
  · rintro W ⟨s0, s1⟩; go_simp
  (try simp only [Act.put, q1, q2, q3, q4, q5, q6])
  refine tk 2 (.int .i64 (o.n)) rfl (by kernel_rfl) (fun _ _ _ h => h) (Or.inl ⟨by rfl, ?_⟩) (by assumption) ?_
  · rintro W ⟨s0, s1⟩; go_simp
  (try simp only [Act.put, q1, q2, q3, q4, q5, q6])
  refine tk 3 (.pointer (some ⟨br, 0, none⟩)) rfl (by kernel_rfl) (fun _ _ _ h => h) (Or.inl ⟨by rfl, ?_⟩) (by assumption) ?_
  · rintro W ⟨s0, s1⟩; go_simp
  (try simp only [Act.put, q1, q2, q3, q4, q5, q6])
  refine tk 4 (.pointer (some ⟨br, 0, none⟩)) rfl (by kernel_rfl) (fun _ _ _ h => h) (Or.inl ⟨by rfl, ?_⟩) (by assumption) ?_
  · rintro W ⟨s0, s1⟩; go_simp
  (try simp only [Act.put, q1, q2, q3, q4, q5, q6])
  refine tk 5 (.pointer (some ⟨br, 0, none⟩)) rfl (by kernel_rfl) (fun _ _ _ h => h) (Or.inl ⟨by rfl, ?_⟩) (by assumption) ?_
  · rintro W ⟨s0, s1⟩; go_simp
  (try simp only [Act.put, q1, q2, q3, q4, q5, q6])
  refine tk 6 (.int .i64 (64 * (kk : Int))) rfl (by kernel_rfl) (fun _ _ _ h => h) (Or.inl ⟨by rfl, ?_⟩) (by assumption) ?_
  · rintro W ⟨s0, s1⟩; go_simp
  (try simp only [Act.put, q1, q2, q3, q4, q5, q6])
  refine tk 7 (.int .i64 (64 * (kk : Int) - 1)) rfl (by kernel_rfl) (fun _ _ _ h => h) (Or.inl ⟨by rfl, ?_⟩) (by assumption) ?_
  · rintro W ⟨s0, s1⟩; go_simp
  (try simp only [Act.put, q1, q2, q3, q4, q5, q6])
  refine tk 8 (.int .i64 (mn)) rfl (by kernel_rfl) (fun _ _ _ h => h) (Or.inl ⟨by rfl, ?_⟩) (by assumption) ?_
  · rintro W ⟨s0, s1⟩; go_simp
  (try simp only [Act.put, q1, q2, q3, q4, q5, q6])
  refine wpAnyH_ready (rs := [9, 13]) (by kernel_rfl) (by simp) (AllReadyH.cons rfl (fun K hK => ?_) (AllReadyH.cons rfl (fun K hK => ?_) AllReadyH.nil))
  · skip
    go_simp
    go_at_call 12
    refine ((KO.out _)).mono ?_
    rintro e w3 ⟨rfl, hb3⟩
    have hS3 := HSx.out _ hb3
    refine hK.out _ _ hS3 (fun hHeld => ?_)
    clear hK K hHeld
    (try simp only [Act.put, q1, q2, q3, q4, q5, q6])
    refine tk 10 (.tuple #[.agg #[.int .u16 (0), .int .u16 (0)], .int .i64 1]) rfl (by kernel_rfl) (fun _ _ _ h => h) (Or.inl ⟨by rfl, ?_⟩) (by assumption) ?_
    · rintro W ⟨s0, s1⟩; go_simp
    (try simp only [Act.put, q1, q2, q3, q4, q5, q6])
    refine tk 11 (.agg #[.int .u16 (0), .int .u16 (0)]) rfl (by kernel_rfl) (fun _ _ _ h => h) (Or.inl ⟨by rfl, ?_⟩) (by assumption) ?_
    · rintro W ⟨s0, s1⟩; go_simp
    (try simp only [Act.put, q1, q2, q3, q4, q5, q6])
    refine tk 12 (.int .i64 (1)) rfl (by kernel_rfl) (fun _ _ _ h => h) (Or.inl ⟨by rfl, ?_⟩) (by assumption) ?_
    · rintro W ⟨s0, s1⟩; go_simp
    (try simp only [Act.put, q1, q2, q3, q4, q5, q6])
    refine wpAnyH_ready (rs := [13]) (by kernel_rfl) (by simp) (AllReadyH.cons rfl (fun K hK => ?_) AllReadyH.nil)
    go_simp
    have hb4 := hb3.trans ((below_box w3 (.cells #[.int .u16 0, .int .u16 0] 32)).mono hb3.size)
    have hg4 := heap_alloc_new w3 (.cells #[.int .u16 0, .int .u16 0] 32)
    have hS4 := HSx.out _ hb4
    refine hK.out _ _ hS4 (fun hHeld => ?_)
    clear hK K hHeld
    (try simp only [Act.put, q1, q2, q3, q4, q5, q6])
    refine wpAnyH_ready (rs := [14]) (by kernel_rfl) (by simp) (AllReadyH.cons rfl (fun K hK => ?_) AllReadyH.nil)
    refine step_store_owp (by rfl) (.tmp 24) (.tmp 42) (by rfl) (w3.heap.size) 0 [(0, 0)] #[.int .u16 0, .int .u16 0] (0) (0) (by rfl) (by rfl) hg4 rfl (by decide) (by decide) ?_
    intro w6 cur6 hw6 hg6 hs6 ht6
    have hc06 : w6.cell? ⟨w3.heap.size, 0, none⟩ = some (.int .u16 (0)) ∧ w6.cell? ⟨w3.heap.size, 1, none⟩ = some (.int .u16 (0)) := by
      have hl : cur6.toList.length = 2 := by simpa using hs6
      have e : cur6.toList = [.int .u16 (0), .int .u16 (0)] := by
        have h2 : cur6.toList.take 2 = [.int .u16 (0), .int .u16 (0)] := ht6
        rwa [List.take_of_length_le (by rw [hl]; decide)] at h2
      have e2 : cur6 = #[.int .u16 (0), .int .u16 (0)] := by rw [← Array.toArray_toList (xs := cur6), e]
      rw [e2] at hg6
      exact ⟨cell_of_row _ _ _ _ _ _ hg6, cell_of_row _ _ _ _ _ _ hg6⟩
    have hbE := hb4.trans (hw6.below hb3.size)
    have hS6 := HSx.out _ hbE
    refine hK.out _ _ hS6 (fun hHeld => ?_)
    clear hK K hHeld
    (try simp only [Act.put, q1, q2, q3, q4, q5, q6])
    refine tk 15 (.int .i64 (1)) rfl (by kernel_rfl) (fun _ _ _ h => h) (Or.inl ⟨by rfl, ?_⟩) (by assumption) ?_
    · rintro W ⟨s0, s1⟩; go_simp
    (try simp only [Act.put, q1, q2, q3, q4, q5, q6])
    refine wpAnyH_done (by kernel_rfl) ?_ _
    clear hw6 hg6 hs6 ht6
    have hmE := hmA.low hbE
    have hsE := hsA.below hbE
    have hcE := hcA.trans (Chg.of_below hbE)
    obtain ⟨_, x4, _, _⟩ := HD.out.op _ _ hcE
    have x7 := hsE.n0
    obtain ⟨c0, c1⟩ := hc06
    go_upto_region 7 with (fail)
    go_quiet (fail)
    have HO := HO2.out
    go_wp2_with (go_at_call 17; refine ((hmE.low (below_drewN' (Below.refl _ _) _)).keep HO (hsE.below (below_drewN' (Below.refl _ _) _))).mono ?_; rintro e w9 ⟨rfl, P9, X9, hsd9, hc9⟩)
    go_ret
    exact ⟨rfl, P9, X9, _, hsd9, ((HD.out.ch.trans hcE).trans (Chg.of_below (below_drewN' (Below.refl _ _) _))).trans hc9⟩
  · skip
    go_simp
    have hb3 := below_box w2.drew (.cells #[.int .u16 0, .int .u16 0] 32)
    have hg3 := heap_alloc_new w2.drew (.cells #[.int .u16 0, .int .u16 0] 32)
    have hS3 := HSx.out _ hb3
    refine hK.out _ _ hS3 (fun hHeld => ?_)
    clear hK K hHeld
    (try simp only [Act.put, q1, q2, q3, q4, q5, q6])
    refine wpAnyH_ready (rs := [9]) (by kernel_rfl) (by simp) (AllReadyH.cons rfl (fun K hK => ?_) AllReadyH.nil)
    go_simp
    go_at_call 12
    refine ((KO.out _)).mono ?_
    rintro e w4 ⟨rfl, hb4'⟩
    have hb4 := hb3.trans (hb4'.mono hb3.size)
    have hg4 := below_hold hg3 hb4'
    have hS4 := HSx.out _ hb4
    refine hK.out _ _ hS4 (fun hHeld => ?_)
    clear hK K hHeld
    (try simp only [Act.put, q1, q2, q3, q4, q5, q6])
    refine tk 10 (.tuple #[.agg #[.int .u16 (0), .int .u16 (0)], .int .i64 1]) rfl (by kernel_rfl) (fun _ _ _ h => h) (Or.inl ⟨by rfl, ?_⟩) (by assumption) ?_
    · rintro W ⟨s0, s1⟩; go_simp
    (try simp only [Act.put, q1, q2, q3, q4, q5, q6])
    refine tk 11 (.agg #[.int .u16 (0), .int .u16 (0)]) rfl (by kernel_rfl) (fun _ _ _ h => h) (Or.inl ⟨by rfl, ?_⟩) (by assumption) ?_
    · rintro W ⟨s0, s1⟩; go_simp
    (try simp only [Act.put, q1, q2, q3, q4, q5, q6])
    refine tk 12 (.int .i64 (1)) rfl (by kernel_rfl) (fun _ _ _ h => h) (Or.inl ⟨by rfl, ?_⟩) (by assumption) ?_
    · rintro W ⟨s0, s1⟩; go_simp
    (try simp only [Act.put, q1, q2, q3, q4, q5, q6])
    refine wpAnyH_ready (rs := [14]) (by kernel_rfl) (by simp) (AllReadyH.cons rfl (fun K hK => ?_) AllReadyH.nil)
    refine step_store_owp (by rfl) (.tmp 24) (.tmp 42) (by rfl) (w2.heap.size) 0 [(0, 0)] #[.int .u16 0, .int .u16 0] (0) (0) (by rfl) (by rfl) hg4 rfl (by decide) (by decide) ?_
    intro w6 cur6 hw6 hg6 hs6 ht6
    have hc06 : w6.cell? ⟨w2.heap.size, 0, none⟩ = some (.int .u16 (0)) ∧ w6.cell? ⟨w2.heap.size, 1, none⟩ = some (.int .u16 (0)) := by
      have hl : cur6.toList.length = 2 := by simpa using hs6
      have e : cur6.toList = [.int .u16 (0), .int .u16 (0)] := by
        have h2 : cur6.toList.take 2 = [.int .u16 (0), .int .u16 (0)] := ht6
        rwa [List.take_of_length_le (by rw [hl]; decide)] at h2
      have e2 : cur6 = #[.int .u16 (0), .int .u16 (0)] := by rw [← Array.toArray_toList (xs := cur6), e]
      rw [e2] at hg6
      exact ⟨cell_of_row _ _ _ _ _ _ hg6, cell_of_row _ _ _ _ _ _ hg6⟩
    have hbE := hb4.trans (hw6.below (Nat.le_refl _))
    have hS6 := HSx.out _ hbE
    refine hK.out _ _ hS6 (fun hHeld => ?_)
    clear hK K hHeld
    (try simp only [Act.put, q1, q2, q3, q4, q5, q6])
    refine tk 15 (.int .i64 (1)) rfl (by kernel_rfl) (fun _ _ _ h => h) (Or.inl ⟨by rfl, ?_⟩) (by assumption) ?_
    · rintro W ⟨s0, s1⟩; go_simp
    (try simp only [Act.put, q1, q2, q3, q4, q5, q6])
    refine wpAnyH_done (by kernel_rfl) ?_ _
    clear hw6 hg6 hs6 ht6
    have hmE := hmA.low hbE
    have hsE := hsA.below hbE
    have hcE := hcA.trans (Chg.of_below hbE)
    obtain ⟨_, x4, _, _⟩ := HD.out.op _ _ hcE
    have x7 := hsE.n0
    obtain ⟨c0, c1⟩ := hc06
    go_upto_region 7 with (fail)
    go_quiet (fail)
    have HO := HO2.out
    go_wp2_with (go_at_call 17; refine ((hmE.low (below_drewN' (Below.refl _ _) _)).keep HO (hsE.below (below_drewN' (Below.refl _ _) _))).mono ?_; rintro e w9 ⟨rfl, P9, X9, hsd9, hc9⟩)
    go_ret
    exact ⟨rfl, P9, X9, _, hsd9, ((HD.out.ch.trans hcE).trans (Chg.of_below (below_drewN' (Below.refl _ _) _))).trans hc9⟩
end
end Go.Proofs.YtkbeencjklgcnaaGreat

/- The law's do: a call on both sides. -/
namespace Go.Proofs.YtkbeencjklgcnaaGreat
set_option maxRecDepth 100000
open Go.RowKit
set_option linter.unusedVariables false

section
variable {w0 w : World} {P M : Nat → Prop} {d : Value} {b br : Nat} {X : XSt} {O : List (Int × Int)} {kk : Nat}
set_option maxHeartbeats 4000000 in
theorem do_owner_yes (h : Side w0 w P M d (.pointer (some ⟨b, 0, none⟩)) (.pointer (some ⟨br, 0, none⟩)) X (64 * (kk : Int)) O kk) (o : O12) (ho : o.ok) (hk : o.k ≠ 1 ∧ o.k ≠ 2 ∧ o.k ≠ 3 ∧ o.k ≠ 4 ∧ o.k ≠ 5 ∧ o.k ≠ 6) (hneg : 0 ≤ o.n) :
    Calls Tryz.prog 11 #[.pointer (some ⟨b, 0, none⟩), .pointer (some ⟨br, 0, none⟩), opV12 o.k o.b o.l o.g o.n o.i o.a] w (DoOut w0 w P M d (.pointer (some ⟨b, 0, none⟩)) (.pointer (some ⟨br, 0, none⟩)) kk) := by
  have h1 := h.ok.k1
  have h12 := h.ok.k12
  have hok := h.ok
  obtain ⟨q1, q2, q3, q4, q5, q6⟩ := ho
  have hlen := hok.len
  obtain ⟨kq, hkq⟩ : ∃ kq : Nat, (kq : Int) = min o.n (64 * (kk : Int) - 1) := ⟨(min o.n (64 * (kk : Int) - 1)).toNat, by omega⟩
  have hmn' : min o.n (64 * (kk : Int) - 1) = (kq : Int) := hkq.symm
  have hkl : kq < 64 * kk := by omega
  have hkI : (kq : Int) < 64 * (kk : Int) := by omega
  have hnn : ¬ o.n < 0 := by omega
  obtain ⟨u, hu⟩ : ∃ u, u = (O.getD kq (0, 0)).1 := ⟨_, rfl⟩
  obtain ⟨v, hv⟩ : ∃ v, v = (O.getD kq (0, 0)).2 := ⟨_, rfl⟩
  have KO : Hid (∀ (w0 w : World) (P M : Nat → Prop) (d p r : Value) (X : XSt) (n : Int), Mid w0 w P M d p r (callX X) n O O kk → Calls Tryz.prog 12 #[p, .int .i64 kq] w fun e w' => e = .returned (.tuple #[.agg #[.int .u16 u, .int .u16 v], .int .i64 0]) ∧ Below w.heap.size w w') := Lib.hid (fun w0 w P M d p r X n h => by rw [hu, hv]; exact owner12 hok hkl h)
  have HRW : Hid (∀ (w : World) (M : Nat → Prop) (n : Int), RSp w M (.pointer (some ⟨br, 0, none⟩)) n O → ∃ g cap, w.cell? ⟨br, 1, none⟩ = some (.slice (some ⟨g, 0, none⟩) (64 * kk) cap) ∧ w.cell? ⟨g, kq * 2, none⟩ = some (.int .u16 u) ∧ w.cell? ⟨g, kq * 2 + 1, none⟩ = some (.int .u16 v)) := Lib.hid (fun w M n hs => by
    obtain ⟨g, cap, cur, r1, r2, r3, r4, r5, r6, r7, r8⟩ := hs.all (by omega)
    refine ⟨g, cap, by rw [cell_of_row _ _ _ _ _ _ r1, hlen]; rfl, ?_, ?_⟩
    · rw [hu]; exact (r8 kq (by omega)).1
    · rw [hv]; exact (r8 kq (by omega)).2)
  have hO2 := hok
  have hd := doK h o
  obtain ⟨W1, hW1⟩ : ∃ W1, W1 = w.alloc (.cells #[.int .i64 o.k, .int .i64 o.b, .int .i64 o.l, .int .i64 o.g, .int .i64 o.n, .int .u16 o.i, .int .u16 o.a] 34) := ⟨_, rfl⟩
  rw [← hW1] at hd
  obtain ⟨xb, hxb⟩ : ∃ xb, xb = w.heap.size := ⟨_, rfl⟩
  rw [← hxb] at hd
  have HW1 := Lib.hid hW1.symm
  have HXB := Lib.hid hxb
  have HD := Lib.hid hd
  have hwr : IntKind.i64.wrap (64 * (kk : Int) - 1) = 64 * (kk : Int) - 1 := by rw [IntKind.wrap_i64]; omega
  clear hkq hlen hu hv
  have HO2 := Lib.hid hO2
  have e1 : (o.k == 1) = false := by simpa using hk.1
  have e2 : (o.k == 2) = false := by simpa using hk.2.1
  have e3 : (o.k == 3) = false := by simpa using hk.2.2.1
  have e4 : (o.k == 4) = false := by simpa using hk.2.2.2.1
  have e5 : (o.k == 5) = false := by simpa using hk.2.2.2.2.1
  have e6 : (o.k == 6) = false := by simpa using hk.2.2.2.2.2
  clear hO2
  have HK := Lib.hid hk
  have KB := Lib.hid hd.sd.begin
  clear hW1 hxb hd h hok hk q1 q2 q3 q4 q5 q6
  unfold opV12
  go_enter Tryz.func11, Tryz.ntmps11
  go_upto_region 1 with (fail)
  rw [HW1.out, ← HXB.out]
  go_upto_region 6 with (first
    | (go_at_call 14; refine KB.out.mono ?_; rintro e w2 ⟨rfl, P2, hm2, hs2, hc2⟩; obtain ⟨⟨x0, _, _, _⟩, _, _, _⟩ := HD.out.op _ _ hc2))
  have hmA := hm2.low (Below.refl _ _).drew
  have hsA := hs2.below (Below.refl _ _).drew
  have hcA := hc2.trans (Chg.of_below (Below.refl _ _).drew)
  have HSx : Hid (∀ W, Below w2.drew.heap.size w2.drew W → W.cell? ⟨xb, 4, none⟩ = some (.int .i64 o.n) ∧ W.cell? ⟨br, 0, none⟩ = some (.int .i64 (64 * (kk : Int)))) := Lib.hid fun W hb => by
    obtain ⟨⟨z0, z1, z2, z3⟩, z4, z5, z6⟩ := HD.out.op _ _ (hcA.trans (Chg.of_below hb))
    exact ⟨z4, (hsA.below hb).n0⟩
  have hS2 := HSx.out _ (Below.refl _ _)
  refine wp_region_held_drew (S := fun W => W.cell? ⟨xb, 4, none⟩ = some (.int .i64 o.n) ∧ W.cell? ⟨br, 0, none⟩ = some (.int .i64 (64 * (kk : Int)))) (by kernel_rfl) hS2 (fun hHeld => ?_)
  clear hHeld
  refine tk 0 (.pointer (some ⟨b, 0, none⟩)) rfl (by kernel_rfl) (fun _ _ _ h => h) (Or.inl ⟨by rfl, ?_⟩) (by assumption) ?_
  · rintro W ⟨s0, s1⟩; go_simp
  (try simp only [Act.put, q1, q2, q3, q4, q5, q6])
  refine tk 1 (.pointer (some ⟨xb, 4, none⟩)) rfl (by kernel_rfl) (fun _ _ _ h => h) (Or.inl ⟨by rfl, ?_⟩) (by assumption) ?_
  · rintro W ⟨s0, s1⟩; go_simp
  (try simp only [Act.put, q1, q2, q3, q4, q5, q6])
  refine tk 2 (.int .i64 (o.n)) rfl (by kernel_rfl) (fun _ _ _ h => h) (Or.inl ⟨by rfl, ?_⟩) (by assumption) ?_
  · rintro W ⟨s0, s1⟩; go_simp
  (try simp only [Act.put, q1, q2, q3, q4, q5, q6])
  refine tk 3 (.pointer (some ⟨br, 0, none⟩)) rfl (by kernel_rfl) (fun _ _ _ h => h) (Or.inl ⟨by rfl, ?_⟩) (by assumption) ?_
  · rintro W ⟨s0, s1⟩; go_simp
  (try simp only [Act.put, q1, q2, q3, q4, q5, q6])
  refine tk 4 (.pointer (some ⟨br, 0, none⟩)) rfl (by kernel_rfl) (fun _ _ _ h => h) (Or.inl ⟨by rfl, ?_⟩) (by assumption) ?_
  · rintro W ⟨s0, s1⟩; go_simp
  (try simp only [Act.put, q1, q2, q3, q4, q5, q6])
  refine tk 5 (.pointer (some ⟨br, 0, none⟩)) rfl (by kernel_rfl) (fun _ _ _ h => h) (Or.inl ⟨by rfl, ?_⟩) (by assumption) ?_
  · rintro W ⟨s0, s1⟩; go_simp
  (try simp only [Act.put, q1, q2, q3, q4, q5, q6])
  refine tk 6 (.int .i64 (64 * (kk : Int))) rfl (by kernel_rfl) (fun _ _ _ h => h) (Or.inl ⟨by rfl, ?_⟩) (by assumption) ?_
  · rintro W ⟨s0, s1⟩; go_simp
  (try simp only [Act.put, q1, q2, q3, q4, q5, q6])
  refine tk 7 (.int .i64 (64 * (kk : Int) - 1)) rfl (by kernel_rfl) (fun _ _ _ h => h) (Or.inl ⟨by rfl, ?_⟩) (by assumption) ?_
  · rintro W ⟨s0, s1⟩; go_simp
  (try simp only [Act.put, q1, q2, q3, q4, q5, q6])
  refine tk 8 (.int .i64 ((kq : Int))) rfl (by kernel_rfl) (fun _ _ _ h => h) (Or.inl ⟨by rfl, ?_⟩) (by assumption) ?_
  · rintro W ⟨s0, s1⟩; go_simp
  (try simp only [Act.put, q1, q2, q3, q4, q5, q6])
  refine wpAnyH_ready (rs := [9, 13]) (by kernel_rfl) (by simp) (AllReadyH.cons rfl (fun K hK => ?_) (AllReadyH.cons rfl (fun K hK => ?_) AllReadyH.nil))
  · skip
    go_simp
    go_at_call 12
    refine ((KO.out _ _ _ _ _ _ _ _ _ hmA)).mono ?_
    rintro e w3 ⟨rfl, hb3⟩
    have hS3 := HSx.out _ hb3
    refine hK.out _ _ hS3 (fun hHeld => ?_)
    clear hK K hHeld
    (try simp only [Act.put, q1, q2, q3, q4, q5, q6])
    refine tk 10 (.tuple #[.agg #[.int .u16 (u), .int .u16 (v)], .int .i64 0]) rfl (by kernel_rfl) (fun _ _ _ h => h) (Or.inl ⟨by rfl, ?_⟩) (by assumption) ?_
    · rintro W ⟨s0, s1⟩; go_simp
    (try simp only [Act.put, q1, q2, q3, q4, q5, q6])
    refine tk 11 (.agg #[.int .u16 (u), .int .u16 (v)]) rfl (by kernel_rfl) (fun _ _ _ h => h) (Or.inl ⟨by rfl, ?_⟩) (by assumption) ?_
    · rintro W ⟨s0, s1⟩; go_simp
    (try simp only [Act.put, q1, q2, q3, q4, q5, q6])
    refine tk 12 (.int .i64 (0)) rfl (by kernel_rfl) (fun _ _ _ h => h) (Or.inl ⟨by rfl, ?_⟩) (by assumption) ?_
    · rintro W ⟨s0, s1⟩; go_simp
    (try simp only [Act.put, q1, q2, q3, q4, q5, q6])
    refine wpAnyH_ready (rs := [13]) (by kernel_rfl) (by simp) (AllReadyH.cons rfl (fun K hK => ?_) AllReadyH.nil)
    go_simp
    have hb4 := hb3.trans ((below_box w3 (.cells #[.int .u16 0, .int .u16 0] 32)).mono hb3.size)
    have hg4 := heap_alloc_new w3 (.cells #[.int .u16 0, .int .u16 0] 32)
    have hS4 := HSx.out _ hb4
    refine hK.out _ _ hS4 (fun hHeld => ?_)
    clear hK K hHeld
    (try simp only [Act.put, q1, q2, q3, q4, q5, q6])
    refine wpAnyH_ready (rs := [14]) (by kernel_rfl) (by simp) (AllReadyH.cons rfl (fun K hK => ?_) AllReadyH.nil)
    refine step_store_owp (by rfl) (.tmp 24) (.tmp 42) (by rfl) (w3.heap.size) 0 [(0, 0)] #[.int .u16 0, .int .u16 0] (u) (v) (by rfl) (by rfl) hg4 rfl (by decide) (by decide) ?_
    intro w6 cur6 hw6 hg6 hs6 ht6
    have hc06 : w6.cell? ⟨w3.heap.size, 0, none⟩ = some (.int .u16 (u)) ∧ w6.cell? ⟨w3.heap.size, 1, none⟩ = some (.int .u16 (v)) := by
      have hl : cur6.toList.length = 2 := by simpa using hs6
      have e : cur6.toList = [.int .u16 (u), .int .u16 (v)] := by
        have h2 : cur6.toList.take 2 = [.int .u16 (u), .int .u16 (v)] := ht6
        rwa [List.take_of_length_le (by rw [hl]; decide)] at h2
      have e2 : cur6 = #[.int .u16 (u), .int .u16 (v)] := by rw [← Array.toArray_toList (xs := cur6), e]
      rw [e2] at hg6
      exact ⟨cell_of_row _ _ _ _ _ _ hg6, cell_of_row _ _ _ _ _ _ hg6⟩
    have hbE := hb4.trans (hw6.below hb3.size)
    have hS6 := HSx.out _ hbE
    refine hK.out _ _ hS6 (fun hHeld => ?_)
    clear hK K hHeld
    (try simp only [Act.put, q1, q2, q3, q4, q5, q6])
    refine tk 15 (.int .i64 (0)) rfl (by kernel_rfl) (fun _ _ _ h => h) (Or.inl ⟨by rfl, ?_⟩) (by assumption) ?_
    · rintro W ⟨s0, s1⟩; go_simp
    (try simp only [Act.put, q1, q2, q3, q4, q5, q6])
    refine wpAnyH_done (by kernel_rfl) ?_ _
    clear hw6 hg6 hs6 ht6
    have hmE := hmA.low hbE
    have hsE := hsA.below hbE
    have hcE := hcA.trans (Chg.of_below hbE)
    obtain ⟨_, x4, _, _⟩ := HD.out.op _ _ hcE
    have x7 := hsE.n0
    obtain ⟨c0, c1⟩ := hc06
    obtain ⟨gr, cr, y1, y2, y3⟩ := HRW.out _ _ _ hsE
    go_upto_region 7 with (fail)
    go_quiet (fail)
    have HO := HO2.out
    go_wp2_with (go_at_call 17; refine ((hmE.low (below_drewN' (Below.refl _ _) _)).keep HO (hsE.below (below_drewN' (Below.refl _ _) _))).mono ?_; rintro e w9 ⟨rfl, P9, X9, hsd9, hc9⟩)
    go_ret
    exact ⟨rfl, P9, X9, _, hsd9, ((HD.out.ch.trans hcE).trans (Chg.of_below (below_drewN' (Below.refl _ _) _))).trans hc9⟩
  · skip
    go_simp
    have hb3 := below_box w2.drew (.cells #[.int .u16 0, .int .u16 0] 32)
    have hg3 := heap_alloc_new w2.drew (.cells #[.int .u16 0, .int .u16 0] 32)
    have hS3 := HSx.out _ hb3
    refine hK.out _ _ hS3 (fun hHeld => ?_)
    clear hK K hHeld
    (try simp only [Act.put, q1, q2, q3, q4, q5, q6])
    refine wpAnyH_ready (rs := [9]) (by kernel_rfl) (by simp) (AllReadyH.cons rfl (fun K hK => ?_) AllReadyH.nil)
    go_simp
    go_at_call 12
    refine ((KO.out _ _ _ _ _ _ _ _ _ (hmA.low hb3))).mono ?_
    rintro e w4 ⟨rfl, hb4'⟩
    have hb4 := hb3.trans (hb4'.mono hb3.size)
    have hg4 := below_hold hg3 hb4'
    have hS4 := HSx.out _ hb4
    refine hK.out _ _ hS4 (fun hHeld => ?_)
    clear hK K hHeld
    (try simp only [Act.put, q1, q2, q3, q4, q5, q6])
    refine tk 10 (.tuple #[.agg #[.int .u16 (u), .int .u16 (v)], .int .i64 0]) rfl (by kernel_rfl) (fun _ _ _ h => h) (Or.inl ⟨by rfl, ?_⟩) (by assumption) ?_
    · rintro W ⟨s0, s1⟩; go_simp
    (try simp only [Act.put, q1, q2, q3, q4, q5, q6])
    refine tk 11 (.agg #[.int .u16 (u), .int .u16 (v)]) rfl (by kernel_rfl) (fun _ _ _ h => h) (Or.inl ⟨by rfl, ?_⟩) (by assumption) ?_
    · rintro W ⟨s0, s1⟩; go_simp
    (try simp only [Act.put, q1, q2, q3, q4, q5, q6])
    refine tk 12 (.int .i64 (0)) rfl (by kernel_rfl) (fun _ _ _ h => h) (Or.inl ⟨by rfl, ?_⟩) (by assumption) ?_
    · rintro W ⟨s0, s1⟩; go_simp
    (try simp only [Act.put, q1, q2, q3, q4, q5, q6])
    refine wpAnyH_ready (rs := [14]) (by kernel_rfl) (by simp) (AllReadyH.cons rfl (fun K hK => ?_) AllReadyH.nil)
    refine step_store_owp (by rfl) (.tmp 24) (.tmp 42) (by rfl) (w2.heap.size) 0 [(0, 0)] #[.int .u16 0, .int .u16 0] (u) (v) (by rfl) (by rfl) hg4 rfl (by decide) (by decide) ?_
    intro w6 cur6 hw6 hg6 hs6 ht6
    have hc06 : w6.cell? ⟨w2.heap.size, 0, none⟩ = some (.int .u16 (u)) ∧ w6.cell? ⟨w2.heap.size, 1, none⟩ = some (.int .u16 (v)) := by
      have hl : cur6.toList.length = 2 := by simpa using hs6
      have e : cur6.toList = [.int .u16 (u), .int .u16 (v)] := by
        have h2 : cur6.toList.take 2 = [.int .u16 (u), .int .u16 (v)] := ht6
        rwa [List.take_of_length_le (by rw [hl]; decide)] at h2
      have e2 : cur6 = #[.int .u16 (u), .int .u16 (v)] := by rw [← Array.toArray_toList (xs := cur6), e]
      rw [e2] at hg6
      exact ⟨cell_of_row _ _ _ _ _ _ hg6, cell_of_row _ _ _ _ _ _ hg6⟩
    have hbE := hb4.trans (hw6.below (Nat.le_refl _))
    have hS6 := HSx.out _ hbE
    refine hK.out _ _ hS6 (fun hHeld => ?_)
    clear hK K hHeld
    (try simp only [Act.put, q1, q2, q3, q4, q5, q6])
    refine tk 15 (.int .i64 (0)) rfl (by kernel_rfl) (fun _ _ _ h => h) (Or.inl ⟨by rfl, ?_⟩) (by assumption) ?_
    · rintro W ⟨s0, s1⟩; go_simp
    (try simp only [Act.put, q1, q2, q3, q4, q5, q6])
    refine wpAnyH_done (by kernel_rfl) ?_ _
    clear hw6 hg6 hs6 ht6
    have hmE := hmA.low hbE
    have hsE := hsA.below hbE
    have hcE := hcA.trans (Chg.of_below hbE)
    obtain ⟨_, x4, _, _⟩ := HD.out.op _ _ hcE
    have x7 := hsE.n0
    obtain ⟨c0, c1⟩ := hc06
    obtain ⟨gr, cr, y1, y2, y3⟩ := HRW.out _ _ _ hsE
    go_upto_region 7 with (fail)
    go_quiet (fail)
    have HO := HO2.out
    go_wp2_with (go_at_call 17; refine ((hmE.low (below_drewN' (Below.refl _ _) _)).keep HO (hsE.below (below_drewN' (Below.refl _ _) _))).mono ?_; rintro e w9 ⟨rfl, P9, X9, hsd9, hc9⟩)
    go_ret
    exact ⟨rfl, P9, X9, _, hsd9, ((HD.out.ch.trans hcE).trans (Chg.of_below (below_drewN' (Below.refl _ _) _))).trans hc9⟩
end
end Go.Proofs.YtkbeencjklgcnaaGreat

/- The law SpaceFills: just as many blocks can be taken as there is room for. -/
namespace Go.Proofs.YtkbeencjklgcnaaGreat
set_option maxRecDepth 100000
open Go.RowKit
set_option linter.unusedVariables false

theorem cntU_set_lt (O : List (Int × Int)) (f : Nat) (o : Int × Int) : ∀ L, L ≤ f → cntU (O.set f o) L = cntU O L
  | 0, _ => rfl
  | L + 1, h => by
    have ih := cntU_set_lt O f o L (by omega)
    have e : freeJ (O.set f o) L = freeJ O L := by unfold freeJ; rw [List.getD_eq_getElem?_getD, List.getElem?_set_ne (by omega), ← List.getD_eq_getElem?_getD]
    unfold cntU
    rw [ih, e]
/-- A free open block more is used. -/
theorem cntU_set {O : List (Int × Int)} {f : Nat} {i j : Int} (hfl : f < O.length) (hf : freeJ O f = true) (hx : fixB (f : Int) = false) (h0 : i ≠ 0) : ∀ L, f < L → cntU (O.set f (i, j)) L = cntU O L + 1
  | 0, h => absurd h (Nat.not_lt_zero _)
  | L + 1, h => by
    by_cases e : L = f
    · subst e
      have h1 := cntU_set_lt O L (i, j) L (Nat.le_refl _)
      have h2 : freeJ (O.set L (i, j)) L = false := by unfold freeJ; rw [BM.getD_set _ _ _ _ _ hfl, if_pos rfl]; exact decide_eq_false h0
      unfold cntU
      rw [h1, h2, hf, hx]; simp
    · have ih := cntU_set (j := j) hfl hf hx h0 L (by omega)
      have h2 : freeJ (O.set f (i, j)) L = freeJ O L := by unfold freeJ; rw [List.getD_eq_getElem?_getD, List.getElem?_set_ne (by omega), ← List.getD_eq_getElem?_getD]
      unfold cntU
      rw [ih, h2]; omega
theorem cnt_new : ∀ kk, kk < 5 → 1 ≤ kk → cntU (newO kk) (64 * kk) = 6 := by decide +kernel
/-- The reference's Used, outside a call. -/
theorem Side.used {w0 w : World} {P M : Nat → Prop} {d p r : Value} {X : XSt} {n : Int} {O : List (Int × Int)} {kk : Nat} (h : Side w0 w P M d p r X n O kk) :
    Calls Tryz.prog 18 #[p, .int .i64 (64 * (kk : Int))] w (fun e w' => e = .returned (.tuple #[.int .i64 (cntU O (64 * kk)), .int .i64 0]) ∧ Below w.heap.size w w') ∧
      ∀ W, Below w.heap.size w W → Calls Tryz.prog 19 #[r, .int .i64 (64 * (kk : Int))] W fun e w' => e = .returned (.tuple #[.int .i64 (cntU O (64 * kk)), .int .i64 0]) ∧ W = w' := by
  have hcur : Has X.cur O kk := by unfold XSt.cur; rw [h.wi]; exact h.has
  have h1 := h.ok.k1
  have h12 := h.ok.k12
  have hl := h.ok.len
  refine ⟨spUsed_yes h.inv hcur h.ok h1 (Nat.le_refl _), fun W hb => ?_⟩
  have := rSpUsed_yes (h.sp.below hb) (L := 64 * kk) (by rw [show ((64 * kk : Nat) : Int) = 64 * (kk : Int) by omega]; exact frm_mk kk h1 h12) (by omega) (by omega) (by omega)
  rw [show ((64 * kk : Nat) : Int) = 64 * (kk : Int) by omega] at this
  exact this
/-- A law's start: a new file system, and a Space of the reference's. -/
theorem start12 {kk : Nat} (h1 : 1 ≤ kk) (h2 : kk ≤ 12) (w0 : World) : ∀ {w : World}, Below w0.heap.size w0 w → Calls Tryz.prog 9 #[.int .i64 (64 * (kk : Int)), .int .i64 (64 * (kk : Int))] w fun e w' => ∃ b, e = .returned (.pointer (some ⟨b, 0, none⟩)) ∧ Below w0.heap.size w0 w' ∧
    ∀ {W : World}, Below w'.heap.size w' W → Calls Tryz.prog 10 #[.int .i64 (64 * (kk : Int))] W fun e w'' => ∃ br P M d X, e = .returned (.pointer (some ⟨br, 0, none⟩)) ∧ Side w0 w'' P M d (.pointer (some ⟨b, 0, none⟩)) (.pointer (some ⟨br, 0, none⟩)) X (64 * (kk : Int)) (newO kk) kk := fun {w} hb => by
  refine (laid12_is h1 h2 w).mono fun e w' ⟨b, P, d, G, ds, he, hI, hfu, hH, hP, hb1⟩ => ⟨b, he, hb.trans (hb1.mono hb.size), fun {W} hbW => ?_⟩
  refine (rSpNew_at h1 h2 W).mono fun e w'' ⟨br, g, cap, M, he2, hR, _, _, _, hM, _, _, _, _, hb2⟩ => ?_
  have hs := hb.size
  have hs1 := hb1.size
  have hsW := hbW.size
  have hlt := hI.lt
  have hI2 := (hI.low hbW).low hb2
  refine ⟨br, P, M, d, _, he2, ⟨hI2, rfl, hfu, hH, newO_ok h1 h2, hR, fun x hx => by have := hP x hx; omega, fun x hx => by have := hM x hx; omega, fun x hm hp => by have := hM x hm; have := hlt x hp; omega, ?_⟩⟩
  exact ((hb.trans (hb1.mono hs)).trans (hbW.mono (by omega))).trans (hb2.mono (by omega))
/-- Not such an owner: the law says what awake says. -/
theorem lSpF_no {w : World} (gr li goal : Int) {i j : Int} (hi : 0 ≤ i ∧ i ≤ 65535) (hj : 0 ≤ j ∧ j ≤ 65535) (hno : frmO i j = false ∨ i = 0 ∨ i = 65535) : Calls Tryz.prog 4 #[.int .u8 gr, .int .u8 li, .int .i64 goal, .agg #[.int .u16 i, .int .u16 j]] w fun e w' => e = .returned (.bool true) ∧ Below w.heap.size w w' := by
  have KA := Lib.hid awake12_any
  have KA1 := Lib.hid (awake12_any (w.alloc (.cells #[.int .u16 i, .int .u16 j] 32)))
  have HB1 := Lib.hid (below_box w (.cells #[.int .u16 i, .int .u16 j] 32))
  have HR := Lib.hid (fun (W : World) (hb : Below (w.alloc (.cells #[.int .u16 i, .int .u16 j] 32)).heap.size (w.alloc (.cells #[.int .u16 i, .int .u16 j] 32)) W) => show W.cell? ⟨w.heap.size, 0, none⟩ = some (.int .u16 i) ∧ W.cell? ⟨w.heap.size, 1, none⟩ = some (.int .u16 j) from ⟨cell_of_row _ _ _ _ _ _ (below_hold (heap_alloc_new w _) hb), cell_of_row _ _ _ _ _ _ (below_hold (heap_alloc_new w _) hb)⟩)
  cases hf : frmO i j
  · have KF := Lib.hid (rrForm_is i j hi hj false hf)
    clear hno hf
    go_enter Tryz.func4, Tryz.ntmps4
    go_wp2_with (first
      | (go_at_call 7; (with_reducible refine KA1.out.mono ?_); rintro e w2 ⟨rfl, hb2⟩; obtain ⟨x0, x1⟩ := HR.out _ hb2)
      | (go_at_call 13; refine (KF.out _).mono ?_; rintro e w3 ⟨rfl, hb3⟩; have hb13 := hb2.trans (hb3.mono hb2.size); obtain ⟨y0, y1⟩ := HR.out _ hb13)
      | (go_at_call 7; refine (KA.out _).mono ?_; rintro e w4 ⟨rfl, hb4⟩))
    go_ret
    exact ⟨rfl, (HB1.out.trans (hb13.mono HB1.out.size)).trans (hb4.mono (Nat.le_trans HB1.out.size hb13.size))⟩
  · have KF := Lib.hid (rrForm_is i j hi hj true hf)
    have hor : i = 0 ∨ i = 65535 := hno.resolve_left (by rw [hf]; decide)
    clear hno hf
    rcases hor with rfl | rfl
    all_goals
      go_enter Tryz.func4, Tryz.ntmps4
      go_wp2_with (first
        | (go_at_call 7; (with_reducible refine KA1.out.mono ?_); rintro e w2 ⟨rfl, hb2⟩; obtain ⟨x0, x1⟩ := HR.out _ hb2)
        | (go_at_call 13; refine (KF.out _).mono ?_; rintro e w3 ⟨rfl, hb3⟩; have hb13 := hb2.trans (hb3.mono hb2.size); obtain ⟨y0, y1⟩ := HR.out _ hb13)
        | (go_at_call 7; refine (KA.out _).mono ?_; rintro e w4 ⟨rfl, hb4⟩))
      go_ret
      exact ⟨rfl, (HB1.out.trans (hb13.mono HB1.out.size)).trans (hb4.mono (Nat.le_trans HB1.out.size hb13.size))⟩
end Go.Proofs.YtkbeencjklgcnaaGreat

/- The law SpacePlays. -/
namespace Go.Proofs.YtkbeencjklgcnaaGreat
set_option maxRecDepth 100000
open Go.RowKit
set_option linter.unusedVariables false

section
variable {w0 w : World} {P M : Nat → Prop} {d p r : Value} {b br : Nat} {X : XSt} {n : Int} {O : List (Int × Int)} {kk : Nat}
theorem do12_is (h : Side w0 w P M d (.pointer (some ⟨b, 0, none⟩)) (.pointer (some ⟨br, 0, none⟩)) X (64 * (kk : Int)) O kk) (o : O12) (ho : o.ok) :
    Calls Tryz.prog 11 #[.pointer (some ⟨b, 0, none⟩), .pointer (some ⟨br, 0, none⟩), opV12 o.k o.b o.l o.g o.n o.i o.a] w (DoOut w0 w P M d (.pointer (some ⟨b, 0, none⟩)) (.pointer (some ⟨br, 0, none⟩)) kk) := by
  by_cases k1 : o.k = 1
  · exact do_take h o ho k1
  by_cases k2 : o.k = 2
  · exact do_give h o ho k2
  by_cases k3 : o.k = 3
  · exact do_set h o ho k3
  by_cases k4 : o.k = 4
  · exact do_run h o ho k4
  by_cases k5 : o.k = 5
  · cases hf : frmB (min o.l (64 * (kk : Int)))
    · exact do_find_no h o ho k5 hf
    · exact do_find_yes h o ho k5 hf
  by_cases k6 : o.k = 6
  · exact do_used h o ho k6
  by_cases hn : o.n < 0
  · exact do_owner_no h o ho ⟨k1, k2, k3, k4, k5, k6⟩ hn
  · exact do_owner_yes h o ho ⟨k1, k2, k3, k4, k5, k6⟩ (by omega)
theorem Side.low (h : Side w0 w P M d p r X n O kk) {w' : World} (hb : Below w.heap.size w w') : Side w0 w' P M d p r X n O kk :=
  { h with inv := h.inv.low hb, sp := h.sp.below hb, be := h.be.trans (hb.mono h.be.size) }
/-- Whose block j is, on both sides. -/
theorem Side.owner (h : Side w0 w P M d p (.pointer (some ⟨br, 0, none⟩)) X n O kk) {j : Nat} (hj : j < 64 * kk) : ∃ u v : Int, Calls Tryz.prog 12 #[p, .int .i64 j] w (fun e w' => e = .returned (.tuple #[.agg #[.int .u16 u, .int .u16 v], .int .i64 0]) ∧ Below w.heap.size w w') ∧
    ∀ W, Below w.heap.size w W → ∃ g cap, W.cell? ⟨br, 1, none⟩ = some (.slice (some ⟨g, 0, none⟩) (64 * kk) cap) ∧ W.cell? ⟨g, j * 2, none⟩ = some (.int .u16 u) ∧ W.cell? ⟨g, j * 2 + 1, none⟩ = some (.int .u16 v) := by
  have hcur : Has X.cur O kk := by unfold XSt.cur; rw [h.wi]; exact h.has
  have hlen := h.ok.len
  refine ⟨_, _, spOwner_yes h.inv hcur h.ok hj, fun W hb => ?_⟩
  obtain ⟨g, cap, cur, r1, r2, r3, r4, r5, r6, r7, r8⟩ := (h.sp.below hb).all (by omega)
  exact ⟨g, cap, by rw [cell_of_row _ _ _ _ _ _ r1, hlen]; rfl, r8 j (by omega)⟩
end
theorem lSpP_long {w : World} {v : Value} (gr : Int) {S : List O12} (hv : OpsT w v S) (hl : 100 < S.length) : Calls Tryz.prog 3 #[.int .u8 gr, v] w fun e w' => e = .returned (.bool true) ∧ Below w.heap.size w w' := by
  have KA1 := Lib.hid (awake12_any w)
  have KA := Lib.hid awake12_any
  obtain ⟨ao, L, cap, rfl, hL⟩ : ∃ ao L cap, v = .slice ao L cap ∧ L = S.length := by
    rcases hv with ⟨a, c, rfl, rfl⟩ | ⟨b, off, cap, rfl, _⟩
    · exact ⟨_, _, _, rfl, rfl⟩
    · exact ⟨_, _, _, rfl, rfl⟩
  have hL2 : (100 : Int) < (L : Int) := by omega
  clear hv hl hL
  go_enter Tryz.func3, Tryz.ntmps3
  go_wp2_with (first
    | (go_at_call 7; (with_reducible refine KA1.out.mono ?_); rintro e w2 ⟨rfl, hb2⟩)
    | (go_at_call 7; refine (KA.out _).mono ?_; rintro e w3 ⟨rfl, hb3⟩))
  go_ret
  exact ⟨rfl, hb2.trans (hb3.mono hb2.size)⟩
set_option maxHeartbeats 2000000 in
theorem lSpP_short {w : World} {v : Value} {gr : Int} (hgr : 0 ≤ gr ∧ gr ≤ 255) {S : List O12} (hv : OpsT w v S) (hl : S.length ≤ 100) : Calls Tryz.prog 3 #[.int .u8 gr, v] w fun e w' => e = .returned (.bool true) ∧ Below w.heap.size w w' := by
  have KA1 := Lib.hid (awake12_any w)
  obtain ⟨q, hq⟩ : ∃ q : Nat, (q : Int) = gr % 12 := ⟨(gr % 12).toNat, by omega⟩
  obtain ⟨kk, hkk⟩ : ∃ kk, kk = q + 1 := ⟨_, rfl⟩
  have k1 : 1 ≤ kk := by omega
  have k12 : kk ≤ 12 := by omega
  have KZ : Hid (∀ W : World, Calls Tryz.prog 8 #[.int .u8 gr] W fun e w' => e = .returned (.int .i64 (64 * (kk : Int))) ∧ W = w') := Lib.hid fun W => (sized12_is gr hgr W).mono fun e w' ⟨k2, _, h2, h3, h4⟩ => ⟨by rw [h3]; exact ret_i (by omega), h4⟩
  have KS := Lib.hid (fun (W : World) (hb : Below w.heap.size w W) => start12 k1 k12 w hb)
  obtain ⟨ao, L, cap, rfl, hL, hcell⟩ : ∃ ao L cap, v = .slice ao L cap ∧ L = S.length ∧ (0 < L → ∃ b off, ao = some ⟨b, off, none⟩ ∧ ∀ i, i < L → ∃ o : O12, o.ok ∧ b < w.heap.size ∧ (w.cell? ⟨b, off + i * 7, none⟩ = some (.int .i64 o.k) ∧ w.cell? ⟨b, off + i * 7 + 1, none⟩ = some (.int .i64 o.b) ∧ w.cell? ⟨b, off + i * 7 + 2, none⟩ = some (.int .i64 o.l) ∧ w.cell? ⟨b, off + i * 7 + 3, none⟩ = some (.int .i64 o.g) ∧
      w.cell? ⟨b, off + i * 7 + 4, none⟩ = some (.int .i64 o.n) ∧ w.cell? ⟨b, off + i * 7 + 5, none⟩ = some (.int .u16 o.i) ∧ w.cell? ⟨b, off + i * 7 + 6, none⟩ = some (.int .u16 o.a))) := by
    rcases hv with ⟨a, c, rfl, rfl⟩ | ⟨b, off, cap, rfl, hc⟩
    · exact ⟨_, _, _, rfl, rfl, fun h => absurd h (by decide)⟩
    · exact ⟨_, _, _, rfl, rfl, fun _ => ⟨b, off, rfl, fun i hi => ⟨_, (hc i hi).2.2, (hc i hi).1, (hc i hi).2.1⟩⟩⟩
  have hL2 : ¬ (100 : Int) < (L : Int) := by omega
  have HC := Lib.hid hcell
  have HK := Lib.hid (And.intro k1 k12)
  clear hv hl hL hcell hq hkk hgr k1 k12
  go_enter Tryz.func3, Tryz.ntmps3
  go_wp2_with (first
    | (go_at_call 7; refine KA1.out.mono ?_; rintro e w2 ⟨rfl, hb2⟩)
    | (go_at_call 8; refine (KZ.out _).mono ?_; rintro e w' ⟨rfl, rfl⟩)
    | (go_at_call 9; refine (KS.out _ hb2).mono ?_; rintro e w4 ⟨b, rfl, hb4, KN⟩)
    | (go_at_call 10; refine (KN (Below.refl _ _)).mono ?_; rintro e w5 ⟨br, P5, M5, d5, X5, rfl, hsd⟩))
  have HS0 : Hid (∃ P M d X O, Side w w5 P M d (.pointer (some ⟨b, 0, none⟩)) (.pointer (some ⟨br, 0, none⟩)) X (64 * (kk : Int)) O kk) := Lib.hid ⟨P5, M5, d5, X5, _, hsd⟩
  clear hsd hb2 hb4 KN
  go_loopw [31] (fun t WI => ∃ c : Nat, c ≤ L ∧ t = .int .i64 c ∧ Hid (∃ P M d X O, Side w WI P M d (.pointer (some ⟨b, 0, none⟩)) (.pointer (some ⟨br, 0, none⟩)) X (64 * (kk : Int)) O kk)) (fun t _ => L - (intOf t).toNat)
  case atStart => exact ⟨0, by omega, rfl, HS0⟩
  case round =>
    obtain ⟨c, hc, rfl, HS⟩ := hrel
    clear HS0
    by_cases hcl : c < L
    · obtain ⟨P, M, d, X, O, hsd⟩ := HS.out
      obtain ⟨bs, off, rfl, hcells⟩ := HC.out (by omega)
      obtain ⟨o, ho, hbl, y0, y1, y2, y3, y4, y5, y6⟩ := hcells c hcl
      have ecl : (c : Int) < (L : Int) := by omega
      have z0 := (hsd.be.cell (p := ⟨bs, off + c * 7, none⟩) hbl).trans y0
      have z1 := (hsd.be.cell (p := ⟨bs, off + c * 7 + 1, none⟩) hbl).trans y1
      have z2 := (hsd.be.cell (p := ⟨bs, off + c * 7 + 2, none⟩) hbl).trans y2
      have z3 := (hsd.be.cell (p := ⟨bs, off + c * 7 + 3, none⟩) hbl).trans y3
      have z4 := (hsd.be.cell (p := ⟨bs, off + c * 7 + 4, none⟩) hbl).trans y4
      have z5 := (hsd.be.cell (p := ⟨bs, off + c * 7 + 5, none⟩) hbl).trans y5
      have z6 := (hsd.be.cell (p := ⟨bs, off + c * 7 + 6, none⟩) hbl).trans y6
      have KD := Lib.hid (do12_is hsd o ho)
      unfold opV12 at KD
      clear y0 y1 y2 y3 y4 y5 y6 hcells hsd HS ho
      go_wp2_with (go_at_call 11; refine KD.out.mono ?_; rintro e w6 ⟨rfl, P6, X6, O6, hsd6, _⟩)
      have HS6 : Hid (∃ P M d X O, Side w w6 P M d (.pointer (some ⟨b, 0, none⟩)) (.pointer (some ⟨br, 0, none⟩)) X (64 * (kk : Int)) O kk) := Lib.hid ⟨P6, M, d, X6, O6, hsd6⟩
      clear hsd6
      go_roundw
      case rel => exact ⟨c + 1, by omega, by go_num, HS6⟩
      case measure => simp [intOf]; omega
    · obtain rfl : c = L := by omega
      obtain ⟨P, M, d, X, O, hsd⟩ := HS.out
      have hk1 := HK.out.1
      obtain ⟨_, _, _, hrow⟩ := hsd.owner (j := 0) (by omega)
      obtain ⟨g0, cap0, r1, _, _⟩ := hrow _ (Below.refl _ _)
      have HS1 : Hid (∃ P M d X O, Side w wr P M d (.pointer (some ⟨b, 0, none⟩)) (.pointer (some ⟨br, 0, none⟩)) X (64 * (kk : Int)) O kk) := Lib.hid HS.out
      clear hrow hsd HS
      go_wp2
      clear r1
      go_loopw [48] (fun t WI => ∃ j : Nat, j ≤ 64 * kk ∧ t = .int .i64 j ∧ Hid (∃ P M d X O, Side w WI P M d (.pointer (some ⟨b, 0, none⟩)) (.pointer (some ⟨br, 0, none⟩)) X (64 * (kk : Int)) O kk)) (fun t _ => 64 * kk - (intOf t).toNat)
      case atStart => exact ⟨0, by omega, rfl, HS1⟩
      case round =>
        obtain ⟨j, hj, rfl, HS⟩ := hrel
        clear HS1
        by_cases hjl : j < 64 * kk
        · obtain ⟨P, M, d, X, O, hsd⟩ := HS.out
          have ejl : (j : Int) < 64 * (kk : Int) := by omega
          have hk12 : (kk : Int) ≤ 12 := by have := HK.out.2; omega
          obtain ⟨u, v, KO, hrow⟩ := hsd.owner hjl
          have HKO := Lib.hid KO
          have HRO : Hid (∀ W, Below wr.heap.size wr W → ∃ g cap, W.cell? ⟨br, 1, none⟩ = some (.slice (some ⟨g, 0, none⟩) (64 * kk) cap) ∧ W.cell? ⟨g, j * 2, none⟩ = some (.int .u16 u) ∧ W.cell? ⟨g, j * 2 + 1, none⟩ = some (.int .u16 v)) := Lib.hid hrow
          have HSD := Lib.hid hsd
          clear KO hrow hsd HS
          go_wp2_with (go_at_call 12; refine HKO.out.mono ?_; rintro e w7 ⟨rfl, hb7⟩; have hbx := hb7.trans ((below_box w7 (.cells #[.int .u16 u, .int .u16 v] 32)).mono hb7.size); have hnx := heap_alloc_new w7 (.cells #[.int .u16 u, .int .u16 v] 32))
          obtain ⟨g, cap, r1, r2, r3⟩ := HRO.out _ hbx
          have q0 := cell_of_row _ _ 0 _ _ _ hnx
          have q1 := cell_of_row _ _ 1 _ _ _ hnx
          have HS8 : Hid (∀ W, Below wr.heap.size wr W → ∃ P M d X O, Side w W P M d (.pointer (some ⟨b, 0, none⟩)) (.pointer (some ⟨br, 0, none⟩)) X (64 * (kk : Int)) O kk) := Lib.hid fun W hb => ⟨P, M, d, X, O, HSD.out.low hb⟩
          go_quiet (fail)
          go_wp2
          go_roundw
          case rel => exact ⟨j + 1, by omega, by go_num, Lib.hid (HS8.out _ (below_drewN' hbx _))⟩
          case measure => simp [intOf]; omega
        · obtain rfl : j = 64 * kk := by omega
          obtain ⟨P, M, d, X, O, hsd⟩ := HS.out
          have hbe := Lib.hid hsd.be
          clear hsd HS
          go_wp2
          go_ret
          exact ⟨rfl, hbe.out⟩
theorem lSpPlays_of {w : World} {v : Value} {gr : Int} (hgr : 0 ≤ gr ∧ gr ≤ 255) {S : List O12} (hv : OpsT w v S) : Calls Tryz.prog 3 #[.int .u8 gr, v] w fun e w' => e = .returned (.bool true) ∧ Below w.heap.size w w' := by
  by_cases h : 100 < S.length
  · exact lSpP_long gr hv h
  · exact lSpP_short hgr hv (by omega)
end Go.Proofs.YtkbeencjklgcnaaGreat
