/- Texts that the law rests on besides. -/
import Derived.Deep.Slices
import Derived.Deep.Fields
import Derived.ProofKit
import Derived.OpenShut
import Derived.Deep.AppendLies
import Derived.Deep.RegionHeld3
import Derived.Deep.Cut
import Derived.OrdersHeld
import Derived.BigQuiet
import Derived.Test.YtkbeencjklgcnaaGreatRows
import Derived.WalkKit
import Derived.ShutString
import Derived.ChangeOld
import Derived.Below
import Derived.Test.YtkbeencjklgcnaaGreatMg24

/- A call of layer 12, as its laws make one: Begin, the call, End; store and reference side by side. -/
namespace Go.Proofs.YtkbeencjklgcnaaGreat
set_option maxRecDepth 100000
open Go.RowKit
set_option linter.unusedVariables false

theorem sized12_is (x : Int) (hx : 0 ≤ x ∧ x ≤ 255) (w : World) : Calls Tryz.prog 8 #[.int .u8 x] w fun e w' => ∃ kk : Nat, (1 ≤ kk ∧ kk ≤ 12) ∧ (kk : Int) = 1 + x % 12 ∧ e = .returned (.int .i64 (64 * (kk : Int))) ∧ w = w' := by
  obtain ⟨r, hr⟩ : ∃ r : Nat, (r : Int) = x % 12 := ⟨(x % 12).toNat, by omega⟩
  have hr12 : r < 12 := by omega
  have ht : x.tmod 12 = r := by rw [Int.tmod_eq_emod_of_nonneg hx.1]; exact hr.symm
  have hr1 : (r : Int) < 12 := by omega
  have HR := Lib.hid hr
  have HT := Lib.hid ht
  clear hr
  go_enter Tryz.func8, Tryz.ntmps8
  go_wp2
  go_ret
  exact ⟨r + 1, by omega, by have := HR.out; omega, ret_i (show 64 * (1 + (r : Int)) = 64 * ((r + 1 : Nat) : Int) by omega), rfl⟩
/-- The store (outside a call) and the reference, side by side; w0: the world that the law began with. -/
structure Side (w0 w : World) (P M : Nat → Prop) (d p r : Value) (X : XSt) (n : Int) (O : List (Int × Int)) (kk : Nat) : Prop where
  inv : SInv w P d p X
  wi : X.wi = false
  fu : X.ds.fu = false
  has : Has X.is O kk
  ok : OOk O kk
  sp : RSp w M r n O
  pN : ∀ x, P x → w0.heap.size ≤ x
  mN : ∀ x, M x → w0.heap.size ≤ x
  ap : ∀ x, M x → ¬ P x
  be : Below w0.heap.size w0 w
def PM (P M : Nat → Prop) (k : Nat) : Prop := P k ∨ M k
theorem Chg.pm {w w' : World} {P P' : Nat → Prop} (h : Chg P P' w w') (M : Nat → Prop) : Chg (PM P M) (PM P' M) w w' := ⟨h.os, h.tape, h.output, h.size, fun k hk hn => ⟨(h.keep k hk fun e => hn (.inl e)).1, fun e => e.elim (fun e => (h.keep k hk fun e => hn (.inl e)).2 e) fun e => hn (.inr e)⟩⟩
theorem Chg.mp {w w' : World} {M : Nat → Prop} (h : Chg M M w w') (P : Nat → Prop) : Chg (PM P M) (PM P M) w w' := ⟨h.os, h.tape, h.output, h.size, fun k hk hn => ⟨(h.keep k hk fun e => hn (.inr e)).1, hn⟩⟩
/-- .. within a call of which nothing is put. -/
def callX (X : XSt) : XSt := { X with call := X.is, put := [], wi := true }
theorem RSp.chg {w w' : World} {P P' M : Nat → Prop} {r : Value} {n : Int} {O : List (Int × Int)} (h : RSp w M r n O) (hc : Chg P P' w w') (ha : ∀ x, M x → ¬ P x) : RSp w' M r n O ∧ ∀ x, M x → ¬ P' x := by
  obtain ⟨b, v, e, hr, ho, hM⟩ := h
  have hk : ∀ x, M x → w'.heap[x]? = w.heap[x]? ∧ ¬ P' x := fun x hx => hc.keep x (RSp.lt ⟨b, v, e, hr, ho, hM⟩ hx) (ha x hx)
  exact ⟨⟨b, v, e, (hk b ((hM b).2 (.inl rfl))).1.trans hr, ⟨ho.1, ownsRow_keep ho.2 fun g hg => (hk g ((hM g).2 (.inr hg))).1⟩, hM⟩, fun x hx => (hk x hx).2⟩
/-- The same, within a call: X its state. -/
structure Mid (w0 w : World) (P M : Nat → Prop) (d p r : Value) (X : XSt) (n : Int) (O O2 : List (Int × Int)) (kk : Nat) : Prop where
  inv : SInv w P d p X
  wi : X.wi = true
  fu : X.ds.fu = false
  has : Has X.is O kk
  has2 : Has X.call O2 kk
  ok : OOk O kk
  pN : ∀ x, P x → w0.heap.size ≤ x
  mN : ∀ x, M x → w0.heap.size ≤ x
  ap : ∀ x, M x → ¬ P x
  sz : w0.heap.size ≤ w.heap.size
  be : Below w0.heap.size w0 w
section
variable {w0 w : World} {P M : Nat → Prop} {d p r : Value} {X : XSt} {n : Int} {O O2 : List (Int × Int)} {kk : Nat}
theorem chg_base {P' : Nat → Prop} {w' : World} (hb : Below w0.heap.size w0 w) (hP : ∀ x, P x → w0.heap.size ≤ x) (hc : Chg P P' w w') : Below w0.heap.size w0 w' ∧ ∀ x, P' x → w0.heap.size ≤ x := by
  have hs := hb.size
  refine ⟨hb.trans (hc.below fun x hx => ⟨by omega, fun hp => by have := hP x hp; omega⟩), fun x hx => ?_⟩
  rcases chg_new hc hx with h | h
  · exact hP x h
  · omega
theorem Side.begin (h : Side w0 w P M d p r X n O kk) : Calls Tryz.prog 14 #[p] w fun e w' => e = .returned (.int .i64 0) ∧ ∃ P', Mid w0 w' P' M d p r (callX X) n O O kk ∧ RSp w' M r n O ∧ Chg (PM P M) (PM P' M) w w' := by
  refine (landed.begin h.inv).mono fun e w' ⟨he, P', hi, hc⟩ => ?_
  have e1 : xBegin X = (0, callX X) := by unfold xBegin; rw [if_neg (by rw [h.wi]; decide)]; rfl
  rw [e1] at he hi
  obtain ⟨hs, ha⟩ := h.sp.chg hc h.ap
  obtain ⟨hb, hp⟩ := chg_base h.be h.pN hc
  exact ⟨he, P', ⟨hi, rfl, h.fu, h.has, h.has, h.ok, hp, h.mN, ha, hb.size, hb⟩, hs, hc.pm M⟩
/-- End: kept. -/
theorem Mid.keep (h : Mid w0 w P M d p r X n O O2 kk) (hO : OOk O2 kk) (hs : RSp w M r n O2) : Calls Tryz.prog 17 #[p, .bool true] w fun e w' => e = .returned (.int .i64 0) ∧ ∃ P' X', Side w0 w' P' M d p r X' n O2 kk ∧ Chg (PM P M) (PM P' M) w w' := by
  refine (landed.endKeep h.inv h.wi).mono fun e w' he => ?_
  rcases he with ⟨B, dt, ds', _, hfu, he, P', hi, hc⟩ | ⟨hf, _⟩
  · obtain ⟨hs', ha⟩ := hs.chg hc h.ap
    obtain ⟨hb, hp⟩ := chg_base h.be h.pN hc
    exact ⟨he, P', _, ⟨hi, rfl, by show ds'.fu = false; rw [hfu]; exact h.fu, h.has2, hO, hs', hp, h.mN, ha, hb⟩, hc.pm M⟩
  · rw [h.fu] at hf; cases hf
/-- End: undone. -/
theorem Mid.undo (h : Mid w0 w P M d p r X n O O2 kk) (hs : RSp w M r n O) : Calls Tryz.prog 17 #[p, .bool false] w fun e w' => e = .returned (.int .i64 0) ∧ ∃ P' X', Side w0 w' P' M d p r X' n O kk ∧ Chg (PM P M) (PM P' M) w w' := by
  refine (landed.endUndo h.inv h.wi).mono fun e w' ⟨he, P', hi, hc⟩ => ?_
  obtain ⟨hs', ha⟩ := hs.chg hc h.ap
  obtain ⟨hb, hp⟩ := chg_base h.be h.pN hc
  exact ⟨he, P', _, ⟨hi, rfl, h.fu, h.has, h.ok, hs', hp, h.mN, ha, hb⟩, hc.pm M⟩
theorem Mid.low (h : Mid w0 w P M d p r X n O O2 kk) {w' : World} (hb : Below w.heap.size w w') : Mid w0 w' P M d p r X n O O2 kk :=
  { h with inv := h.inv.low hb, sz := Nat.le_trans h.sz hb.size, be := h.be.trans (hb.mono h.sz) }
/-- Behind a change of the reference's own. -/
theorem Mid.ref (h : Mid w0 w P M d p r X n O O2 kk) {w' : World} (hc : Chg M M w w') : Mid w0 w' P M d p r X n O O2 kk := by
  have hlt := h.inv.lt
  refine { h with inv := h.inv.keep hc.size fun x hx => (hc.keep x (hlt x hx) fun hm => h.ap x hm hx).1, sz := Nat.le_trans h.sz hc.size, be := h.be.trans (hc.below fun x hx => ⟨Nat.lt_of_lt_of_le hx h.sz, fun hm => by have := h.mN x hm; omega⟩) }
/-- Behind a change of the store's. -/
theorem Mid.put {X2 : XSt} {P2 : Nat → Prop} {w' : World} {O3 : List (Int × Int)} (h : Mid w0 w P M d p r X n O O2 kk) (hi : SInv w' P2 d p X2) (hc : Chg P P2 w w') (hw : X2.wi = true) (hf : X2.ds.fu = X.ds.fu) (his : X2.is = X.is) (hh : Has X2.call O3 kk) (hs : RSp w M r n O2) : Mid w0 w' P2 M d p r X2 n O O3 kk ∧ RSp w' M r n O2 := by
  obtain ⟨hs', ha⟩ := hs.chg hc h.ap
  obtain ⟨hb, hp⟩ := chg_base h.be h.pN hc
  exact ⟨⟨hi, hw, by rw [hf]; exact h.fu, by rw [his]; exact h.has, hh, h.ok, hp, h.mN, ha, hb.size, hb⟩, hs'⟩
end
end Go.Proofs.YtkbeencjklgcnaaGreat

/- An argument of type []Owner, opened to its cells. -/
namespace Go.Proofs.YtkbeencjklgcnaaGreat
set_option maxRecDepth 100000
open Go.RowKit Go.ChangeShapes Go.WideShapes
set_option linter.unusedVariables false

theorem owCells : Tryz.prog.cellsOf 32 = 2 := by kernel_rfl
theorem u16Cells : Tryz.prog.cellsOf 30 = 1 := by kernel_rfl

section
variable {H : Type} {enc : TypeId × Value → H} {W : World} {base : Nat} {spare : Nat → Bool} {held : Bool}
/-- One owner's two cells. -/
theorem ow_cells {a : Addr} {i m : Nat} {y : DataW H × List MemPlace} {cs : List Value} (hc : W.cells? base (a.add (i * 2)) 2 = some cs) (ht : DataW.trod enc Tryz.prog W base spare held m 32 cs = some y) :
    ∃ t : Int × Int, W.cell? (a.add (i * 2)) = some (.int .u16 t.1) ∧ W.cell? (a.add (i * 2 + 1)) = some (.int .u16 t.2) ∧ (0 ≤ t.1 ∧ t.1 ≤ 65535) ∧ (0 ≤ t.2 ∧ t.2 ≤ 65535) := by
  obtain ⟨xs, n, _, _, hlen, hxs, hf⟩ := DataW.trod_struct Tryz.underlying32 ht
  obtain ⟨_, hcl, hat⟩ := World.cells?_some hc
  match cs, hcl with
  | [c0, c1], _ =>
    match xs, hxs with
    | [y0, y1], _ =>
      have g0 : DataW.trod enc Tryz.prog W base spare held n 30 [c0] = some y0 := by
        have h0 : DataW.trod enc Tryz.prog W base spare held n 30 (List.take (Tryz.prog.cellsOf 30) (List.drop 0 [c0, c1])) = some y0 := hf 0 _ rfl
        rw [u16Cells] at h0
        exact h0
      have g1 : DataW.trod enc Tryz.prog W base spare held n 30 [c1] = some y1 := by
        have h0 : DataW.trod enc Tryz.prog W base spare held n 30 (List.take (Tryz.prog.cellsOf 30) (List.drop 1 [c0, c1])) = some y1 := hf 1 _ rfl
        rw [u16Cells] at h0
        exact h0
      obtain ⟨k, e0, _, w0⟩ := DataW.trod_int Tryz.underlying30 g0
      obtain ⟨b, e1, _, w1⟩ := DataW.trod_int Tryz.underlying30 g1
      simp only [List.cons.injEq, and_true] at e0 e1
      have a0 := hat 0 (by omega)
      have a1 := hat 1 (by omega)
      simp only [Go.Deep.add_add, List.getElem?_cons_zero, List.getElem?_cons_succ, e0, e1, Nat.add_zero] at a0 a1
      exact ⟨(k, b), a0, a1, bounds_u16 w0, bounds_u16 w1⟩

theorem owsl_of {v : Value} {d : DataW H} {p : List MemPlace} {r : Reach} {b0 : Nat} (hv : Value.okWide Tryz.prog W r b0 35 v) (h : DataW.Trod enc Tryz.prog W base spare held 35 v d p) : ∃ O, OwSl W v O := by
  obtain ⟨a0, len0, cap0, rfl⟩ := okWide_slice Tryz.underlying35 hv
  obtain ⟨fuel, hf⟩ := h
  rcases Go.Deep.open_slice Tryz.underlying35 hf with ⟨hcs, _⟩ | ⟨a, len, cap, m, n, D, Pl, hcs, _, hl, hm, hmm, _, hi⟩
  · simp [Value.cells] at hcs
    obtain ⟨rfl, rfl, rfl⟩ := hcs
    exact ⟨[], owB_of fun j h => by simp at h, .inl ⟨rfl, rfl⟩⟩
  · simp [Value.cells] at hcs
    obtain ⟨rfl, rfl, rfl⟩ := hcs
    have hlm : len0 ≤ m := by rw [hmm]; split <;> omega
    have hex : ∀ i, i < len0 → ∃ t : Int × Int, W.cell? (a.add (i * 2)) = some (.int .u16 t.1) ∧ W.cell? (a.add (i * 2 + 1)) = some (.int .u16 t.2) ∧ (0 ≤ t.1 ∧ t.1 ≤ 65535) ∧ (0 ≤ t.2 ∧ t.2 ≤ 65535) := fun i hi2 => by
      obtain ⟨cs', hc, ht⟩ := hi i (by omega)
      rw [owCells] at hc
      exact ow_cells hc ht
    obtain ⟨f, hfn⟩ := Go.Deep.choose_lt hex
    have hget : ∀ i, i < len0 → ((List.range len0).map f).getD i (0, 0) = f i := fun i hi2 => by
      simp [List.getD_eq_getElem?_getD, hi2]
    refine ⟨(List.range len0).map f, owB_of fun j hj => ?_, .inr ⟨a, cap0, by simp, fun i hi2 => ?_⟩⟩
    · have hj : j < len0 := by simpa using hj
      rw [hget j hj]
      exact (hfn j hj).2.2
    · have hi2 : i < len0 := by simpa using hi2
      obtain ⟨c0, c1, _⟩ := hfn i hi2
      obtain ⟨b, off, spot⟩ := a
      have hsp : spot = none := by
        obtain ⟨z0, _⟩ := hfn 0 (by omega)
        simpa [Addr.add] using World.cell?_spot z0
      subst hsp
      simp only [Addr.add_lit] at c0 c1
      rw [hget i hi2]
      exact ⟨by have := block_lt_of_cell c0; exact this, rfl, c0, by rw [Nat.add_assoc]; exact c1⟩
end
end Go.Proofs.YtkbeencjklgcnaaGreat

/- Arguments of layer 12's laws: Op, []Op, Owner. -/
namespace Go.Proofs.YtkbeencjklgcnaaGreat
set_option maxRecDepth 100000
open Go.RowKit Go.ChangeShapes Go.WideShapes
set_option linter.unusedVariables false

/-- A call of the script. -/
structure O12 where
  k : Int
  b : Int
  l : Int
  g : Int
  n : Int
  i : Int
  a : Int
instance : Inhabited O12 := ⟨⟨0, 0, 0, 0, 0, 0, 0⟩⟩
def in64 (x : Int) : Prop := -9223372036854775808 ≤ x ∧ x ≤ 9223372036854775807
def O12.ok (o : O12) : Prop := in64 o.b ∧ in64 o.l ∧ in64 o.g ∧ in64 o.n ∧ (0 ≤ o.i ∧ o.i ≤ 65535) ∧ (0 ≤ o.a ∧ o.a ≤ 65535)
def O12.cells (o : O12) : List Value := [.int .i64 o.k, .int .i64 o.b, .int .i64 o.l, .int .i64 o.g, .int .i64 o.n, .int .u16 o.i, .int .u16 o.a]
def opV12 (k b l g n i a : Int) : Value := .agg #[.int .i64 k, .int .i64 b, .int .i64 l, .int .i64 g, .int .i64 n, .int .u16 i, .int .u16 a]
/-- A []Op that reads as S. -/
def OpsT (W : World) (v : Value) (S : List O12) : Prop :=
  (∃ a c, v = .slice a 0 c ∧ S = []) ∨ ∃ b off cap, v = .slice (some ⟨b, off, none⟩) S.length cap ∧ ∀ i, i < S.length → b < W.heap.size ∧
    (W.cell? ⟨b, off + i * 7, none⟩ = some (.int .i64 (S.getD i default).k) ∧ W.cell? ⟨b, off + i * 7 + 1, none⟩ = some (.int .i64 (S.getD i default).b) ∧ W.cell? ⟨b, off + i * 7 + 2, none⟩ = some (.int .i64 (S.getD i default).l) ∧ W.cell? ⟨b, off + i * 7 + 3, none⟩ = some (.int .i64 (S.getD i default).g) ∧
      W.cell? ⟨b, off + i * 7 + 4, none⟩ = some (.int .i64 (S.getD i default).n) ∧ W.cell? ⟨b, off + i * 7 + 5, none⟩ = some (.int .u16 (S.getD i default).i) ∧ W.cell? ⟨b, off + i * 7 + 6, none⟩ = some (.int .u16 (S.getD i default).a)) ∧ (S.getD i default).ok
theorem op12Cells : Tryz.prog.cellsOf 34 = 7 := by kernel_rfl
theorem intCells12 : Tryz.prog.cellsOf 3 = 1 := by kernel_rfl
section
variable {H : Type} {enc : TypeId × Value → H} {W : World} {base : Nat} {spare : Nat → Bool} {held : Bool}
theorem ow2_cells {c0 c1 : Value} {m : Nat} {y : DataW H × List MemPlace} (ht : DataW.trod enc Tryz.prog W base (fun _ => true) held m 32 [c0, c1] = some y) : ∃ i a : Int, c0 = .int .u16 i ∧ c1 = .int .u16 a ∧ (0 ≤ i ∧ i ≤ 65535) ∧ (0 ≤ a ∧ a ≤ 65535) := by
  obtain ⟨xs, n, _, _, hlen, hxs, hf⟩ := DataW.trod_struct Tryz.underlying32 ht
  match xs, hxs with
  | [y0, y1], _ =>
    have g0 : DataW.trod enc Tryz.prog W base (fun _ => true) held n 30 [c0] = some y0 := by
      have h0 : DataW.trod enc Tryz.prog W base (fun _ => true) held n 30 (List.take (Tryz.prog.cellsOf 30) (List.drop 0 [c0, c1])) = some y0 := hf 0 _ rfl
      rw [u16Cells] at h0; exact h0
    have g1 : DataW.trod enc Tryz.prog W base (fun _ => true) held n 30 [c1] = some y1 := by
      have h0 : DataW.trod enc Tryz.prog W base (fun _ => true) held n 30 (List.take (Tryz.prog.cellsOf 30) (List.drop 1 [c0, c1])) = some y1 := hf 1 _ rfl
      rw [u16Cells] at h0; exact h0
    obtain ⟨k, e0, _, w0⟩ := DataW.trod_int Tryz.underlying30 g0
    obtain ⟨b, e1, _, w1⟩ := DataW.trod_int Tryz.underlying30 g1
    simp only [List.cons.injEq, and_true] at e0 e1
    exact ⟨k, b, e0, e1, bounds_u16 w0, bounds_u16 w1⟩
theorem ow12_open {v : Value} {d : DataW H} {p : List MemPlace} {r : Reach} {b0 : Nat} (hv : Value.okWide Tryz.prog W r b0 32 v) (h : DataW.Trod enc Tryz.prog W base (fun _ => true) held 32 v d p) : ∃ i a : Int, v = .agg #[.int .u16 i, .int .u16 a] ∧ (0 ≤ i ∧ i ≤ 65535) ∧ (0 ≤ a ∧ a ≤ 65535) := by
  obtain ⟨cs, rfl, hs⟩ := okWide_struct Tryz.underlying32 hv
  rw [owCells] at hs
  obtain ⟨fuel, hf⟩ := h
  have hl : cs.toList.length = 2 := by simpa [Value.cells] using hs
  obtain ⟨c0, c1, hcs⟩ : ∃ c0 c1, cs.toList = [c0, c1] := by
    match cs.toList, hl with
    | [c0, c1], _ => exact ⟨c0, c1, rfl⟩
  have hf' : DataW.trod enc Tryz.prog W base (fun _ => true) held fuel 32 [c0, c1] = some (d, p) := by rw [← hcs]; exact hf
  obtain ⟨i, a, rfl, rfl, h1, h2⟩ := ow2_cells hf'
  exact ⟨i, a, by rw [← Array.toArray_toList (xs := cs), hcs], h1, h2⟩
theorem op12_cells {cs : List Value} {m : Nat} {y : DataW H × List MemPlace} (hl : cs.length = 7) (ht : DataW.trod enc Tryz.prog W base (fun _ => true) held m 34 cs = some y) : ∃ o : O12, cs = o.cells ∧ o.ok := by
  obtain ⟨xs, n, _, _, hlen, hxs, hf⟩ := DataW.trod_struct Tryz.underlying34 ht
  match cs, hl with
  | [c0, c1, c2, c3, c4, c5, c6], _ =>
    match xs, hxs with
    | [y0, y1, y2, y3, y4, y5], _ =>
      have g0 : DataW.trod enc Tryz.prog W base (fun _ => true) held n 3 [c0] = some y0 := by
        have h0 : DataW.trod enc Tryz.prog W base (fun _ => true) held n 3 (List.take (Tryz.prog.cellsOf 3) (List.drop 0 [c0, c1, c2, c3, c4, c5, c6])) = some y0 := hf 0 _ rfl
        rw [intCells12] at h0; exact h0
      have g1 : DataW.trod enc Tryz.prog W base (fun _ => true) held n 3 [c1] = some y1 := by
        have h0 : DataW.trod enc Tryz.prog W base (fun _ => true) held n 3 (List.take (Tryz.prog.cellsOf 3) (List.drop 1 [c0, c1, c2, c3, c4, c5, c6])) = some y1 := hf 1 _ rfl
        rw [intCells12] at h0; exact h0
      have g2 : DataW.trod enc Tryz.prog W base (fun _ => true) held n 3 [c2] = some y2 := by
        have h0 : DataW.trod enc Tryz.prog W base (fun _ => true) held n 3 (List.take (Tryz.prog.cellsOf 3) (List.drop 2 [c0, c1, c2, c3, c4, c5, c6])) = some y2 := hf 2 _ rfl
        rw [intCells12] at h0; exact h0
      have g3 : DataW.trod enc Tryz.prog W base (fun _ => true) held n 3 [c3] = some y3 := by
        have h0 : DataW.trod enc Tryz.prog W base (fun _ => true) held n 3 (List.take (Tryz.prog.cellsOf 3) (List.drop 3 [c0, c1, c2, c3, c4, c5, c6])) = some y3 := hf 3 _ rfl
        rw [intCells12] at h0; exact h0
      have g4 : DataW.trod enc Tryz.prog W base (fun _ => true) held n 3 [c4] = some y4 := by
        have h0 : DataW.trod enc Tryz.prog W base (fun _ => true) held n 3 (List.take (Tryz.prog.cellsOf 3) (List.drop 4 [c0, c1, c2, c3, c4, c5, c6])) = some y4 := hf 4 _ rfl
        rw [intCells12] at h0; exact h0
      have g5 : DataW.trod enc Tryz.prog W base (fun _ => true) held n 32 [c5, c6] = some y5 := by
        have h0 : DataW.trod enc Tryz.prog W base (fun _ => true) held n 32 (List.take (Tryz.prog.cellsOf 32) (List.drop 5 [c0, c1, c2, c3, c4, c5, c6])) = some y5 := hf 5 _ rfl
        rw [owCells] at h0; exact h0
      obtain ⟨k, e0, _, wf0⟩ := DataW.trod_int Tryz.underlying3 g0
      obtain ⟨b, e1, _, wf1⟩ := DataW.trod_int Tryz.underlying3 g1
      obtain ⟨l, e2, _, wf2⟩ := DataW.trod_int Tryz.underlying3 g2
      obtain ⟨g, e3, _, wf3⟩ := DataW.trod_int Tryz.underlying3 g3
      obtain ⟨nn, e4, _, wf4⟩ := DataW.trod_int Tryz.underlying3 g4
      obtain ⟨i, a, e5, e6, b5, b6⟩ := ow2_cells g5
      simp only [List.cons.injEq, and_true] at e0 e1 e2 e3 e4
      subst e0 e1 e2 e3 e4 e5 e6
      exact ⟨⟨k, b, l, g, nn, i, a⟩, rfl, bounds_i64 wf1, bounds_i64 wf2, bounds_i64 wf3, bounds_i64 wf4, b5, b6⟩
theorem op12_open {v : Value} {d : DataW H} {p : List MemPlace} {r : Reach} {b0 : Nat} (hv : Value.okWide Tryz.prog W r b0 34 v) (h : DataW.Trod enc Tryz.prog W base (fun _ => true) held 34 v d p) : ∃ o : O12, v = opV12 o.k o.b o.l o.g o.n o.i o.a ∧ o.ok := by
  obtain ⟨cs, rfl, hs⟩ := okWide_struct Tryz.underlying34 hv
  rw [op12Cells] at hs
  obtain ⟨fuel, hf⟩ := h
  obtain ⟨o, e, ho⟩ := op12_cells (by simpa [Value.cells] using hs) hf
  have e' : cs.toList = o.cells := e
  have e2 : cs = #[.int .i64 o.k, .int .i64 o.b, .int .i64 o.l, .int .i64 o.g, .int .i64 o.n, .int .u16 o.i, .int .u16 o.a] := by
    rw [← Array.toArray_toList (xs := cs), e']; rfl
  exact ⟨o, by rw [e2]; rfl, ho⟩
theorem ops12_open {v : Value} {d : DataW H} {p : List MemPlace} {r : Reach} {b0 : Nat} (hv : Value.okWide Tryz.prog W r b0 22 v) (h : DataW.Trod enc Tryz.prog W base (fun _ => true) held 22 v d p) : ∃ S, OpsT W v S := by
  obtain ⟨a0, len0, cap0, rfl⟩ := okWide_slice Tryz.underlying22 hv
  obtain ⟨fuel, hf⟩ := h
  rcases Go.Deep.open_slice Tryz.underlying22 hf with ⟨hcs, _⟩ | ⟨a, len, cap, m, n, D, Pl, hcs, _, hl, hm, hmm, _, hi⟩
  · simp [Value.cells] at hcs
    obtain ⟨rfl, rfl, rfl⟩ := hcs
    exact ⟨[], .inl ⟨_, _, rfl, rfl⟩⟩
  · simp [Value.cells] at hcs
    obtain ⟨rfl, rfl, rfl⟩ := hcs
    have hlm : len0 ≤ m := by rw [hmm]; split <;> omega
    have hex : ∀ i, i < len0 → ∃ o : O12, (W.cell? (a.add (i * 7)) = some (.int .i64 o.k) ∧ W.cell? (a.add (i * 7 + 1)) = some (.int .i64 o.b) ∧ W.cell? (a.add (i * 7 + 2)) = some (.int .i64 o.l) ∧ W.cell? (a.add (i * 7 + 3)) = some (.int .i64 o.g) ∧ W.cell? (a.add (i * 7 + 4)) = some (.int .i64 o.n) ∧ W.cell? (a.add (i * 7 + 5)) = some (.int .u16 o.i) ∧ W.cell? (a.add (i * 7 + 6)) = some (.int .u16 o.a)) ∧ o.ok := fun i hi2 => by
      obtain ⟨cs', hc, ht⟩ := hi i (by omega)
      rw [op12Cells] at hc
      obtain ⟨_, hcl, hat⟩ := World.cells?_some hc
      obtain ⟨o, rfl, ho⟩ := op12_cells hcl ht
      have a0 := hat 0 (by omega)
      have a1 := hat 1 (by omega)
      have a2 := hat 2 (by omega)
      have a3 := hat 3 (by omega)
      have a4 := hat 4 (by omega)
      have a5 := hat 5 (by omega)
      have a6 := hat 6 (by omega)
      simp only [O12.cells, Go.Deep.add_add, List.getElem?_cons_zero, List.getElem?_cons_succ, Nat.add_zero] at a0 a1 a2 a3 a4 a5 a6
      exact ⟨o, ⟨a0, a1, a2, a3, a4, a5, a6⟩, ho⟩
    obtain ⟨f, hfn⟩ := Go.Deep.choose_lt hex
    by_cases h0 : len0 = 0
    · exact ⟨[], .inl ⟨_, _, by rw [h0], rfl⟩⟩
    refine ⟨(List.range len0).map f, .inr ?_⟩
    obtain ⟨b, off, spot⟩ := a
    have hsp : spot = none := by
      obtain ⟨⟨z0, _⟩, _⟩ := hfn 0 (by omega)
      simpa [Addr.add] using World.cell?_spot z0
    subst hsp
    refine ⟨b, off, cap0, by simp, fun i hi2 => ?_⟩
    have hi3 : i < len0 := by simpa using hi2
    have hget : ((List.range len0).map f).getD i default = f i := by simp [List.getD_eq_getElem?_getD, hi3]
    rw [hget]
    obtain ⟨⟨c0, c1, c2, c3, c4, c5, c6⟩, r⟩ := hfn i hi3
    simp only [Addr.add_lit] at c0 c1 c2 c3 c4 c5 c6
    exact ⟨block_lt_of_cell c0, ⟨c0, by rw [Nat.add_assoc]; exact c1, by rw [Nat.add_assoc]; exact c2, by rw [Nat.add_assoc]; exact c3, by rw [Nat.add_assoc]; exact c4, by rw [Nat.add_assoc]; exact c5, by rw [Nat.add_assoc]; exact c6⟩, r⟩
end
end Go.Proofs.YtkbeencjklgcnaaGreat

/- Calls of layer 12 that change something, on both sides. -/
namespace Go.Proofs.YtkbeencjklgcnaaGreat
set_option maxRecDepth 100000
open Go.RowKit
set_option linter.unusedVariables false

/-- What the landed call hands back within a call, and what the reference's then does. -/
structure Both (O O2 : List (Int × Int)) (kk : Nat) (F Fr : FuncId) (xs : List Value) (e : Ending) : Prop where
  land : ∀ {w0 w P M d p r X n}, Mid w0 w P M d p r (callX X) n O O kk → RSp w M r n O → Calls Tryz.prog F (p :: xs).toArray w fun e' w' => e' = e ∧ ∃ P' X', Mid w0 w' P' M d p r X' n O O2 kk ∧ RSp w' M r n O ∧ Chg (PM P M) (PM P' M) w w'
  refe : ∀ {w0 w P M d p r X n}, Mid w0 w P M d p r X n O O2 kk → RSp w M r n O → Calls Tryz.prog Fr (r :: xs).toArray w fun e' w' => e' = e ∧ Mid w0 w' P M d p r X n O O2 kk ∧ RSp w' M r n O2 ∧ Chg (PM P M) (PM P M) w w'
theorem callX_cur {X : XSt} {O : List (Int × Int)} {kk : Nat} (h : Has (callX X).call O kk) : Has (callX X).cur O kk := h
section
variable {O : List (Int × Int)} {kk : Nat}
theorem bothLow {F Fr : FuncId} {xs : List Value} {e : Ending} (h1 : ∀ {w0 w P M d p r X n}, Mid w0 w P M d p r (callX X) n O O kk → Calls Tryz.prog F (p :: xs).toArray w fun e' w' => e' = e ∧ Below w.heap.size w w')
    (h2 : ∀ {w M r n}, RSp w M r n O → Calls Tryz.prog Fr (r :: xs).toArray w fun e' w' => e' = e ∧ Below w.heap.size w w') : Both O O kk F Fr xs e :=
  ⟨fun hm hs => (h1 hm).mono fun e' w' ⟨he, hb⟩ => ⟨he, _, _, hm.low hb, hs.below hb, Chg.of_below hb⟩, fun hm hs => (h2 hs).mono fun e' w' ⟨he, hb⟩ => ⟨he, hm.low hb, hs.below hb, Chg.of_below hb⟩⟩
theorem bothPut {F Fr : FuncId} {xs : List Value} {e : Ending} {f : Nat} {o : Int × Int} (hf : f < 64 * kk)
    (h1 : ∀ {w0 w P M d p r X n}, Mid w0 w P M d p r (callX X) n O O kk → Calls Tryz.prog F (p :: xs).toArray w fun e' w' => e' = e ∧ ∃ P', SInv w' P' d p (putX (callX X) (f / 64) (grO (O.set f o) (f / 64))) ∧ Chg P P' w w')
    (h2 : ∀ {w M r n}, RSp w M r n O → Calls Tryz.prog Fr (r :: xs).toArray w fun e' w' => e' = e ∧ RSp w' M r n (O.set f o) ∧ Chg M M w w') : Both O (O.set f o) kk F Fr xs e :=
  ⟨fun hm hs => (h1 hm).mono fun e' w' ⟨he, P', hi, hc⟩ => by
      obtain ⟨a, b⟩ := hm.put hi hc rfl rfl rfl (hm.has2.put hf o) hs
      exact ⟨he, P', _, a, b, hc.pm _⟩,
    fun hm hs => (h2 hs).mono fun e' w' ⟨he, hs', hc⟩ => ⟨he, hm.ref hc, hs', hc.mp _⟩⟩
theorem take_bad {b l g i j : Int} (hb : b ≤ 9223372036854775807) (hl : l ≤ 9223372036854775807) (hi : 0 ≤ i ∧ i ≤ 65535) (hj : 0 ≤ j ∧ j ≤ 65535) (hno : takeNo b l i j) :
    Both O O kk 15 16 [.int .i64 b, .int .i64 l, .int .i64 g, .agg #[.int .u16 i, .int .u16 j]] (.returned (.tuple #[.int .i64 0, .int .i64 1])) :=
  bothLow (fun hm => spTake_no hb hl hi hj hno _ _) (fun hs => rSpTake_no hb hl hi hj hno _ _)
theorem take_full12 (hO : OOk O kk) {a m : Nat} (hm1 : 1 ≤ m) (hma : m ≤ a) (hak : a ≤ kk) (g : Int) {i j : Int} (hi : 0 ≤ i ∧ i ≤ 65535) (hj : 0 ≤ j ∧ j ≤ 65535) (hf : frmO i j = true) (h0 : i ≠ 0) (h6 : i ≠ 65535) (hc : 62 * (m : Int) - 42 ≤ cntU O (64 * a)) :
    Both O O kk 15 16 [.int .i64 (64 * (a : Int)), .int .i64 (64 * (m : Int)), .int .i64 g, .agg #[.int .u16 i, .int .u16 j]] (.returned (.tuple #[.int .i64 0, .int .i64 13])) :=
  bothLow (fun hm => spTake_full hm.inv (callX_cur hm.has2) hO hm1 hma hak g hi hj hf h0 h6 hc) (fun hs => rSpTake_full hs hO hm1 hma hak g hi hj hf h0 h6 hc)
theorem take_yes12 (hO : OOk O kk) {a m : Nat} (hm1 : 1 ≤ m) (hma : m ≤ a) (hak : a ≤ kk) (g : Int) {i j : Int} (hi : 0 ≤ i ∧ i ≤ 65535) (hj : 0 ≤ j ∧ j ≤ 65535) (hf : frmO i j = true) (h0 : i ≠ 0) (h6 : i ≠ 65535) {f : Nat}
    (hc : (cntU O (64 * a) : Int) < 62 * (m : Int) - 42) (hfm : f < 64 * m) (hfs : findS O (64 * m) (goalS (64 * m) g) = f) (hfx : fixB (f : Int) = false) :
    Both O (O.set f (i, j)) kk 15 16 [.int .i64 (64 * (a : Int)), .int .i64 (64 * (m : Int)), .int .i64 g, .agg #[.int .u16 i, .int .u16 j]] (.returned (.tuple #[.int .i64 f, .int .i64 0])) :=
  bothPut (by omega) (fun hm => spTake_yes hm.inv rfl rfl hm.has2 hO hm1 hma hak g hi hj hf h0 h6 hc hfm hfs hfx) (fun hs => rSpTake_yes hs hO hm1 hma hak g hi hj hf h0 h6 hc hfm hfs)
/-- Whatever Take is asked. -/
theorem take12 (hO : OOk O kk) {b l g i j : Int} (hb : b ≤ 64 * (kk : Int)) (hl : l ≤ 64 * (kk : Int)) (hi : 0 ≤ i ∧ i ≤ 65535) (hj : 0 ≤ j ∧ j ≤ 65535) :
    ∃ (x E : Int) (O2 : List (Int × Int)), OOk O2 kk ∧ (E = 0 ∨ (E ≠ 0 ∧ O2 = O)) ∧ Both O O2 kk 15 16 [.int .i64 b, .int .i64 l, .int .i64 g, .agg #[.int .u16 i, .int .u16 j]] (.returned (.tuple #[.int .i64 x, .int .i64 E])) := by
  have h12 := hO.k12
  by_cases hno : takeNo b l i j
  · exact ⟨0, 1, O, hO, .inr ⟨by decide, rfl⟩, take_bad (by omega) (by omega) hi hj hno⟩
  · have h1 : frmB b = true := by cases h : frmB b; · exact absurd (.inl h) hno
                                  · rfl
    have h2 : frmB l = true := by cases h : frmB l; · exact absurd (.inr (.inl h)) hno
                                  · rfl
    have h3 : ¬ b < l := fun h => hno (.inr (.inr (.inl h)))
    have h4 : frmO i j = true := by cases h : frmO i j; · exact absurd (.inr (.inr (.inr (.inl h)))) hno
                                    · rfl
    have h5 : i ≠ 0 := fun h => hno (.inr (.inr (.inr (.inr (.inl h)))))
    have h6 : i ≠ 65535 := fun h => hno (.inr (.inr (.inr (.inr (.inr h)))))
    obtain ⟨a, a1, _, rfl⟩ := frm_yes h1
    obtain ⟨m, m1, _, rfl⟩ := frm_yes h2
    by_cases hc : 62 * (m : Int) - 42 ≤ cntU O (64 * a)
    · exact ⟨0, 13, O, hO, .inr ⟨by decide, rfl⟩, take_full12 hO m1 (by omega) (by omega) g hi hj h4 h5 h6 hc⟩
    · have hmono := cntU_mono O (show 64 * m ≤ 64 * a by omega)
      obtain ⟨f, f1, f2, f3, f4⟩ := find_free hO m1 (by omega) (g := goalS (64 * m) g) (by unfold goalS; split <;> omega) (by omega)
      exact ⟨f, 0, _, hO.set (by omega) f4 hi hj h4 h6, .inl rfl, take_yes12 hO m1 (by omega) (by omega) g hi hj h4 h5 h6 (by omega) f1 f2 f4⟩
theorem open_no {n : Int} (h : openN n = false) : n < 0 ∨ 768 ≤ n ∨ fixB n = true := by
  unfold openN at h
  by_cases h1 : 0 ≤ n ∧ n < 768
  · rw [decide_eq_true h1] at h
    exact .inr (.inr (by simpa using h))
  · omega
theorem open_yes {n : Int} (h : openN n = true) : 0 ≤ n ∧ n < 768 ∧ fixB n = false := by
  unfold openN at h
  rw [Bool.and_eq_true, decide_eq_true_eq, Bool.not_eq_true'] at h
  exact ⟨h.1.1, h.1.2, h.2⟩
theorem give12 (hO : OOk O kk) {n : Int} (hn : in64 n) (hk : n ≤ 64 * (kk : Int) - 1) :
    ∃ (E : Int) (O2 : List (Int × Int)), OOk O2 kk ∧ (E = 0 ∨ (E ≠ 0 ∧ O2 = O)) ∧ Both O O2 kk 23 30 [.int .i64 n] (.returned (.int .i64 E)) := by
  have hl := hO.len
  have h1 := hO.k1
  have h12 := hO.k12
  cases ho : openN n
  · refine ⟨1, O, hO, .inr ⟨by decide, rfl⟩, bothLow (fun hm => (spGive_far hn.2 ho _ _).mono fun e w' ⟨he, hw⟩ => ⟨he, by rw [← hw]; exact Below.refl _ _⟩) (fun hs => (rSpGive_no hs (by omega) (by omega) hn ?_).mono fun e w' ⟨he, hw⟩ => ⟨he, by rw [← hw]; exact Below.refl _ _⟩)⟩
    rcases open_no ho with h | h | h
    · exact .inl h
    · omega
    · exact .inr (.inr (.inl h))
  · obtain ⟨p1, p2, p3⟩ := open_yes ho
    obtain ⟨m, rfl⟩ : ∃ m : Nat, n = m := ⟨n.toNat, by omega⟩
    cases hf : freeJ O m
    · exact ⟨0, _, hO.set (by omega) p3 (by decide) (by decide) (by decide) (by decide), .inl rfl, bothPut (by omega) (fun hm => spGive_yes hm.inv rfl rfl hm.has2 hO (by omega) p3 hf) (fun hs => rSpGive_yes hs (by omega) (by omega) p3 hf)⟩
    · exact ⟨1, O, hO, .inr ⟨by decide, rfl⟩, bothLow (fun hm => spGive_free hm.inv (callX_cur hm.has2) hO (by omega) hf) (fun hs => (rSpGive_no hs (by omega) (by omega) hn (.inr (.inr (.inr (by rw [Int.toNat_natCast]; exact hf))))).mono fun e w' ⟨he, hw⟩ => ⟨he, by rw [← hw]; exact Below.refl _ _⟩)⟩
theorem set12 (hO : OOk O kk) {n i j : Int} (hn : in64 n) (hk : n ≤ 64 * (kk : Int) - 1) (hi : 0 ≤ i ∧ i ≤ 65535) (hj : 0 ≤ j ∧ j ≤ 65535) :
    ∃ (E : Int) (O2 : List (Int × Int)), OOk O2 kk ∧ (E = 0 ∨ (E ≠ 0 ∧ O2 = O)) ∧ Both O O2 kk 22 31 [.int .i64 n, .agg #[.int .u16 i, .int .u16 j]] (.returned (.int .i64 E)) := by
  have hl := hO.len
  have h1 := hO.k1
  have h12 := hO.k12
  by_cases hno : openN n = false ∨ frmO i j = false ∨ i = 65535
  · refine ⟨1, O, hO, .inr ⟨by decide, rfl⟩, bothLow (fun hm => spSet_no hn.2 hi hj hno _ _) (fun hs => rSpSet_no hs (by omega) (by omega) hn hi hj ?_)⟩
    rcases hno with h | h | h
    · rcases open_no h with h | h | h
      · exact .inl h
      · omega
      · exact .inr (.inr (.inl h))
    · exact .inr (.inr (.inr (.inl h)))
    · exact .inr (.inr (.inr (.inr h)))
  · have ho : openN n = true := by cases h : openN n; · exact absurd (.inl h) hno
                                   · rfl
    have hf : frmO i j = true := by cases h : frmO i j; · exact absurd (.inr (.inl h)) hno
                                    · rfl
    have h6 : i ≠ 65535 := fun h => hno (.inr (.inr h))
    obtain ⟨p1, p2, p3⟩ := open_yes ho
    obtain ⟨m, rfl⟩ : ∃ m : Nat, n = m := ⟨n.toNat, by omega⟩
    exact ⟨0, _, hO.set (by omega) p3 hi hj hf h6, .inl rfl, bothPut (by omega) (fun hm => spSet_yes hm.inv rfl rfl hm.has2 hO (by omega) p3 hi hj hf h6) (fun hs => rSpSet_yes hs (by omega) (by omega) p3 hi hj hf h6)⟩
end
end Go.Proofs.YtkbeencjklgcnaaGreat

/- The law SpaceFills: just as many blocks can be taken as there is room for. -/
namespace Go.Proofs.YtkbeencjklgcnaaGreat
set_option maxRecDepth 100000
open Go.RowKit
set_option linter.unusedVariables false

theorem cntU_set_lt (O : List (Int × Int)) (f : Nat) (o : Int × Int) : ∀ L, L ≤ f → cntU (O.set f o) L = cntU O L
  | 0, _ => rfl
  | L + 1, h => by
    have ih := cntU_set_lt O f o L (by omega)
    have e : freeJ (O.set f o) L = freeJ O L := by unfold freeJ; rw [List.getD_eq_getElem?_getD, List.getElem?_set_ne (by omega), ← List.getD_eq_getElem?_getD]
    unfold cntU
    rw [ih, e]
/-- A free open block more is used. -/
theorem cntU_set {O : List (Int × Int)} {f : Nat} {i j : Int} (hfl : f < O.length) (hf : freeJ O f = true) (hx : fixB (f : Int) = false) (h0 : i ≠ 0) : ∀ L, f < L → cntU (O.set f (i, j)) L = cntU O L + 1
  | 0, h => absurd h (Nat.not_lt_zero _)
  | L + 1, h => by
    by_cases e : L = f
    · subst e
      have h1 := cntU_set_lt O L (i, j) L (Nat.le_refl _)
      have h2 : freeJ (O.set L (i, j)) L = false := by unfold freeJ; rw [BM.getD_set _ _ _ _ _ hfl, if_pos rfl]; exact decide_eq_false h0
      unfold cntU
      rw [h1, h2, hf, hx]; simp
    · have ih := cntU_set (j := j) hfl hf hx h0 L (by omega)
      have h2 : freeJ (O.set f (i, j)) L = freeJ O L := by unfold freeJ; rw [List.getD_eq_getElem?_getD, List.getElem?_set_ne (by omega), ← List.getD_eq_getElem?_getD]
      unfold cntU
      rw [ih, h2]; omega
theorem cnt_new : ∀ kk, kk < 5 → 1 ≤ kk → cntU (newO kk) (64 * kk) = 6 := by decide +kernel
/-- The reference's Used, outside a call. -/
theorem Side.used {w0 w : World} {P M : Nat → Prop} {d p r : Value} {X : XSt} {n : Int} {O : List (Int × Int)} {kk : Nat} (h : Side w0 w P M d p r X n O kk) :
    Calls Tryz.prog 18 #[p, .int .i64 (64 * (kk : Int))] w (fun e w' => e = .returned (.tuple #[.int .i64 (cntU O (64 * kk)), .int .i64 0]) ∧ Below w.heap.size w w') ∧
      ∀ W, Below w.heap.size w W → Calls Tryz.prog 19 #[r, .int .i64 (64 * (kk : Int))] W fun e w' => e = .returned (.tuple #[.int .i64 (cntU O (64 * kk)), .int .i64 0]) ∧ W = w' := by
  have hcur : Has X.cur O kk := by unfold XSt.cur; rw [h.wi]; exact h.has
  have h1 := h.ok.k1
  have h12 := h.ok.k12
  have hl := h.ok.len
  refine ⟨spUsed_yes h.inv hcur h.ok h1 (Nat.le_refl _), fun W hb => ?_⟩
  have := rSpUsed_yes (h.sp.below hb) (L := 64 * kk) (by rw [show ((64 * kk : Nat) : Int) = 64 * (kk : Int) by omega]; exact frm_mk kk h1 h12) (by omega) (by omega) (by omega)
  rw [show ((64 * kk : Nat) : Int) = 64 * (kk : Int) by omega] at this
  exact this
/-- A law's start: a new file system, and a Space of the reference's. -/
theorem start12 {kk : Nat} (h1 : 1 ≤ kk) (h2 : kk ≤ 12) (w0 : World) : ∀ {w : World}, Below w0.heap.size w0 w → Calls Tryz.prog 9 #[.int .i64 (64 * (kk : Int)), .int .i64 (64 * (kk : Int))] w fun e w' => ∃ b, e = .returned (.pointer (some ⟨b, 0, none⟩)) ∧ Below w0.heap.size w0 w' ∧
    ∀ {W : World}, Below w'.heap.size w' W → Calls Tryz.prog 10 #[.int .i64 (64 * (kk : Int))] W fun e w'' => ∃ br P M d X, e = .returned (.pointer (some ⟨br, 0, none⟩)) ∧ Side w0 w'' P M d (.pointer (some ⟨b, 0, none⟩)) (.pointer (some ⟨br, 0, none⟩)) X (64 * (kk : Int)) (newO kk) kk := fun {w} hb => by
  refine (laid12_is h1 h2 w).mono fun e w' ⟨b, P, d, G, ds, he, hI, hfu, hH, hP, hb1⟩ => ⟨b, he, hb.trans (hb1.mono hb.size), fun {W} hbW => ?_⟩
  refine (rSpNew_at h1 h2 W).mono fun e w'' ⟨br, g, cap, M, he2, hR, _, _, _, hM, _, _, _, _, hb2⟩ => ?_
  have hs := hb.size
  have hs1 := hb1.size
  have hsW := hbW.size
  have hlt := hI.lt
  have hI2 := (hI.low hbW).low hb2
  refine ⟨br, P, M, d, _, he2, ⟨hI2, rfl, hfu, hH, newO_ok h1 h2, hR, fun x hx => by have := hP x hx; omega, fun x hx => by have := hM x hx; omega, fun x hm hp => by have := hM x hm; have := hlt x hp; omega, ?_⟩⟩
  exact ((hb.trans (hb1.mono hs)).trans (hbW.mono (by omega))).trans (hb2.mono (by omega))
/-- Not such an owner: the law says what awake says. -/
theorem lSpF_no {w : World} (gr li goal : Int) {i j : Int} (hi : 0 ≤ i ∧ i ≤ 65535) (hj : 0 ≤ j ∧ j ≤ 65535) (hno : frmO i j = false ∨ i = 0 ∨ i = 65535) : Calls Tryz.prog 4 #[.int .u8 gr, .int .u8 li, .int .i64 goal, .agg #[.int .u16 i, .int .u16 j]] w fun e w' => e = .returned (.bool true) ∧ Below w.heap.size w w' := by
  have KA := Lib.hid awake12_any
  have KA1 := Lib.hid (awake12_any (w.alloc (.cells #[.int .u16 i, .int .u16 j] 32)))
  have HB1 := Lib.hid (below_box w (.cells #[.int .u16 i, .int .u16 j] 32))
  have HR := Lib.hid (fun (W : World) (hb : Below (w.alloc (.cells #[.int .u16 i, .int .u16 j] 32)).heap.size (w.alloc (.cells #[.int .u16 i, .int .u16 j] 32)) W) => show W.cell? ⟨w.heap.size, 0, none⟩ = some (.int .u16 i) ∧ W.cell? ⟨w.heap.size, 1, none⟩ = some (.int .u16 j) from ⟨cell_of_row _ _ _ _ _ _ (below_hold (heap_alloc_new w _) hb), cell_of_row _ _ _ _ _ _ (below_hold (heap_alloc_new w _) hb)⟩)
  cases hf : frmO i j
  · have KF := Lib.hid (rrForm_is i j hi hj false hf)
    clear hno hf
    go_enter Tryz.func4, Tryz.ntmps4
    go_wp2_with (first
      | (go_at_call 7; (with_reducible refine KA1.out.mono ?_); rintro e w2 ⟨rfl, hb2⟩; obtain ⟨x0, x1⟩ := HR.out _ hb2)
      | (go_at_call 13; refine (KF.out _).mono ?_; rintro e w3 ⟨rfl, hb3⟩; have hb13 := hb2.trans (hb3.mono hb2.size); obtain ⟨y0, y1⟩ := HR.out _ hb13)
      | (go_at_call 7; refine (KA.out _).mono ?_; rintro e w4 ⟨rfl, hb4⟩))
    go_ret
    exact ⟨rfl, (HB1.out.trans (hb13.mono HB1.out.size)).trans (hb4.mono (Nat.le_trans HB1.out.size hb13.size))⟩
  · have KF := Lib.hid (rrForm_is i j hi hj true hf)
    have hor : i = 0 ∨ i = 65535 := hno.resolve_left (by rw [hf]; decide)
    clear hno hf
    rcases hor with rfl | rfl
    all_goals
      go_enter Tryz.func4, Tryz.ntmps4
      go_wp2_with (first
        | (go_at_call 7; (with_reducible refine KA1.out.mono ?_); rintro e w2 ⟨rfl, hb2⟩; obtain ⟨x0, x1⟩ := HR.out _ hb2)
        | (go_at_call 13; refine (KF.out _).mono ?_; rintro e w3 ⟨rfl, hb3⟩; have hb13 := hb2.trans (hb3.mono hb2.size); obtain ⟨y0, y1⟩ := HR.out _ hb13)
        | (go_at_call 7; refine (KA.out _).mono ?_; rintro e w4 ⟨rfl, hb4⟩))
      go_ret
      exact ⟨rfl, (HB1.out.trans (hb13.mono HB1.out.size)).trans (hb4.mono (Nat.le_trans HB1.out.size hb13.size))⟩
end Go.Proofs.YtkbeencjklgcnaaGreat

/- Whose block it is, on both sides, between the calls. -/
namespace Go.Proofs.YtkbeencjklgcnaaGreat
set_option maxRecDepth 100000
open Go.RowKit
set_option linter.unusedVariables false

section
variable {w0 w : World} {P M : Nat → Prop} {d p r : Value} {b br : Nat} {X : XSt} {n : Int} {O : List (Int × Int)} {kk : Nat}
theorem Side.low (h : Side w0 w P M d p r X n O kk) {w' : World} (hb : Below w.heap.size w w') : Side w0 w' P M d p r X n O kk :=
  { h with inv := h.inv.low hb, sp := h.sp.below hb, be := h.be.trans (hb.mono h.be.size) }
/-- Whose block j is, on both sides. -/
theorem Side.owner (h : Side w0 w P M d p (.pointer (some ⟨br, 0, none⟩)) X n O kk) {j : Nat} (hj : j < 64 * kk) : ∃ u v : Int, Calls Tryz.prog 12 #[p, .int .i64 j] w (fun e w' => e = .returned (.tuple #[.agg #[.int .u16 u, .int .u16 v], .int .i64 0]) ∧ Below w.heap.size w w') ∧
    ∀ W, Below w.heap.size w W → ∃ g cap, W.cell? ⟨br, 1, none⟩ = some (.slice (some ⟨g, 0, none⟩) (64 * kk) cap) ∧ W.cell? ⟨g, j * 2, none⟩ = some (.int .u16 u) ∧ W.cell? ⟨g, j * 2 + 1, none⟩ = some (.int .u16 v) := by
  have hcur : Has X.cur O kk := by unfold XSt.cur; rw [h.wi]; exact h.has
  have hlen := h.ok.len
  refine ⟨_, _, spOwner_yes h.inv hcur h.ok hj, fun W hb => ?_⟩
  obtain ⟨g, cap, cur, r1, r2, r3, r4, r5, r6, r7, r8⟩ := (h.sp.below hb).all (by omega)
  exact ⟨g, cap, by rw [cell_of_row _ _ _ _ _ _ r1, hlen]; rfl, r8 j (by omega)⟩
end
end Go.Proofs.YtkbeencjklgcnaaGreat

/- For the law SpaceBack: the store's owners change, the reference's Space does not. -/
namespace Go.Proofs.YtkbeencjklgcnaaGreat
set_option maxRecDepth 100000
open Go.RowKit
set_option linter.unusedVariables false

/-- Owners, o where a block is taken. -/
def bck (O0 : List (Int × Int)) (l : List Nat) (o : Int × Int) : List (Int × Int) := (List.range O0.length).map fun j => if j ∈ l then o else O0.getD j (0, 0)
theorem bck_length (O0 : List (Int × Int)) (l : List Nat) (o : Int × Int) : (bck O0 l o).length = O0.length := by simp [bck]
theorem bck_getD (O0 : List (Int × Int)) (l : List Nat) (o : Int × Int) {j : Nat} (h : j < O0.length) : (bck O0 l o).getD j (0, 0) = if j ∈ l then o else O0.getD j (0, 0) := by
  simp [bck, List.getD_eq_getElem?_getD, h]
theorem ext_getD {A B : List (Int × Int)} (hl : A.length = B.length) (h : ∀ j, j < A.length → A.getD j (0, 0) = B.getD j (0, 0)) : A = B := by
  apply List.ext_getElem hl
  intro j h1 h2
  have := h j h1
  rw [List.getD_eq_getElem?_getD, List.getD_eq_getElem?_getD, List.getElem?_eq_getElem h1, List.getElem?_eq_getElem h2] at this
  exact this
theorem bck_nil (O0 : List (Int × Int)) (o : Int × Int) : bck O0 [] o = O0 := by
  refine ext_getD (bck_length _ _ _) fun j hj => ?_
  rw [bck_length] at hj
  rw [bck_getD _ _ _ hj, if_neg List.not_mem_nil]
theorem bck_put (O0 : List (Int × Int)) (l : List Nat) (o : Int × Int) {f : Nat} (hf : f < O0.length) : (bck O0 l o).set f o = bck O0 (l ++ [f]) o := by
  refine ext_getD (by rw [List.length_set, bck_length, bck_length]) fun j hj => ?_
  rw [List.length_set, bck_length] at hj
  rw [BM.getD_set _ _ _ _ _ (by rw [bck_length]; exact hf), bck_getD _ _ _ hj, bck_getD _ _ _ hj]
  by_cases e : j = f
  · rw [if_pos e, if_pos (by rw [e]; simp)]
  · rw [if_neg e]
    by_cases hm : j ∈ l
    · rw [if_pos hm, if_pos (by simp [hm])]
    · rw [if_neg hm, if_neg (by simp [hm, e])]
theorem bck_give (O0 : List (Int × Int)) (l : List Nat) (o : Int × Int) {f : Nat} (hf : f < O0.length) (hn : f ∉ l) (h0 : O0.getD f (0, 0) = (0, 0)) : (bck O0 (f :: l) o).set f (0, 0) = bck O0 l o := by
  refine ext_getD (by rw [List.length_set, bck_length, bck_length]) fun j hj => ?_
  rw [List.length_set, bck_length] at hj
  rw [BM.getD_set _ _ _ _ _ (by rw [bck_length]; exact hf), bck_getD _ _ _ hj, bck_getD _ _ _ hj]
  by_cases e : j = f
  · rw [if_pos e, e, if_neg hn, h0]
  · rw [if_neg e]
    by_cases hm : j ∈ l
    · rw [if_pos (by simp [hm]), if_pos hm]
    · rw [if_neg (by simp [hm, e]), if_neg hm]
/-- What was taken: each once, free at the start. -/
structure Tkn (O0 : List (Int × Int)) (l : List Nat) : Prop where
  nd : l.Nodup
  lt : ∀ f ∈ l, f < O0.length
  fr : ∀ f ∈ l, freeJ O0 f = true
theorem free_zero {O : List (Int × Int)} {kk f : Nat} (h : OOk O kk) (hf : f < 64 * kk) (hr : freeJ O f = true) : O.getD f (0, 0) = (0, 0) ∧ fixB (f : Int) = false := by
  have h1 : (O.getD f (0, 0)).1 = 0 := of_decide_eq_true hr
  have h2 := h.frm f hf
  unfold frmJ at h2
  rw [h1] at h2
  have h3 := h.fx f hf
  rw [h1] at h3
  exact ⟨Prod.ext h1 (frm_zero h2), h3.symm.trans (by decide)⟩
/-- append(l, x) onto numbers of one's own: nothing else turns. -/
theorem wpList_append_intg (w1 : World) (x : Int) {ops : Array Oper} {rest : List Oper} {o : Oper} {a : Act} {Q : Exit → Act → World → Prop} (hgd : o.guard = none) (s y : Operand)
    (ho : o.op = .call { callee := .builtin .append, args := #[s, y], argTypes := #[55, 55] })
    (v : Value) (l : List Int) (hs : a.eval s = v) (hown : IR w1 0 v l) (hO : l.length ≤ 1000000) (hy : a.eval y = .slice (some ⟨w1.heap.size, 0, none⟩) 1 1)
    (h : ∀ g cap w', IR w' 0 (.slice (some ⟨g, 0, none⟩) (l.length + 1) cap) (l ++ [x]) → (w1.alloc (.cells #[.int .i64 x] 3)).grownBy w' v.ownBlock → (v.ownBlock = some g ∨ w1.heap.size ≤ g) → wpList Tryz.prog ops Q rest (a.put o.dst (.slice (some ⟨g, 0, none⟩) (l.length + 1) cap)) w') : wpList Tryz.prog ops Q (o :: rest) a (w1.alloc (.cells #[.int .i64 x] 3)) := by
  obtain ⟨t, h2, h3, h4, h5⟩ := info_parts infoI64
  have hbel : Below w1.heap.size w1 (w1.alloc (.cells #[.int .i64 x] 3)) := below_box _ _
  have hnew : (w1.alloc (.cells #[.int .i64 x] 3)).heap[w1.heap.size]? = some (.cells #[.int .i64 x] 3 (0, 0)) := heap_alloc_new w1 _
  have hf := hown.below hbel
  refine wpList_append_lies _ hgd s y 55 ho 0 3 t _ 1 8 Tryz.underlying55 h2 h3 h4 h5 rfl (by decide) v l.length _ hs hf ⟨w1.heap.size, 0, none⟩ 1 1 [.int .i64 x] hy rfl ?_ ?_ (by decide) (by simp only [maxLen]; omega) (by omega) (Nat.zero_le _) (w1.heap.size + 1) (by simp) fun g cap w' h6 h7 h8 _ => ?_
  · intro m u hm
    have hm2 : m < 1 := by simpa using (List.getElem?_eq_some_iff.1 hm).1
    obtain rfl : m = 0 := by omega
    rw [Addr.add_lit, Nat.zero_add, cell_of_row _ _ _ _ _ _ hnew, ← hm]; rfl
  · intro u hu
    simp at hu
    subst hu; rfl
  · refine h g cap w' ?_ h7 (h8.imp id fun e => by omega)
    have e : iC (l ++ [x]) = iC l ++ [.int .i64 x] := by simp [iC]
    show w'.ownsRow 0 3 1 _ (l ++ [x]).length (iC (l ++ [x]))
    rw [e, List.length_append]; exact h6
/-- Store (between the calls), reference and the list l, side by side. -/
structure Bk (w0 w : World) (P M : Nat → Prop) (d p r : Value) (X : XSt) (n : Int) (O0 O : List (Int × Int)) (kk : Nat) (vl : Value) (l : List Int) : Prop where
  inv : SInv w P d p X
  wi : X.wi = false
  fu : X.ds.fu = false
  has : Has X.is O kk
  ok : OOk O kk
  sp : RSp w M r n O0
  pN : ∀ x, P x → w0.heap.size ≤ x
  mN : ∀ x, M x → w0.heap.size ≤ x
  ap : ∀ x, M x → ¬ P x
  be : Below w0.heap.size w0 w
  ir : IR w 0 vl l
  ia : ∀ g, vl.ownBlock = some g → ¬ PM P M g ∧ w0.heap.size ≤ g
section
variable {w0 w : World} {P M : Nat → Prop} {d p r : Value} {X : XSt} {n : Int} {O0 O O2 : List (Int × Int)} {kk : Nat} {vl : Value} {l : List Int}
/-- Within a call. -/
structure Bm (w0 w : World) (P M : Nat → Prop) (d p r : Value) (X : XSt) (n : Int) (O0 O O2 : List (Int × Int)) (kk : Nat) (vl : Value) (l : List Int) : Prop where
  mid : Mid w0 w P M d p r X n O O2 kk
  sp : RSp w M r n O0
  ir : IR w 0 vl l
  ia : ∀ g, vl.ownBlock = some g → ¬ PM P M g ∧ w0.heap.size ≤ g
theorem IR.chg {P P' : Nat → Prop} {w' : World} (h : IR w 0 vl l) (hc : Chg P P' w w') (ha : ∀ g, vl.ownBlock = some g → ¬ P g) : IR w' 0 vl l ∧ ∀ g, vl.ownBlock = some g → ¬ P' g :=
  ⟨ownsRow_keep h fun g hg => (hc.keep g (World.ownsRow.lt h g hg).2 (ha g hg)).1, fun g hg => (hc.keep g (World.ownsRow.lt h g hg).2 (ha g hg)).2⟩
theorem Bm.step {w' : World} {P' : Nat → Prop} {X' : XSt} {O3 : List (Int × Int)} (h : Bm w0 w P M d p r X n O0 O O2 kk vl l) (hi : SInv w' P' d p X') (hc : Chg P P' w w') (hw : X'.wi = true) (hf : X'.ds.fu = X.ds.fu) (his : X'.is = X.is) (hh : Has X'.call O3 kk) : Bm w0 w' P' M d p r X' n O0 O O3 kk vl l := by
  obtain ⟨hs', ha⟩ := h.sp.chg hc h.mid.ap
  obtain ⟨hb, hp⟩ := chg_base h.mid.be h.mid.pN hc
  obtain ⟨hir, hia⟩ := h.ir.chg (hc.pm M) fun g hg => (h.ia g hg).1
  exact ⟨⟨hi, hw, by rw [hf]; exact h.mid.fu, by rw [his]; exact h.mid.has, hh, h.mid.ok, hp, h.mid.mN, ha, hb.size, hb⟩, hs', hir, fun g hg => ⟨hia g hg, (h.ia g hg).2⟩⟩
theorem Bk.begin (h : Bk w0 w P M d p r X n O0 O kk vl l) : Calls Tryz.prog 14 #[p] w fun e w' => e = .returned (.int .i64 0) ∧ ∃ P', Bm w0 w' P' M d p r (callX X) n O0 O O kk vl l := by
  refine (landed.begin h.inv).mono fun e w' ⟨he, P', hi, hc⟩ => ?_
  have e1 : xBegin X = (0, callX X) := by unfold xBegin; rw [if_neg (by rw [h.wi]; decide)]; rfl
  rw [e1] at he hi
  obtain ⟨hs, ha⟩ := h.sp.chg hc h.ap
  obtain ⟨hb, hp⟩ := chg_base h.be h.pN hc
  obtain ⟨hir, hia⟩ := h.ir.chg (hc.pm M) fun g hg => (h.ia g hg).1
  exact ⟨he, P', ⟨⟨hi, rfl, h.fu, h.has, h.has, h.ok, hp, h.mN, ha, hb.size, hb⟩, hs, hir, fun g hg => ⟨hia g hg, (h.ia g hg).2⟩⟩⟩
theorem Bm.keep (h : Bm w0 w P M d p r X n O0 O O2 kk vl l) (hO : OOk O2 kk) : Calls Tryz.prog 17 #[p, .bool true] w fun e w' => e = .returned (.int .i64 0) ∧ ∃ P' X', Bk w0 w' P' M d p r X' n O0 O2 kk vl l := by
  refine (landed.endKeep h.mid.inv h.mid.wi).mono fun e w' he => ?_
  rcases he with ⟨B, dt, ds', _, hfu, he, P', hi, hc⟩ | ⟨hf, _⟩
  · obtain ⟨hs', ha⟩ := h.sp.chg hc h.mid.ap
    obtain ⟨hb, hp⟩ := chg_base h.mid.be h.mid.pN hc
    obtain ⟨hir, hia⟩ := h.ir.chg (hc.pm M) fun g hg => (h.ia g hg).1
    exact ⟨he, P', _, ⟨hi, rfl, by show ds'.fu = false; rw [hfu]; exact h.mid.fu, h.mid.has2, hO, hs', hp, h.mid.mN, ha, hb, hir, fun g hg => ⟨hia g hg, (h.ia g hg).2⟩⟩⟩
  · rw [h.mid.fu] at hf; cases hf
theorem Bm.undo (h : Bm w0 w P M d p r X n O0 O O2 kk vl l) : Calls Tryz.prog 17 #[p, .bool false] w fun e w' => e = .returned (.int .i64 0) ∧ ∃ P' X', Bk w0 w' P' M d p r X' n O0 O kk vl l := by
  refine (landed.endUndo h.mid.inv h.mid.wi).mono fun e w' ⟨he, P', hi, hc⟩ => ?_
  obtain ⟨hs', ha⟩ := h.sp.chg hc h.mid.ap
  obtain ⟨hb, hp⟩ := chg_base h.mid.be h.mid.pN hc
  obtain ⟨hir, hia⟩ := h.ir.chg (hc.pm M) fun g hg => (h.ia g hg).1
  exact ⟨he, P', _, ⟨hi, rfl, h.mid.fu, h.mid.has, h.mid.ok, hs', hp, h.mid.mN, ha, hb, hir, fun g hg => ⟨hia g hg, (h.ia g hg).2⟩⟩⟩
theorem Bm.low (h : Bm w0 w P M d p r X n O0 O O2 kk vl l) {w' : World} (hb : Below w.heap.size w w') : Bm w0 w' P M d p r X n O0 O O2 kk vl l := ⟨h.mid.low hb, h.sp.below hb, h.ir.below hb, h.ia⟩
theorem Bk.low (h : Bk w0 w P M d p r X n O0 O kk vl l) {w' : World} (hb : Below w.heap.size w w') : Bk w0 w' P M d p r X n O0 O kk vl l :=
  { h with inv := h.inv.low hb, sp := h.sp.below hb, be := h.be.trans (hb.mono h.be.size), ir := h.ir.below hb }
/-- Behind an append onto l. -/
theorem Bk.grow (h : Bk w0 w P M d p r X n O0 O kk vl l) {x : Int} {w' : World} {g cap : Nat} (hir : IR w' 0 (.slice (some ⟨g, 0, none⟩) (l.length + 1) cap) (l ++ [x])) (hg : (w.alloc (.cells #[.int .i64 x] 3)).grownBy w' vl.ownBlock) (ha : vl.ownBlock = some g ∨ w.heap.size ≤ g) :
    Bk w0 w' P M d p r X n O0 O kk (.slice (some ⟨g, 0, none⟩) (l.length + 1) cap) (l ++ [x]) := by
  have hb := below_box w (.cells #[.int .i64 x] 3)
  have hlt := h.inv.lt
  have hs : w.heap.size ≤ w'.heap.size := Nat.le_trans hb.size hg.size
  have key : ∀ k, k < w.heap.size → vl.ownBlock ≠ some k → w'.heap[k]? = w.heap[k]? := fun k hk hn => (hg.block k (Nat.lt_of_lt_of_le hk hb.size) (fun e => hn e.symm)).trans (hb.block k hk)
  obtain ⟨br, v, e, hr, ho, hM⟩ := h.sp
  have hsp : RSp w M r n O0 := ⟨br, v, e, hr, ho, hM⟩
  have hm : ∀ k, M k → w'.heap[k]? = w.heap[k]? := fun k hk => key k (hsp.lt hk) fun e => (h.ia k e).1 (.inr hk)
  refine { h with inv := h.inv.keep hs fun k hk => key k (hlt k hk) fun e => (h.ia k e).1 (.inl hk), sp := ⟨br, v, e, (hm br ((hM br).2 (.inl rfl))).trans hr, ⟨ho.1, ownsRow_keep ho.2 fun g hg => hm g ((hM g).2 (.inr hg))⟩, hM⟩, be := ?_, ir := hir, ia := fun g' hg' => ?_ }
  · have hbs := h.be.size
    have : Below w0.heap.size (w.alloc (.cells #[.int .i64 x] 3)) w' := (Below.refl _ _).grown hg (Nat.le_trans hbs hb.size) fun k hk => (h.ia k hk).2
    exact (h.be.trans (hb.mono hbs)).trans this
  · obtain rfl : g = g' := by simpa [Value.ownBlock] using hg'
    rcases ha with ha | ha
    · exact h.ia g ha
    · have hbs := h.be.size
      exact ⟨fun hp => hp.elim (fun hp => by have := hlt g hp; omega) fun hm => by have := hsp.lt hm; omega, by omega⟩
end
end Go.Proofs.YtkbeencjklgcnaaGreat

/- Calls of layer 12 that change nothing, on both sides. -/
namespace Go.Proofs.YtkbeencjklgcnaaGreat
set_option maxRecDepth 100000
open Go.RowKit
set_option linter.unusedVariables false

section
variable {O : List (Int × Int)} {kk : Nat}
theorem same_low {w w' : World} (h : w = w') : Below w.heap.size w w' := by rw [← h]; exact Below.refl _ _
theorem run12 (hO : OOk O kk) {l q : Int} (hl : l ≤ 64 * (kk : Int)) (hq : q ≤ 9223372036854775807) : ∃ x E : Int, Both O O kk 21 32 [.int .i64 l, .int .i64 q] (.returned (.tuple #[.int .i64 x, .int .i64 E])) := by
  have h12 := hO.k12
  have hlen := hO.len
  by_cases hno : frmB l = false ∨ q < 1
  · exact ⟨0, 1, bothLow (fun hm => (spRun_no l q (by omega) hno _ _).mono fun e w' ⟨h1, h2⟩ => ⟨h1, same_low h2⟩) (fun hs => (rSpRun_no hs (by omega) hno).mono fun e w' ⟨h1, h2⟩ => ⟨h1, same_low h2⟩)⟩
  · have h2 : frmB l = true := by cases h : frmB l; · exact absurd (.inl h) hno
                                  · rfl
    have h3 : 1 ≤ q := by
      by_cases h : q < 1
      · exact absurd (.inr h) hno
      · omega
    obtain ⟨m, m1, m12, rfl⟩ := frm_yes h2
    refine ⟨_, 0, bothLow (fun hm => spRun_yes hm.inv (callX_cur hm.has2) hO m1 (by omega) h3) (fun hs => ?_)⟩
    have := rSpRun_yes hs (L := 64 * m) (by rw [show ((64 * m : Nat) : Int) = 64 * (m : Int) by omega]; exact frm_mk m m1 m12) (by omega) (by omega) (by omega) ⟨h3, hq⟩
    rw [show ((64 * m : Nat) : Int) = 64 * (m : Int) by omega] at this
    exact this.mono fun e w' ⟨h1, h2⟩ => ⟨h1, same_low h2⟩
theorem used12 (hO : OOk O kk) {l : Int} (hl : l ≤ 64 * (kk : Int)) : ∃ x E : Int, Both O O kk 18 19 [.int .i64 l] (.returned (.tuple #[.int .i64 x, .int .i64 E])) := by
  have h12 := hO.k12
  have hlen := hO.len
  cases h2 : frmB l
  · exact ⟨0, 1, bothLow (fun hm => (spUsed_no l (by omega) h2 _ _).mono fun e w' ⟨h1, h2⟩ => ⟨h1, same_low h2⟩) (fun hs => (rSpUsed_no hs (by omega) h2).mono fun e w' ⟨h1, h2⟩ => ⟨h1, same_low h2⟩)⟩
  · obtain ⟨m, m1, m12, rfl⟩ := frm_yes h2
    refine ⟨_, 0, bothLow (fun hm => spUsed_yes hm.inv (callX_cur hm.has2) hO m1 (by omega)) (fun hs => ?_)⟩
    have := rSpUsed_yes hs (L := 64 * m) (by rw [show ((64 * m : Nat) : Int) = 64 * (m : Int) by omega]; exact frm_mk m m1 m12) (by omega) (by omega) (by omega)
    rw [show ((64 * m : Nat) : Int) = 64 * (m : Int) by omega] at this
    exact this.mono fun e w' ⟨h1, h2⟩ => ⟨h1, same_low h2⟩
/-- Find: the landed one, told apart where the size is none. -/
theorem find12_no (hO : OOk O kk) {l g : Int} (hl : l ≤ 64 * (kk : Int)) (hf : frmB l = false) (p : Value) (w : World) : Calls Tryz.prog 20 #[p, .int .i64 l, .int .i64 g] w fun e w' => e = .returned (.tuple #[.int .i64 0, .int .i64 1]) ∧ w = w' := by
  have h12 := hO.k12
  exact spFind_no l g (by omega) hf p w
structure FindB (O : List (Int × Int)) (kk m : Nat) (g x : Int) : Prop where
  land : ∀ {w0 w P M d p r X n}, Mid w0 w P M d p r (callX X) n O O kk → Calls Tryz.prog 20 #[p, .int .i64 (64 * (m : Int)), .int .i64 g] w fun e w' => e = .returned (.tuple #[.int .i64 x, .int .i64 0]) ∧ Below w.heap.size w w'
  refe : ∀ {w M r n}, RSp w M r n O → Calls Tryz.prog 33 #[r, .int .i64 (64 * (m : Int)), .int .i64 g] w fun e w' => e = .returned (.int .i64 x) ∧ w = w'
theorem find12_yes (hO : OOk O kk) {m : Nat} (m1 : 1 ≤ m) (hm : m ≤ kk) (g : Int) : ∃ x : Int, FindB O kk m g x := by
  have h12 := hO.k12
  have hlen := hO.len
  refine ⟨_, fun hm' => spFind_yes hm'.inv (callX_cur hm'.has2) hO m1 hm g, fun hs => ?_⟩
  have := rSpFind_any hs (L := 64 * m) (by omega) (by omega) (by omega) g
  rw [show ((64 * m : Nat) : Int) = 64 * (m : Int) by omega] at this
  exact this
/-- Owner of block n. -/
theorem owner12 (hO : OOk O kk) {k : Nat} (hk : k < 64 * kk) : ∀ {w0 w P M d p r X n}, Mid w0 w P M d p r (callX X) n O O kk → Calls Tryz.prog 12 #[p, .int .i64 k] w fun e w' => e = .returned (.tuple #[.agg #[.int .u16 (O.getD k (0, 0)).1, .int .u16 (O.getD k (0, 0)).2], .int .i64 0]) ∧ Below w.heap.size w w' :=
  fun hm => spOwner_yes hm.inv (callX_cur hm.has2) hO hk
end
end Go.Proofs.YtkbeencjklgcnaaGreat

/- The law's do: a call on both sides. -/
namespace Go.Proofs.YtkbeencjklgcnaaGreat
set_option maxRecDepth 100000
open Go.RowKit
set_option linter.unusedVariables false

/- The words that the drawn regions use again and again, in short. -/
theorem q1 {α : Type _} (l : List α) (i : Nat) (a : α) : l.toArray.setIfInBounds i a = (l.set i a).toArray := List.setIfInBounds_toArray l i a
theorem q2 {α : Type _} {x : α} {xs : List α} {a : α} : (x :: xs).set 0 a = a :: xs := List.set_cons_zero
theorem q3 {α : Type _} {x : α} {xs : List α} {i : Nat} {a : α} : (x :: xs).set (i + 1) a = x :: xs.set i a := List.set_cons_succ
theorem q4 {α : Type _} {xs : List α} {i : Nat} (h : i < xs.toArray.size) : xs.toArray[i] = xs[i]'(by simpa using h) := List.getElem_toArray h
theorem q5 {α : Type _} (a : α) (l : List α) (h : 0 < (a :: l).length) : (a :: l)[0] = a := List.getElem_cons_zero a l h
theorem q6 {α : Type _} (a : α) (l : List α) (i : Nat) (h : i + 1 < (a :: l).length) : (a :: l)[i + 1] = l[i]'(by simpa using h) := List.getElem_cons_succ a l i h
theorem tk {P : Program} {ops : Array Oper} {Q : Exit → Act → World → Prop} {md : Region.Mode} {S : World → Prop} (i : Nat) {oi : Oper} (v : Value) {fuel : Nat} {listed : Array Bool} {a : Act} {w : World} (hi : ops[i]? = some oi)
    (hb : (Region.noSelect ops && (Region.free md ops listed i && (Region.ready md ops listed).contains i)) = true)
    (hQ : ∀ c a w, Q (.panic c) (a.put oi.dst v) w → Q (.panic c) a w) (hy : YieldsIf P ops S oi v a) (hS : S w)
    (h : wpAnyH P md ops Q S fuel (listed.setIfInBounds i true) (a.put oi.dst v) w) : wpAnyH P md ops Q S (fuel + 1) listed a w := by
  rw [Bool.and_eq_true, Bool.and_eq_true] at hb
  exact wpAnyH_take hi hb.1 hb.2.1 hb.2.2 hQ hy hS h
/-- The cells of a call, boxed at block xb. -/
def OpAt (W : World) (xb : Nat) (o : O12) : Prop :=
  (W.cell? ⟨xb, 0, none⟩ = some (.int .i64 o.k) ∧ W.cell? ⟨xb, 1, none⟩ = some (.int .i64 o.b) ∧ W.cell? ⟨xb, 2, none⟩ = some (.int .i64 o.l) ∧ W.cell? ⟨xb, 3, none⟩ = some (.int .i64 o.g)) ∧ W.cell? ⟨xb, 4, none⟩ = some (.int .i64 o.n) ∧ W.cell? ⟨xb, 5, none⟩ = some (.int .u16 o.i) ∧ W.cell? ⟨xb, 6, none⟩ = some (.int .u16 o.a)
/-- What do has at its start. -/
structure DoK (w0 w W1 : World) (P M : Nat → Prop) (d p r : Value) (X : XSt) (n : Int) (O : List (Int × Int)) (kk xb : Nat) (o : O12) : Prop where
  sd : Side w0 W1 P M d p r X n O kk
  op : ∀ W P', Chg (PM P M) (PM P' M) W1 W → OpAt W xb o
  ch : Chg (PM P M) (PM P M) w W1
theorem doK {w0 w : World} {P M : Nat → Prop} {d p r : Value} {X : XSt} {n : Int} {O : List (Int × Int)} {kk : Nat} (h : Side w0 w P M d p r X n O kk) (o : O12) :
    DoK w0 w (w.alloc (.cells #[.int .i64 o.k, .int .i64 o.b, .int .i64 o.l, .int .i64 o.g, .int .i64 o.n, .int .u16 o.i, .int .u16 o.a] 34)) P M d p r X n O kk w.heap.size o := by
  have hb := below_box w (.cells #[.int .i64 o.k, .int .i64 o.b, .int .i64 o.l, .int .i64 o.g, .int .i64 o.n, .int .u16 o.i, .int .u16 o.a] 34)
  have hn := heap_alloc_new w (.cells #[.int .i64 o.k, .int .i64 o.b, .int .i64 o.l, .int .i64 o.g, .int .i64 o.n, .int .u16 o.i, .int .u16 o.a] 34)
  have hlt := h.inv.lt
  refine ⟨{ h with inv := h.inv.low hb, sp := h.sp.below hb, be := h.be.trans (hb.mono h.be.size) }, fun W P' hc => ?_, Chg.of_below hb⟩
  have hr := (hc.keep w.heap.size (by simp) (fun e => e.elim (fun e => by have := hlt _ e; omega) fun e => by have := h.sp.lt e; omega)).1.trans hn
  exact ⟨⟨cell_of_row _ _ _ _ _ _ hr, cell_of_row _ _ _ _ _ _ hr, cell_of_row _ _ _ _ _ _ hr, cell_of_row _ _ _ _ _ _ hr⟩, cell_of_row _ _ _ _ _ _ hr, cell_of_row _ _ _ _ _ _ hr, cell_of_row _ _ _ _ _ _ hr⟩
/-- The reference's number of blocks, in memory. -/
theorem RSp.n0 {w : World} {M : Nat → Prop} {br : Nat} {n : Int} {O : List (Int × Int)} (h : RSp w M (.pointer (some ⟨br, 0, none⟩)) n O) : w.cell? ⟨br, 0, none⟩ = some (.int .i64 n) := by
  obtain ⟨b, v, e, hr, _⟩ := h
  obtain rfl : br = b := by injection e with e; injection e with e; injection e with e
  rw [cell_of_row _ _ _ _ _ _ hr]; rfl
section
variable {w0 w : World} {P M : Nat → Prop} {d : Value} {b br : Nat} {X : XSt} {O : List (Int × Int)} {kk : Nat}
/-- What do hands back. -/
def DoOut (w0 w : World) (P M : Nat → Prop) (d p r : Value) (kk : Nat) (e : Ending) (w' : World) : Prop :=
  e = .returned (.bool true) ∧ ∃ P' X' O2, Side w0 w' P' M d p r X' (64 * (kk : Int)) O2 kk ∧ Chg (PM P M) (PM P' M) w w'
end
end Go.Proofs.YtkbeencjklgcnaaGreat

/- The law SpaceBack: too many goals, or no such owner. -/
namespace Go.Proofs.YtkbeencjklgcnaaGreat
set_option maxRecDepth 100000
open Go.RowKit
set_option linter.unusedVariables false

theorem lSpB_no {w : World} (gr : Int) (ao : Option Addr) (L cap : Nat) {i j : Int} (hi : 0 ≤ i ∧ i ≤ 65535) (hj : 0 ≤ j ∧ j ≤ 65535) (hno : 15 < L ∨ frmO i j = false ∨ i = 0 ∨ i = 65535) : Calls Tryz.prog 6 #[.int .u8 gr, .slice ao L cap, .agg #[.int .u16 i, .int .u16 j]] w fun e w' => e = .returned (.bool true) ∧ Below w.heap.size w w' := by
  have KA := Lib.hid awake12_any
  have KA1 := Lib.hid (awake12_any (w.alloc (.cells #[.int .u16 i, .int .u16 j] 32)))
  have HB1 := Lib.hid (below_box w (.cells #[.int .u16 i, .int .u16 j] 32))
  have HR := Lib.hid (fun (W : World) (hb : Below (w.alloc (.cells #[.int .u16 i, .int .u16 j] 32)).heap.size (w.alloc (.cells #[.int .u16 i, .int .u16 j] 32)) W) => show W.cell? ⟨w.heap.size, 0, none⟩ = some (.int .u16 i) ∧ W.cell? ⟨w.heap.size, 1, none⟩ = some (.int .u16 j) from ⟨cell_of_row _ _ _ _ _ _ (below_hold (heap_alloc_new w _) hb), cell_of_row _ _ _ _ _ _ (below_hold (heap_alloc_new w _) hb)⟩)
  by_cases hl : 15 < L
  · have hL2 : (15 : Int) < (L : Int) := by omega
    clear hno hl
    go_enter Tryz.func6, Tryz.ntmps6
    go_wp2_with (first
      | (go_at_call 7; (with_reducible refine KA1.out.mono ?_); rintro e w2 ⟨rfl, hb2⟩; obtain ⟨x0, x1⟩ := HR.out _ hb2)
      | (go_at_call 7; refine (KA.out _).mono ?_; rintro e w4 ⟨rfl, hb4⟩))
    go_ret
    exact ⟨rfl, (HB1.out.trans (hb2.mono HB1.out.size)).trans (hb4.mono (Nat.le_trans HB1.out.size hb2.size))⟩
  · have hL2 : ¬ (15 : Int) < (L : Int) := by omega
    have hno2 := hno.resolve_left hl
    clear hno hl
    cases hf : frmO i j
    · have KF := Lib.hid (rrForm_is i j hi hj false hf)
      clear hno2 hf
      go_enter Tryz.func6, Tryz.ntmps6
      go_wp2_with (first
        | (go_at_call 7; (with_reducible refine KA1.out.mono ?_); rintro e w2 ⟨rfl, hb2⟩; obtain ⟨x0, x1⟩ := HR.out _ hb2)
        | (go_at_call 13; refine (KF.out _).mono ?_; rintro e w3 ⟨rfl, hb3⟩; have hb13 := hb2.trans (hb3.mono hb2.size); obtain ⟨y0, y1⟩ := HR.out _ hb13)
        | (go_at_call 7; refine (KA.out _).mono ?_; rintro e w4 ⟨rfl, hb4⟩))
      go_ret
      exact ⟨rfl, (HB1.out.trans (hb13.mono HB1.out.size)).trans (hb4.mono (Nat.le_trans HB1.out.size hb13.size))⟩
    · have KF := Lib.hid (rrForm_is i j hi hj true hf)
      have hor : i = 0 ∨ i = 65535 := hno2.resolve_left (by rw [hf]; decide)
      clear hno2 hf
      rcases hor with rfl | rfl
      all_goals
        go_enter Tryz.func6, Tryz.ntmps6
        go_wp2_with (first
          | (go_at_call 7; (with_reducible refine KA1.out.mono ?_); rintro e w2 ⟨rfl, hb2⟩; obtain ⟨x0, x1⟩ := HR.out _ hb2)
          | (go_at_call 13; refine (KF.out _).mono ?_; rintro e w3 ⟨rfl, hb3⟩; have hb13 := hb2.trans (hb3.mono hb2.size); obtain ⟨y0, y1⟩ := HR.out _ hb13)
          | (go_at_call 7; refine (KA.out _).mono ?_; rintro e w4 ⟨rfl, hb4⟩))
        go_ret
        exact ⟨rfl, (HB1.out.trans (hb13.mono HB1.out.size)).trans (hb4.mono (Nat.le_trans HB1.out.size hb13.size))⟩
end Go.Proofs.YtkbeencjklgcnaaGreat

/- For the law SpaceBack: Take and Give within a call. -/
namespace Go.Proofs.YtkbeencjklgcnaaGreat
set_option maxRecDepth 100000
open Go.RowKit
set_option linter.unusedVariables false

theorem Tkn.nil (O0 : List (Int × Int)) : Tkn O0 [] := ⟨List.nodup_nil, fun f hf => absurd hf List.not_mem_nil, fun f hf => absurd hf List.not_mem_nil⟩
theorem Tkn.snoc {O0 : List (Int × Int)} {l : List Nat} (h : Tkn O0 l) {f : Nat} (hl : f < O0.length) (hf : freeJ O0 f = true) (hn : f ∉ l) : Tkn O0 (l ++ [f]) := by
  refine ⟨?_, fun x hx => ?_, fun x hx => ?_⟩
  · rw [List.nodup_append]
    refine ⟨h.nd, by simp, fun a ha b hb => ?_⟩
    obtain rfl : b = f := by simpa using hb
    exact fun e => hn (e ▸ ha)
  · rcases List.mem_append.1 hx with hx | hx
    · exact h.lt x hx
    · obtain rfl : x = f := by simpa using hx
      exact hl
  · rcases List.mem_append.1 hx with hx | hx
    · exact h.fr x hx
    · obtain rfl : x = f := by simpa using hx
      exact hf
theorem Tkn.drop {O0 : List (Int × Int)} {l : List Nat} (h : Tkn O0 l) (c : Nat) : Tkn O0 (l.drop c) :=
  ⟨h.nd.sublist (List.drop_sublist c l), fun f hf => h.lt f (List.mem_of_mem_drop hf), fun f hf => h.fr f (List.mem_of_mem_drop hf)⟩
theorem bck_free {O0 : List (Int × Int)} {l : List Nat} {i j : Int} (h0 : i ≠ 0) {f : Nat} (hl : f < O0.length) (hf : freeJ (bck O0 l (i, j)) f = true) : f ∉ l ∧ freeJ O0 f = true := by
  unfold freeJ at hf ⊢
  rw [bck_getD _ _ _ hl] at hf
  by_cases hm : f ∈ l
  · rw [if_pos hm] at hf
    exact absurd (of_decide_eq_true hf) h0
  · rw [if_neg hm] at hf
    exact ⟨hm, hf⟩
theorem IR.cellOf {w : World} {g K cap : Nat} {lv : List Int} (h : IR w 0 (.slice (some ⟨g, 0, none⟩) K cap) lv) {c : Nat} (hc : c < lv.length) : w.cell? ⟨g, c, none⟩ = some (.int .i64 (lv.getD c 0)) := by
  obtain ⟨b, off, cp, e, hb, hcs⟩ := h.sl.at (by omega)
  injection e with e
  injection e with e
  injection e with e1 e2
  subst e1
  subst e2
  have := hcs c hc
  rwa [Nat.zero_add] at this
theorem IR.addr {w : World} {ao : Option Addr} {K cap : Nat} {lv : List Int} (h : IR w 0 (.slice ao K cap) lv) (hc : 0 < lv.length) : ∃ g, ao = some ⟨g, 0, none⟩ := by
  rcases h.2 with ⟨_, h0⟩ | ⟨g, _, _, e, _⟩
  · omega
  · injection e with e
    exact ⟨g, e⟩
section
variable {w0 w : World} {P M : Nat → Prop} {d p r : Value} {X : XSt} {n : Int} {O0 O O2 : List (Int × Int)} {kk : Nat} {vl : Value} {lv : List Int} {lk : List Nat} {i j : Int}
theorem Bk.side (h : Bk w0 w P M d p r X n O0 O0 kk vl lv) : Side w0 w P M d p r X n O0 kk := ⟨h.inv, h.wi, h.fu, h.has, h.ok, h.sp, h.pN, h.mN, h.ap, h.be⟩
theorem Bm.take (h : Bm w0 w P M d p r (callX X) n (newO kk) (bck (newO kk) lk (i, j)) (bck (newO kk) lk (i, j)) kk vl lv) (hT : Tkn (newO kk) lk) (g : Int) (hi : 0 ≤ i ∧ i ≤ 65535) (hj : 0 ≤ j ∧ j ≤ 65535) (hf : frmO i j = true) (h0 : i ≠ 0) (h6 : i ≠ 65535) :
    Calls Tryz.prog 15 #[p, .int .i64 (64 * (kk : Int)), .int .i64 (64 * (kk : Int)), .int .i64 g, .agg #[.int .u16 i, .int .u16 j]] w fun e w' => ∃ x E : Int, e = .returned (.tuple #[.int .i64 x, .int .i64 E]) ∧ Below w0.heap.size w0 w' ∧
      ∃ P' X', (E = 13 ∧ Bm w0 w' P' M d p r X' n (newO kk) (bck (newO kk) lk (i, j)) (bck (newO kk) lk (i, j)) kk vl lv) ∨
        (E = 0 ∧ ∃ f : Nat, x = f ∧ Tkn (newO kk) (lk ++ [f]) ∧ OOk (bck (newO kk) (lk ++ [f]) (i, j)) kk ∧ Bm w0 w' P' M d p r X' n (newO kk) (bck (newO kk) lk (i, j)) (bck (newO kk) (lk ++ [f]) (i, j)) kk vl lv) := by
  have hO := h.mid.ok
  have h1 := hO.k1
  have hl0 : (newO kk).length = 64 * kk := by rw [← hO.len, bck_length]
  by_cases hc : 62 * (kk : Int) - 42 ≤ cntU (bck (newO kk) lk (i, j)) (64 * kk)
  · refine (spTake_full h.mid.inv (callX_cur h.mid.has2) hO h1 (Nat.le_refl _) (Nat.le_refl _) g hi hj hf h0 h6 hc).mono fun e w' ⟨he, hb⟩ => ?_
    have h2 := h.low hb
    exact ⟨_, _, he, h2.mid.be, _, _, .inl ⟨rfl, h2⟩⟩
  · obtain ⟨f, f1, f2, f3, f4⟩ := find_free hO h1 (Nat.le_refl _) (g := goalS (64 * kk) g) (by unfold goalS; split <;> omega) (by omega)
    refine (spTake_yes h.mid.inv rfl rfl h.mid.has2 hO h1 (Nat.le_refl _) (Nat.le_refl _) g hi hj hf h0 h6 (by omega) f1 f2 f4).mono fun e w' ⟨he, P', hI, hC⟩ => ?_
    have hfl : f < (newO kk).length := by omega
    obtain ⟨hn, hfr⟩ := bck_free h0 hfl f3
    have h2 := h.step hI hC rfl rfl rfl (h.mid.has2.put f1 (i, j))
    have h3 := hO.set f1 f4 hi hj hf h6
    rw [bck_put _ _ _ hfl] at h2 h3
    exact ⟨_, _, he, h2.mid.be, _, _, .inr ⟨rfl, f, rfl, hT.snoc hfl hfr hn, h3, h2⟩⟩
theorem Bm.give {f : Nat} (h : Bm w0 w P M d p r (callX X) n (newO kk) (bck (newO kk) (f :: lk) (i, j)) (bck (newO kk) (f :: lk) (i, j)) kk vl lv) (hT : Tkn (newO kk) (f :: lk)) (h0 : i ≠ 0) :
    Calls Tryz.prog 23 #[p, .int .i64 f] w fun e w' => e = .returned (.int .i64 0) ∧ OOk (bck (newO kk) lk (i, j)) kk ∧ ∃ P' X', Bm w0 w' P' M d p r X' n (newO kk) (bck (newO kk) (f :: lk) (i, j)) (bck (newO kk) lk (i, j)) kk vl lv := by
  have hO := h.mid.ok
  have hl0 : (newO kk).length = 64 * kk := by rw [← hO.len, bck_length]
  have hfl := hT.lt f (by simp)
  have hf : f < 64 * kk := by omega
  obtain ⟨z1, z2⟩ := free_zero (newO_ok hO.k1 hO.k12) hf (hT.fr f (by simp))
  have hfr : freeJ (bck (newO kk) (f :: lk) (i, j)) f = false := by
    unfold freeJ
    rw [bck_getD _ _ _ hfl, if_pos (by simp)]
    exact decide_eq_false h0
  have hn : f ∉ lk := (List.nodup_cons.1 hT.nd).1
  refine (spGive_yes h.mid.inv rfl rfl h.mid.has2 hO hf z2 hfr).mono fun e w' ⟨he, P', hI, hC⟩ => ?_
  have h2 := h.step hI hC rfl rfl rfl (h.mid.has2.put hf (0, 0))
  have h3 := hO.set hf z2 (i := 0) (j := 0) (by decide) (by decide) (by decide) (by decide)
  rw [bck_give _ _ _ hfl hn z1] at h2 h3
  exact ⟨he, h3, _, _, h2⟩
end
end Go.Proofs.YtkbeencjklgcnaaGreat

/- The law SpaceBack: an owner that is well formed. -/
namespace Go.Proofs.YtkbeencjklgcnaaGreat
set_option maxRecDepth 100000
open Go.RowKit
set_option linter.unusedVariables false

theorem ofn (f : Nat) : Int.ofNat f = (f : Int) := rfl
set_option maxHeartbeats 4000000 in
theorem lSpB_yes {w : World} {gr : Int} (hgr : 0 ≤ gr ∧ gr ≤ 255) {v : Value} {gl : List Int} (hv : ISl w v gl) (hl15 : gl.length ≤ 15) {i j : Int} (hi : 0 ≤ i ∧ i ≤ 65535) (hj : 0 ≤ j ∧ j ≤ 65535) (hf : frmO i j = true) (h0 : i ≠ 0) (h6 : i ≠ 65535) : Calls Tryz.prog 6 #[.int .u8 gr, v, .agg #[.int .u16 i, .int .u16 j]] w fun e w' => e = .returned (.bool true) ∧ Below w.heap.size w w' := by
  obtain ⟨W1, hW1⟩ : ∃ W1, W1 = w.alloc (.cells #[.int .u16 i, .int .u16 j] 32) := ⟨_, rfl⟩
  have hb1 : Below w.heap.size w W1 := by rw [hW1]; exact below_box w _
  have HB1 := Lib.hid hb1
  have hnx : W1.heap[w.heap.size]? = some (.cells #[.int .u16 i, .int .u16 j] 32 (0, 0)) := by rw [hW1]; exact heap_alloc_new w _
  obtain ⟨xb, hxb⟩ : ∃ xb, xb = w.heap.size := ⟨_, rfl⟩
  have HXB := Lib.hid hxb
  rw [← hxb] at hnx
  have HR : Hid (∀ W, Below W1.heap.size W1 W → W.cell? ⟨xb, 0, none⟩ = some (.int .u16 i) ∧ W.cell? ⟨xb, 1, none⟩ = some (.int .u16 j)) := Lib.hid fun W hb => ⟨cell_of_row _ _ _ _ _ _ (below_hold hnx hb), cell_of_row _ _ _ _ _ _ (below_hold hnx hb)⟩
  have HW1 := Lib.hid hW1.symm
  have KA := Lib.hid (awake12_any W1)
  have KF := Lib.hid (rrForm_is i j hi hj true hf)
  obtain ⟨q, hq⟩ : ∃ q : Nat, (q : Int) = gr % 12 := ⟨(gr % 12).toNat, by omega⟩
  obtain ⟨kk, hkk⟩ : ∃ kk, kk = q + 1 := ⟨_, rfl⟩
  have k1 : 1 ≤ kk := by omega
  have k12 : kk ≤ 12 := by omega
  have KZ : Hid (∀ W : World, Calls Tryz.prog 8 #[.int .u8 gr] W fun e w' => e = .returned (.int .i64 (64 * (kk : Int))) ∧ W = w') := Lib.hid fun W => (sized12_is gr hgr W).mono fun e w' ⟨k2, _, h2, h3, h4⟩ => ⟨by rw [h3]; exact ret_i (by omega), h4⟩
  have KS := Lib.hid (fun (W : World) (hb : Below W1.heap.size W1 W) => start12 k1 k12 W1 hb)
  have HO := Lib.hid (And.intro hi (And.intro hj (And.intro hf (And.intro h0 h6))))
  have HK := Lib.hid (And.intro k1 k12)
  have e6 : (i == 65535) = false := by simpa using h6
  have e0 : (i == 0) = false := by simpa using h0
  obtain ⟨ao, cap, rfl, hgc⟩ := hv.open'
  obtain ⟨L, hL⟩ : ∃ L, L = gl.length := ⟨_, rfl⟩
  rw [← hL] at hl15 ⊢
  have HG : Hid (0 < L → ∃ bg off, ao = some ⟨bg, off, none⟩ ∧ ∀ c, c < L → ∃ x : Int, ∀ W, Below W1.heap.size W1 W → W.cell? ⟨bg, off + c, none⟩ = some (.int .i64 x)) := Lib.hid fun hl => by
    obtain ⟨bg, off, e, hbl, hc⟩ := hgc (by omega)
    refine ⟨bg, off, e, fun c hcl => ⟨gl.getD c 0, fun W hb => ?_⟩⟩
    rw [hb.cell (p := ⟨bg, off + c, none⟩) (Nat.lt_of_lt_of_le hbl hb1.size), hb1.cell (p := ⟨bg, off + c, none⟩) hbl]
    exact hc c (by omega)
  have hL2 : ¬ (15 : Int) < (L : Int) := by omega
  clear hW1 hnx hkk hgr hi hj hf h0 h6 hxb k1 k12 hq hv hgc hL hb1
  go_enter Tryz.func6, Tryz.ntmps6
  go_upto_region 1 with (fail)
  rw [HW1.out]
  rw [← HXB.out]
  go_wp2_with (first
    | (go_at_call 7; refine KA.out.mono ?_; rintro e w2 ⟨rfl, hb2⟩; obtain ⟨x20, x21⟩ := HR.out _ hb2)
    | (go_at_call 13; refine (KF.out _).mono ?_; rintro e w3 ⟨rfl, hb3⟩; have hb13 := hb2.trans (hb3.mono hb2.size); obtain ⟨x30, x31⟩ := HR.out _ hb13)
    | (go_at_call 8; refine (KZ.out _).mono ?_; rintro e w' ⟨rfl, rfl⟩)
    | (go_at_call 9; refine (KS.out _ hb13).mono ?_; rintro e w4 ⟨b, rfl, hb4, KN⟩)
    | (go_at_call 10; refine (KN (Below.refl _ _)).mono ?_; rintro e w5 ⟨br, P5, M5, d5, X5, rfl, hsd⟩))
  have HT0 : Hid (Tkn (newO kk) []) := Lib.hid (Tkn.nil _)
  have HS0 : Hid (∃ P M d X, Bk W1 w5 P M d (.pointer (some ⟨b, 0, none⟩)) (.pointer (some ⟨br, 0, none⟩)) X (64 * (kk : Int)) (newO kk) (bck (newO kk) [] (i, j)) kk (.slice none 0 0) (([] : List Nat).map Int.ofNat)) := Lib.hid ⟨P5, M5, d5, X5, by
    rw [bck_nil]
    exact ⟨hsd.inv, hsd.wi, hsd.fu, hsd.has, hsd.ok, hsd.sp, hsd.pN, hsd.mN, hsd.ap, hsd.be, ir_nil _ _, fun g hg => by simp [Value.ownBlock] at hg⟩⟩
  clear hsd x20 x21 x30 x31 hb2 hb3 hb13 hb4 KN
  go_loopw [10, 52] (fun vl t WI => ∃ c : Nat, c ≤ L ∧ t = .int .i64 c ∧ ∃ l : List Nat, l.length ≤ c ∧ ∃ ao2 cap2 K, Hid (K = l.length) ∧ vl = .slice ao2 K cap2 ∧ Hid (Tkn (newO kk) l) ∧ Hid (∃ P M d X, Bk W1 WI P M d (.pointer (some ⟨b, 0, none⟩)) (.pointer (some ⟨br, 0, none⟩)) X (64 * (kk : Int)) (newO kk) (bck (newO kk) l (i, j)) kk vl (l.map Int.ofNat))) (fun _ t _ => L - (intOf t).toNat)
  case atStart => exact ⟨0, by omega, rfl, [], Nat.le_refl _, _, _, 0, Lib.hid rfl, rfl, HT0, HS0⟩
  case round =>
    obtain ⟨c, hc, rfl, l, hlc, ao2, cap2, K, hK, rfl, HT, HS⟩ := hrel
    clear HT0 HS0
    by_cases hcl : c < L
    · obtain ⟨P, M, d, X, hbk⟩ := HS.out
      obtain ⟨bg, off, rfl, hgx⟩ := HG.out (by omega)
      have ecl : (c : Int) < (L : Int) := by omega
      obtain ⟨gx, hgx2⟩ := hgx c hcl
      have HGX := Lib.hid hgx2
      have KB := Lib.hid hbk.begin
      clear hbk HS hgx hgx2
      go_upto_region 13 with (first
        | (go_at_call 14; refine KB.out.mono ?_; rintro e w2 ⟨rfl, P2, hm2⟩))
      have hbe2 := hm2.mid.be.drew
      have hS2 : w2.drew.cell? ⟨xb, 0, none⟩ = some (.int .u16 i) ∧ w2.drew.cell? ⟨xb, 1, none⟩ = some (.int .u16 j) ∧ w2.drew.cell? ⟨bg, off + c, none⟩ = some (.int .i64 gx) := ⟨(HR.out _ hbe2).1, (HR.out _ hbe2).2, HGX.out _ hbe2⟩
      refine wp_region_held_drew (S := fun W => W.cell? ⟨xb, 0, none⟩ = some (.int .u16 i) ∧ W.cell? ⟨xb, 1, none⟩ = some (.int .u16 j) ∧ W.cell? ⟨bg, off + c, none⟩ = some (.int .i64 gx)) (by kernel_rfl) hS2 (fun hHeld => ?_)
      clear hHeld
      refine tk 0 (.pointer (some ⟨b, 0, none⟩)) rfl (by kernel_rfl) (fun _ _ _ h => h) (Or.inl ⟨by rfl, ?_⟩) (by assumption) ?_
      · rintro W ⟨s0, s1, s2⟩; go_simp
      (try simp only [Act.put, q1, q2, q3, q4, q5, q6])
      refine tk 1 (.int .i64 (64 * (kk : Int))) rfl (by kernel_rfl) (fun _ _ _ h => h) (Or.inl ⟨by rfl, ?_⟩) (by assumption) ?_
      · rintro W ⟨s0, s1, s2⟩; go_simp
      (try simp only [Act.put, q1, q2, q3, q4, q5, q6])
      refine tk 2 (.int .i64 (64 * (kk : Int))) rfl (by kernel_rfl) (fun _ _ _ h => h) (Or.inl ⟨by rfl, ?_⟩) (by assumption) ?_
      · rintro W ⟨s0, s1, s2⟩; go_simp
      (try simp only [Act.put, q1, q2, q3, q4, q5, q6])
      refine tk 3 (.slice (some ⟨bg, off, none⟩) L cap) rfl (by kernel_rfl) (fun _ _ _ h => h) (Or.inl ⟨by rfl, ?_⟩) (by assumption) ?_
      · rintro W ⟨s0, s1, s2⟩; go_simp
      (try simp only [Act.put, q1, q2, q3, q4, q5, q6])
      refine tk 4 (.int .i64 (c)) rfl (by kernel_rfl) (fun _ _ _ h => h) (Or.inl ⟨by rfl, ?_⟩) (by assumption) ?_
      · rintro W ⟨s0, s1, s2⟩; go_simp
      (try simp only [Act.put, q1, q2, q3, q4, q5, q6])
      refine tk 5 (.pointer (some ⟨bg, off + c, none⟩)) rfl (by kernel_rfl) (fun _ _ _ h => h) (Or.inl ⟨by rfl, ?_⟩) (by assumption) ?_
      · rintro W ⟨s0, s1, s2⟩; go_simp
      (try simp only [Act.put, q1, q2, q3, q4, q5, q6])
      refine tk 6 (.int .i64 (gx)) rfl (by kernel_rfl) (fun _ _ _ h => h) (Or.inl ⟨by rfl, ?_⟩) (by assumption) ?_
      · rintro W ⟨s0, s1, s2⟩; go_simp
      (try simp only [Act.put, q1, q2, q3, q4, q5, q6])
      refine tk 7 (.agg #[.int .u16 i, .int .u16 j]) rfl (by kernel_rfl) (fun _ _ _ h => h) (Or.inl ⟨by rfl, ?_⟩) (by assumption) ?_
      · rintro W ⟨s0, s1, s2⟩; go_simp
      (try simp only [Act.put, q1, q2, q3, q4, q5, q6])
      refine wpAnyH_ready (rs := [8]) (by kernel_rfl) (by simp) (AllReadyH.cons rfl (fun K hK => ?_) AllReadyH.nil)
      go_simp
      go_at_call 15
      obtain ⟨hi, hj, hf, h0, h6⟩ := HO.out
      refine ((hm2.low (Below.refl _ _).drew).take HT.out gx hi hj hf h0 h6).mono ?_
      clear hi hj hf h0 h6
      rintro e w3 ⟨x, E, rfl, hbe3, P3, X3, hor⟩
      have HOR := Lib.hid hor
      clear hor
      have hS3 : w3.cell? ⟨xb, 0, none⟩ = some (.int .u16 i) ∧ w3.cell? ⟨xb, 1, none⟩ = some (.int .u16 j) ∧ w3.cell? ⟨bg, off + c, none⟩ = some (.int .i64 gx) := ⟨(HR.out _ hbe3).1, (HR.out _ hbe3).2, HGX.out _ hbe3⟩
      refine hK.out _ _ hS3 (fun hHeld => ?_)
      clear hK K hHeld hS2 hbe2 hm2
      (try simp only [Act.put, q1, q2, q3, q4, q5, q6])
      refine tk 9 (.tuple #[.int .i64 x, .int .i64 E]) rfl (by kernel_rfl) (fun _ _ _ h => h) (Or.inl ⟨by rfl, ?_⟩) (by assumption) ?_
      · rintro W ⟨s0, s1, s2⟩; go_simp
      (try simp only [Act.put, q1, q2, q3, q4, q5, q6])
      refine tk 10 (.int .i64 (x)) rfl (by kernel_rfl) (fun _ _ _ h => h) (Or.inl ⟨by rfl, ?_⟩) (by assumption) ?_
      · rintro W ⟨s0, s1, s2⟩; go_simp
      (try simp only [Act.put, q1, q2, q3, q4, q5, q6])
      refine tk 11 (.int .i64 (E)) rfl (by kernel_rfl) (fun _ _ _ h => h) (Or.inl ⟨by rfl, ?_⟩) (by assumption) ?_
      · rintro W ⟨s0, s1, s2⟩; go_simp
      (try simp only [Act.put, q1, q2, q3, q4, q5, q6])
      refine tk 12 (.int .i64 (x)) rfl (by kernel_rfl) (fun _ _ _ h => h) (Or.inl ⟨by rfl, ?_⟩) (by assumption) ?_
      · rintro W ⟨s0, s1, s2⟩; go_simp
      (try simp only [Act.put, q1, q2, q3, q4, q5, q6])
      refine tk 13 (.int .i64 (E)) rfl (by kernel_rfl) (fun _ _ _ h => h) (Or.inl ⟨by rfl, ?_⟩) (by assumption) ?_
      · rintro W ⟨s0, s1, s2⟩; go_simp
      (try simp only [Act.put, q1, q2, q3, q4, q5, q6])
      refine wpAnyH_done (by kernel_rfl) ?_ _
      clear hS3 hbe3
      rcases HOR.out with ⟨rfl, hm3⟩ | ⟨rfl, f, rfl, hT3, hO3, hm3⟩
      · clear HOR
        have KU := Lib.hid hm3.undo
        clear hm3
        go_wp2_with (go_at_call 17; refine KU.out.mono ?_; rintro e w4 ⟨rfl, P4, X4, hbk4⟩)
        have HS4 : Hid (∃ P M d X, Bk W1 w4 P M d (.pointer (some ⟨b, 0, none⟩)) (.pointer (some ⟨br, 0, none⟩)) X (64 * (kk : Int)) (newO kk) (bck (newO kk) l (i, j)) kk _ (l.map Int.ofNat)) := Lib.hid ⟨P4, M, d, X4, hbk4⟩
        clear hbk4
        go_roundw
        case rel => exact ⟨c + 1, by omega, by go_num, l, by omega, ao2, cap2, K, hK, rfl, HT, HS4⟩
        case measure => simp [intOf]; omega
      · clear HOR
        have KU := Lib.hid (hm3.keep hO3)
        have HT3 := Lib.hid hT3
        have hll : (l.map Int.ofNat).length = l.length := List.length_map _
        clear hm3 hO3 hT3
        go_wp2_with (first
          | (go_at_call 17; refine KU.out.mono ?_; rintro e w4 ⟨rfl, P4, X4, hbk4⟩; have hir4 := hbk4.ir)
          | (at_builtin
             refine wpList_append_intg w4 (f : Int) rfl (.tmp 85) (.tmp 87) rfl _ (l.map Int.ofNat) rfl hir4 (by rw [hll]; omega) rfl ?_
             intro g cap4 w6 hir6 hg6 ha6))
        have HS6 : Hid (∃ P M d X, Bk W1 w6 P M d (.pointer (some ⟨b, 0, none⟩)) (.pointer (some ⟨br, 0, none⟩)) X (64 * (kk : Int)) (newO kk) (bck (newO kk) (l ++ [f]) (i, j)) kk (.slice (some ⟨g, 0, none⟩) (l.length + 1) cap4) ((l ++ [f]).map Int.ofNat)) := Lib.hid ⟨P4, M, d, X4, by have hgr := hbk4.grow hir6 hg6 ha6; rw [hll] at hgr; rw [List.map_append]; exact hgr⟩
        clear hbk4 hir4 hir6 hg6 ha6
        go_roundw
        case rel => exact ⟨c + 1, by omega, by go_num, l ++ [f], by rw [List.length_append]; simp; omega, _, _, l.length + 1, Lib.hid (by rw [List.length_append]; rfl), rfl, HT3, HS6⟩
        case measure => simp [intOf]; omega
    · obtain rfl : c = L := by omega
      have hK15 : K ≤ 15 := by have := hK.out; omega
      clear hlc
      go_wp2
      go_loopw [92] (fun t WI => ∃ c : Nat, c ≤ K ∧ t = .int .i64 c ∧ Hid (∃ P M d X, Bk W1 WI P M d (.pointer (some ⟨b, 0, none⟩)) (.pointer (some ⟨br, 0, none⟩)) X (64 * (kk : Int)) (newO kk) (bck (newO kk) (l.drop c) (i, j)) kk (.slice ao2 K cap2) (l.map Int.ofNat))) (fun t _ => K - (intOf t).toNat)
      case atStart => exact ⟨0, by omega, rfl, HS⟩
      case round =>
        obtain ⟨q, hq, rfl, HQ⟩ := hrel
        clear HS
        by_cases hql : q < K
        · have eql : (q : Int) < (K : Int) := by omega
          obtain ⟨P, M, d, X, hbk⟩ := HQ.out
          have hql2 : q < l.length := by have := hK.out; omega
          have hlm : q < (l.map Int.ofNat).length := by rw [List.length_map]; exact hql2
          obtain ⟨g2, rfl⟩ := hbk.ir.addr (by omega)
          obtain ⟨f, hf1, hf2⟩ : ∃ f : Nat, l.drop q = f :: l.drop (q + 1) ∧ (l.map Int.ofNat).getD q 0 = (f : Int) := ⟨l[q], List.drop_eq_getElem_cons hql2, by simp [List.getD_eq_getElem?_getD, hql2]⟩
          rw [hf1] at hbk
          have HTQ : Hid (Tkn (newO kk) (f :: l.drop (q + 1))) := Lib.hid (hf1 ▸ HT.out.drop q)
          have KB := Lib.hid hbk.begin
          have HF := Lib.hid hf2
          have h0 := HO.out.2.2.2.1
          clear hbk HQ hf1 hf2 hql2
          go_wp2_with (first
            | (go_at_call 14; refine KB.out.mono ?_; rintro e w2 ⟨rfl, P2, hm2⟩; have hcl2 := hm2.ir.cellOf hlm; rw [HF.out] at hcl2)
            | (go_at_call 23; refine (hm2.give HTQ.out h0).mono ?_; rintro e w3 ⟨rfl, hO3, P3, X3, hm3⟩)
            | (go_at_call 17; refine (hm3.keep hO3).mono ?_; rintro e w4 ⟨rfl, P4, X4, hbk4⟩))
          have HQ4 : Hid (∃ P M d X, Bk W1 w4 P M d (.pointer (some ⟨b, 0, none⟩)) (.pointer (some ⟨br, 0, none⟩)) X (64 * (kk : Int)) (newO kk) (bck (newO kk) (l.drop (q + 1)) (i, j)) kk _ (l.map Int.ofNat)) := Lib.hid ⟨P4, M, d, X4, hbk4⟩
          clear hbk4 hm3 hO3 hm2 hcl2
          go_roundw
          case rel => exact ⟨q + 1, by omega, by go_num, HQ4⟩
          case measure => simp [intOf]; omega
        · obtain rfl : q = K := by omega
          have HS1 : Hid (∃ P M d X, Side W1 wr P M d (.pointer (some ⟨b, 0, none⟩)) (.pointer (some ⟨br, 0, none⟩)) X (64 * (kk : Int)) (newO kk) kk) := Lib.hid (by
            obtain ⟨P, M, d, X, hbk⟩ := HQ.out
            rw [hK.out, List.drop_length, bck_nil] at hbk
            exact ⟨P, M, d, X, hbk.side⟩)
          clear HQ
          obtain ⟨P, M, d, X, hsd⟩ := HS1.out
          have hk1 := HK.out.1
          obtain ⟨_, _, _, hrow⟩ := hsd.owner (j := 0) (by omega)
          obtain ⟨g0, cap0, r1, _, _⟩ := hrow _ (Below.refl _ _)
          clear hrow hsd
          go_wp2
          clear r1
          go_loopw [118] (fun t WI => ∃ j : Nat, j ≤ 64 * kk ∧ t = .int .i64 j ∧ Hid (∃ P M d X, Side W1 WI P M d (.pointer (some ⟨b, 0, none⟩)) (.pointer (some ⟨br, 0, none⟩)) X (64 * (kk : Int)) (newO kk) kk)) (fun t _ => 64 * kk - (intOf t).toNat)
          case atStart => exact ⟨0, by omega, rfl, HS1⟩
          case round =>
            obtain ⟨m, hm, rfl, HS⟩ := hrel
            clear HS1
            by_cases hml : m < 64 * kk
            · obtain ⟨P, M, d, X, hsd⟩ := HS.out
              have eml : (m : Int) < 64 * (kk : Int) := by omega
              have hk12 : (kk : Int) ≤ 12 := by have := HK.out.2; omega
              obtain ⟨u, v, KO, hrow⟩ := hsd.owner hml
              have HKO := Lib.hid KO
              have HRO : Hid (∀ W, Below wr.heap.size wr W → ∃ g cap, W.cell? ⟨br, 1, none⟩ = some (.slice (some ⟨g, 0, none⟩) (64 * kk) cap) ∧ W.cell? ⟨g, m * 2, none⟩ = some (.int .u16 u) ∧ W.cell? ⟨g, m * 2 + 1, none⟩ = some (.int .u16 v)) := Lib.hid hrow
              have HSD := Lib.hid hsd
              clear KO hrow hsd HS
              go_wp2_with (go_at_call 12; refine HKO.out.mono ?_; rintro e w7 ⟨rfl, hb7⟩; have hbx := hb7.trans ((below_box w7 (.cells #[.int .u16 u, .int .u16 v] 32)).mono hb7.size); have hnx := heap_alloc_new w7 (.cells #[.int .u16 u, .int .u16 v] 32))
              obtain ⟨g, capr, r1, r2, r3⟩ := HRO.out _ hbx
              have q0 := cell_of_row _ _ 0 _ _ _ hnx
              have q1 := cell_of_row _ _ 1 _ _ _ hnx
              have HS8 : Hid (∀ W, Below wr.heap.size wr W → ∃ P M d X, Side W1 W P M d (.pointer (some ⟨b, 0, none⟩)) (.pointer (some ⟨br, 0, none⟩)) X (64 * (kk : Int)) (newO kk) kk) := Lib.hid fun W hb => ⟨P, M, d, X, HSD.out.low hb⟩
              go_quiet (fail)
              go_wp2
              go_roundw
              case rel => exact ⟨m + 1, by omega, by go_num, Lib.hid (HS8.out _ (below_drewN' hbx _))⟩
              case measure => simp [intOf]; omega
            · obtain rfl : m = 64 * kk := by omega
              obtain ⟨P, M, d, X, hsd⟩ := HS.out
              have hbe := Lib.hid hsd.be
              clear hsd HS
              go_wp2
              go_ret
              exact ⟨rfl, HB1.out.trans (hbe.out.mono HB1.out.size)⟩
theorem lSpBack_of {w : World} {gr : Int} (hgr : 0 ≤ gr ∧ gr ≤ 255) {v : Value} {gl : List Int} (hv : ISl w v gl) {i j : Int} (hi : 0 ≤ i ∧ i ≤ 65535) (hj : 0 ≤ j ∧ j ≤ 65535) : Calls Tryz.prog 6 #[.int .u8 gr, v, .agg #[.int .u16 i, .int .u16 j]] w fun e w' => e = .returned (.bool true) ∧ Below w.heap.size w w' := by
  by_cases hno : 15 < gl.length ∨ frmO i j = false ∨ i = 0 ∨ i = 65535
  · obtain ⟨ao, cap, rfl⟩ := hv.shape
    exact lSpB_no gr ao _ cap hi hj hno
  · have hl : gl.length ≤ 15 := by
      by_cases h : 15 < gl.length
      · exact absurd (.inl h) hno
      · omega
    have hf : frmO i j = true := by
      cases h : frmO i j
      · exact absurd (.inr (.inl h)) hno
      · rfl
    exact lSpB_yes hgr hv hl hi hj hf (fun h => hno (.inr (.inr (.inl h)))) (fun h => hno (.inr (.inr (.inr h))))
theorem lSpBack_op {w : World} {gr : Int} (hgr : 0 ≤ gr ∧ gr ≤ 255) {v v2 : Value} {gl : List Int} (hv : ISl w v gl) {t : Int × Int} (ht : v2 = .agg #[.int .u16 t.1, .int .u16 t.2] ∧ (0 ≤ t.1 ∧ t.1 ≤ 65535) ∧ (0 ≤ t.2 ∧ t.2 ≤ 65535)) : Calls Tryz.prog 6 #[.int .u8 gr, v, v2] w fun e w' => e = .returned (.bool true) ∧ Below w.heap.size w w' := by
  obtain ⟨rfl, hi, hj⟩ := ht
  exact lSpBack_of hgr hv hi hj
end Go.Proofs.YtkbeencjklgcnaaGreat

/- An argument of type []int, opened to its cells. -/
namespace Go.Proofs.YtkbeencjklgcnaaGreat
set_option maxRecDepth 100000
open Go.RowKit Go.ChangeShapes Go.WideShapes
set_option linter.unusedVariables false
section
variable {H : Type} {enc : TypeId × Value → H} {W : World} {base : Nat} {spare : Nat → Bool} {held : Bool}
theorem isl_open {v : Value} {d : DataW H} {p : List MemPlace} {r : Reach} {b0 : Nat} (hv : Value.okWide Tryz.prog W r b0 55 v) (h : DataW.Trod enc Tryz.prog W base (fun _ => true) held 55 v d p) : ∃ l, ISl W v l := by
  obtain ⟨a0, len0, cap0, rfl⟩ := okWide_slice Tryz.underlying55 hv
  obtain ⟨fuel, hf⟩ := h
  rcases open_ints Tryz.underlying55 Tryz.underlying3 (by kernel_rfl) hf with ⟨hcs, _⟩ | ⟨x, l, c, zs, hcs, _, hl, hm, hz, hx, hcell, hwz⟩
  · simp [Value.cells] at hcs
    obtain ⟨rfl, rfl, rfl⟩ := hcs
    exact ⟨[], .inl ⟨rfl, rfl⟩⟩
  · simp [Value.cells] at hcs
    obtain ⟨rfl, rfl, rfl⟩ := hcs
    have hz' : zs.length = cap0 := by simpa using hz
    have hlen : (zs.take len0).length = len0 := by simp; omega
    refine ⟨zs.take len0, .inr ⟨x, cap0, by rw [hlen], fun j hj => ?_⟩⟩
    rw [hlen] at hj
    have h0 := hcell j (by omega)
    have hget : (zs.take len0).getD j 0 = zs.getD j 0 := by simp [List.getD_eq_getElem?_getD, hj]
    obtain ⟨b, off, spot⟩ := x
    have hspot : spot = none := by
      have h00 := hcell 0 (by omega)
      simpa [Addr.add] using World.cell?_spot h00
    subst hspot
    rw [Addr.add_lit] at h0
    exact ⟨by have := block_lt_of_cell h0; exact this, rfl, by rw [hget]; exact h0⟩
end
end Go.Proofs.YtkbeencjklgcnaaGreat

/- The law SpaceFills: an owner that is well formed. -/
namespace Go.Proofs.YtkbeencjklgcnaaGreat
set_option maxRecDepth 100000
open Go.RowKit
set_option linter.unusedVariables false

set_option maxHeartbeats 2000000 in
theorem lSpF_yes {w : World} {gr li : Int} (hgr : 0 ≤ gr ∧ gr ≤ 255) (hli : 0 ≤ li ∧ li ≤ 255) (goal : Int) {i j : Int} (hi : 0 ≤ i ∧ i ≤ 65535) (hj : 0 ≤ j ∧ j ≤ 65535) (hf : frmO i j = true) (h0 : i ≠ 0) (h6 : i ≠ 65535) : Calls Tryz.prog 4 #[.int .u8 gr, .int .u8 li, .int .i64 goal, .agg #[.int .u16 i, .int .u16 j]] w fun e w' => e = .returned (.bool true) ∧ Below w.heap.size w w' := by
  obtain ⟨W1, hW1⟩ : ∃ W1, W1 = w.alloc (.cells #[.int .u16 i, .int .u16 j] 32) := ⟨_, rfl⟩
  have HB1 : Hid (Below w.heap.size w W1) := Lib.hid (by rw [hW1]; exact below_box w _)
  have hnx : W1.heap[w.heap.size]? = some (.cells #[.int .u16 i, .int .u16 j] 32 (0, 0)) := by rw [hW1]; exact heap_alloc_new w _
  obtain ⟨xb, hxb⟩ : ∃ xb, xb = w.heap.size := ⟨_, rfl⟩
  have HXB := Lib.hid hxb
  rw [← hxb] at hnx
  have HR : Hid (∀ W, Below W1.heap.size W1 W → W.cell? ⟨xb, 0, none⟩ = some (.int .u16 i) ∧ W.cell? ⟨xb, 1, none⟩ = some (.int .u16 j)) := Lib.hid fun W hb => ⟨cell_of_row _ _ _ _ _ _ (below_hold hnx hb), cell_of_row _ _ _ _ _ _ (below_hold hnx hb)⟩
  have HW1 := Lib.hid hW1.symm
  have KA := Lib.hid (awake12_any W1)
  have KF := Lib.hid (rrForm_is i j hi hj true hf)
  obtain ⟨q, hq⟩ : ∃ q : Nat, gr.tmod 4 = q := ⟨(gr % 4).toNat, by rw [Int.tmod_eq_emod_of_nonneg hgr.1]; omega⟩
  have hq4 : q < 4 := by rw [Int.tmod_eq_emod_of_nonneg hgr.1] at hq; omega
  obtain ⟨kk, hkk⟩ : ∃ kk, kk = q + 1 := ⟨_, rfl⟩
  have k1 : 1 ≤ kk := by omega
  have k5 : kk < 5 := by omega
  have k12 : kk ≤ 12 := by omega
  have KZ : Hid (∀ W : World, Calls Tryz.prog 8 #[.int .u8 q] W fun e w' => e = .returned (.int .i64 (64 * (kk : Int))) ∧ W = w') := Lib.hid fun W => (sized12_is (q : Int) (by omega) W).mono fun e w' ⟨k2, _, h2, h3, h4⟩ => ⟨by rw [h3]; exact ret_i (by omega), h4⟩
  obtain ⟨r, hr⟩ : ∃ r : Nat, li.tmod (kk : Int) = r := ⟨(li % (kk : Int)).toNat, by rw [Int.tmod_eq_emod_of_nonneg hli.1]; have := Int.emod_nonneg li (show (kk : Int) ≠ 0 by omega); omega⟩
  have hrk : r < kk := by rw [Int.tmod_eq_emod_of_nonneg hli.1] at hr; have := Int.emod_lt_of_pos li (show (0 : Int) < kk by omega); omega
  have hdv : (64 * (kk : Int)).tdiv 64 = kk := by rw [Int.tdiv_eq_ediv_of_nonneg (by omega)]; omega
  have hkz : (kk : Int) ≠ 0 := by omega
  have hrb : (r : Int) < 5 := by omega
  have hkb : (kk : Int) < 5 := by omega
  have hk1 : (1 : Int) ≤ kk := by omega
  have HM : Hid (((r + 1 : Nat) : Int) = 1 + (r : Int)) := Lib.hid (by omega)
  have HK := Lib.hid (And.intro k1 (And.intro k12 (And.intro hrk (cnt_new kk k5 k1))))
  have KS := Lib.hid (fun (W : World) (hb : Below W1.heap.size W1 W) => start12 k1 k12 W1 hb)
  have HO := Lib.hid (And.intro hi (And.intro hj (And.intro hf (And.intro h0 h6))))
  have e6 : (i == 65535) = false := by simpa using h6
  have e0 : (i == 0) = false := by simpa using h0
  clear hW1 hnx hkk hgr hi hj hf h0 h6 hxb hq4 k1 k5 k12 hrk
  go_enter Tryz.func4, Tryz.ntmps4
  go_upto_region 1 with (fail)
  rw [HW1.out]
  rw [← HXB.out]
  go_wp2_with (first
    | (go_at_call 7; refine KA.out.mono ?_; rintro e w2 ⟨rfl, hb2⟩; obtain ⟨x20, x21⟩ := HR.out _ hb2)
    | (go_at_call 13; refine (KF.out _).mono ?_; rintro e w3 ⟨rfl, hb3⟩; have hb13 := hb2.trans (hb3.mono hb2.size); obtain ⟨x30, x31⟩ := HR.out _ hb13)
    | (go_at_call 8; refine (KZ.out _).mono ?_; rintro e w' ⟨rfl, rfl⟩)
    | (go_at_call 9; refine (KS.out _ hb13).mono ?_; rintro e w4 ⟨b, rfl, hb4, KN⟩)
    | (go_at_call 10; refine (KN (Below.refl _ _)).mono ?_; rintro e w5 ⟨br, P5, M5, d5, X5, rfl, hsd⟩))
  have HS0 : Hid (∃ P M d X O, Side W1 w5 P M d (.pointer (some ⟨b, 0, none⟩)) (.pointer (some ⟨br, 0, none⟩)) X (64 * (kk : Int)) O kk ∧ cntU O (64 * kk) = 6 + 0 ∧ (6 : Int) + ((0 : Nat) : Int) ≤ 62 * (1 + (r : Int)) - 42) := Lib.hid ⟨P5, M5, d5, X5, _, hsd, HK.out.2.2.2, by omega⟩
  clear hsd x20 x21 x30 x31 hb2 hb3 hb13 hb4 KN
  go_loopw [57] (fun t WI => ∃ c : Nat, c ≤ 64 * kk ∧ t = .int .i64 c ∧ Hid (∃ P M d X O, Side W1 WI P M d (.pointer (some ⟨b, 0, none⟩)) (.pointer (some ⟨br, 0, none⟩)) X (64 * (kk : Int)) O kk ∧ cntU O (64 * kk) = 6 + c ∧ (6 : Int) + (c : Int) ≤ 62 * (1 + (r : Int)) - 42)) (fun t _ => 64 * kk - (intOf t).toNat)
  case atStart => exact ⟨0, by omega, rfl, HS0⟩
  case round =>
    obtain ⟨c, hc, rfl, HS⟩ := hrel
    clear HS0
    obtain ⟨P, M, d, X, O, hsd, hcnt, hle⟩ := HS.out
    have hck : c < 64 * kk := by have := HK.out.2.2.1; omega
    have hcI : (c : Int) < 64 * (kk : Int) := by omega
    have KB := Lib.hid hsd.begin
    obtain ⟨x0, x1⟩ := HR.out _ hsd.be
    have hok := hsd.ok
    obtain ⟨g1, g2, g3, g4, g5⟩ := HO.out
    obtain ⟨k1, k12, hrk, _⟩ := HK.out
    by_cases hfull : 62 * ((r + 1 : Nat) : Int) - 42 ≤ cntU O (64 * kk)
    · have HB := take_full12 hok (a := kk) (m := r + 1) (by omega) (by omega) (Nat.le_refl _) goal g1 g2 g3 g4 g5 hfull
      rw [HM.out] at HB
      have HBB := Lib.hid HB
      have hb0 := Lib.hid hsd.be
      clear HB hfull hok hsd hcnt hle g1 g2 g3 g4 g5 HS
      go_wp2_with (first
        | (go_at_call 14; refine KB.out.mono ?_; rintro e w6 ⟨rfl, P6, hm6, hs6, _⟩; obtain ⟨x60, x61⟩ := HR.out _ hm6.be)
        | (go_at_call 15; refine (HBB.out.land hm6 hs6).mono ?_; rintro e w7 ⟨rfl, P7, X7, hm7, hs7, _⟩; obtain ⟨x70, x71⟩ := HR.out _ hm7.be)
        | (go_at_call 16; refine (HBB.out.refe hm7 hs7).mono ?_; rintro e w8 ⟨rfl, hm8, hs8, _⟩)
        | (go_at_call 17; refine (hm8.undo hs8).mono ?_; rintro e w9 ⟨rfl, P9, X9, hsd9, _⟩; have hus := hsd9.used)
        | (go_at_call 18; refine hus.1.mono ?_; rintro e w10 ⟨rfl, hb10⟩)
        | (go_at_call 19; refine (hus.2 _ hb10).mono ?_; rintro e w11 ⟨rfl, rfl⟩))
      go_ret
      exact ⟨rfl, HB1.out.trans ((hsd9.be.trans (hb10.mono hsd9.be.size)).mono HB1.out.size)⟩
    · have hmono := cntU_mono O (show 64 * (r + 1) ≤ 64 * kk by omega)
      obtain ⟨f, f1, f2, f3, f4⟩ := find_free hok (m := r + 1) (g := goalS (64 * (r + 1)) goal) (by omega) (by omega) (by unfold goalS; split <;> omega) (by omega)
      have hfI : (f : Int) < 64 * (1 + (r : Int)) := by omega
      have HB := take_yes12 hok (a := kk) (m := r + 1) (by omega) (by omega) (Nat.le_refl _) goal g1 g2 g3 g4 g5 (by omega) f1 f2 f4
      rw [HM.out] at HB
      have HBB := Lib.hid HB
      have HO2 := Lib.hid (hok.set (by omega) f4 g1 g2 g3 g5)
      have HC2 : Hid (cntU (O.set f (i, j)) (64 * kk) = 6 + (c + 1) ∧ (6 : Int) + ((c + 1 : Nat) : Int) ≤ 62 * (1 + (r : Int)) - 42) := Lib.hid ⟨by rw [cntU_set (by rw [hok.len]; omega) f3 f4 g4 _ (by omega), hcnt]; omega, by omega⟩
      clear HB hfull hok hsd hcnt hle g1 g2 g3 g4 g5 HS hmono f1 f2 f3 f4
      go_wp2_with (first
        | (go_at_call 14; refine KB.out.mono ?_; rintro e w6 ⟨rfl, P6, hm6, hs6, _⟩; obtain ⟨x60, x61⟩ := HR.out _ hm6.be)
        | (go_at_call 15; refine (HBB.out.land hm6 hs6).mono ?_; rintro e w7 ⟨rfl, P7, X7, hm7, hs7, _⟩; obtain ⟨x70, x71⟩ := HR.out _ hm7.be)
        | (go_at_call 16; refine (HBB.out.refe hm7 hs7).mono ?_; rintro e w8 ⟨rfl, hm8, hs8, _⟩)
        | (go_at_call 17; refine (hm8.keep HO2.out hs8).mono ?_; rintro e w9 ⟨rfl, P9, X9, hsd9, _⟩))
      have HS9 : Hid (∃ P M d X O, Side W1 w9 P M d (.pointer (some ⟨b, 0, none⟩)) (.pointer (some ⟨br, 0, none⟩)) X (64 * (kk : Int)) O kk ∧ cntU O (64 * kk) = 6 + (c + 1) ∧ (6 : Int) + ((c + 1 : Nat) : Int) ≤ 62 * (1 + (r : Int)) - 42) := Lib.hid ⟨P9, M, d, X9, _, hsd9, HC2.out⟩
      clear hm6 hs6 hm7 hs7 hm8 hs8 hsd9 x0 x1 x60 x61 x70 x71
      go_roundw
      case rel => exact ⟨c + 1, by omega, by go_num, HS9⟩
      case measure => simp [intOf]; omega
section
open Go.ChangeShapes Go.WideShapes
theorem ow12_op {H : Type} {enc : TypeId × Value → H} {W : World} {base : Nat} {held : Bool} {v : Value} {d : DataW H} {p : List MemPlace} {r : Reach} {b0 : Nat} (hv : Value.okWide Tryz.prog W r b0 32 v) (h : DataW.Trod enc Tryz.prog W base (fun _ => true) held 32 v d p) : ∃ t : Int × Int, v = .agg #[.int .u16 t.1, .int .u16 t.2] ∧ (0 ≤ t.1 ∧ t.1 ≤ 65535) ∧ (0 ≤ t.2 ∧ t.2 ≤ 65535) := by
  obtain ⟨i, a, h1, h2, h3⟩ := ow12_open hv h
  exact ⟨(i, a), h1, h2, h3⟩
end
theorem lSpFills_of {w : World} {gr li goal : Int} (hgr : 0 ≤ gr ∧ gr ≤ 255) (hli : 0 ≤ li ∧ li ≤ 255) {v : Value} {t : Int × Int} (h : v = .agg #[.int .u16 t.1, .int .u16 t.2] ∧ (0 ≤ t.1 ∧ t.1 ≤ 65535) ∧ (0 ≤ t.2 ∧ t.2 ≤ 65535)) : Calls Tryz.prog 4 #[.int .u8 gr, .int .u8 li, .int .i64 goal, v] w fun e w' => e = .returned (.bool true) ∧ Below w.heap.size w w' := by
  obtain ⟨i, j⟩ := t
  obtain ⟨rfl, hi, hj⟩ := h
  by_cases hno : frmO i j = false ∨ i = 0 ∨ i = 65535
  · exact lSpF_no gr li goal hi hj hno
  · have hf : frmO i j = true := by cases h : frmO i j; · exact absurd (.inl h) hno
                                    · rfl
    exact lSpF_yes hgr hli goal hi hj hf (fun h => hno (.inr (.inl h))) (fun h => hno (.inr (.inr h)))
end Go.Proofs.YtkbeencjklgcnaaGreat
