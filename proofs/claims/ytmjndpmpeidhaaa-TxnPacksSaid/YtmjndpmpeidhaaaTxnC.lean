/- Contracts of package txn: copies. -/
import Derived.Test.YtmjndpmpeidhaaaTxnB
namespace Go.Proofs.Ytmjndpmpeidhaaa
open Go.RowKit
set_option linter.unusedVariables false

theorem made_bb (n : Nat) : madeCells (Value.slice none 0 0).cells n = Array.replicate n (Value.slice none 0 0) := by
  apply Array.ext'
  rw [show (Value.slice none 0 0).cells = #[Value.slice none 0 0] from rfl, toList_madeCells_one]
  simp
/-- make([][]byte, n). -/
theorem wpList_make_bb (w : World) {ops : Array Oper} {rest : List Oper} {o : Oper} {a : Act} {Q : Exit → Act → World → Prop}
    (hg : o.guard = none) (l c : Operand) (hop : o.op = Op.makeSlice 24 l c) (C : Int) (n : Nat) (hl : a.eval l = .int .i64 C) (hc : a.eval c = .int .i64 C) (hC : C = n) (hn : n ≤ 1000000)
    (hK : wpList Try.prog ops Q rest (a.put o.dst (.slice (some ⟨w.heap.size, 0, none⟩) n n)) (w.alloc (.cells (Array.replicate n (Value.slice none 0 0)) 40))) :
    wpList Try.prog ops Q (o :: rest) a w := by
  refine wpList_plain hg fun K hK' => ?_
  obtain ⟨i, h2, h3, h4, h5⟩ := info_parts infoBy
  subst hC
  have hrun := run_make (P := Try.prog) w 24 40 i (.slice none 0 0) Try.underlying24 h2 h3 .i64 .i64 n n (by omega) (by omega) (by rw [h5]; omega) (by omega)
  unfold Oper.wp
  simp only [Int.toNat_natCast, h4, Nat.mul_one, made_bb] at hrun
  simp [execOp, hop, hl, hc, hrun, Result.andThen]
  exact hK' _ _ hK
theorem bb_free {W : World} {g : Nat} {vs : List Value} {T : TypeId} (h : W.heap[g]? = some (.cells vs.toArray T (0, 0))) (k : Nat) : W.frozen? ⟨g, k, none⟩ = false := by
  simp [World.frozen?, h]
theorem bb_set {W : World} {g : Nat} {vs : List Value} {T : TypeId} (h : W.heap[g]? = some (.cells vs.toArray T (0, 0))) (j : Nat) (y : Value) : (W.setCell ⟨g, j, none⟩ y).heap[g]? = some (.cells (vs.set j y).toArray T (0, 0)) := by
  rw [heap_setCell_same W g j _ _ _ h]
  simp
/-- A row of []byte of which k are laid. -/
def RowB (w : World) (g B n : Nat) (D : List (List Int)) (k : Nat) : Prop :=
  ∃ vs : List Value, vs.length = n ∧ w.heap[g]? = some (.cells vs.toArray 40 (0, 0)) ∧ ∀ j, j < k → BElt w B (vs.getD j undef) (D.getD j [])
theorem RowB.make (w : World) (B n : Nat) (D : List (List Int)) : RowB (w.alloc (.cells (Array.replicate n (Value.slice none 0 0)) 40)) w.heap.size B n D 0 :=
  ⟨List.replicate n (Value.slice none 0 0), List.length_replicate, by rw [heap_alloc_new]; simp, fun j hj => absurd hj (Nat.not_lt_zero _)⟩
theorem RowB.row {w : World} {g B n : Nat} {D : List (List Int)} {k : Nat} (h : RowB w g B n D k) : ∃ vs : List Value, vs.length = n ∧ w.heap[g]? = some (.cells vs.toArray 40 (0, 0)) := by
  obtain ⟨vs, h1, h2, _⟩ := h
  exact ⟨vs, h1, h2⟩
theorem RowB.below {w w' : World} {g B n : Nat} {D : List (List Int)} {k : Nat} (h : RowB w g B n D k) (hb : Below w.heap.size w w') : RowB w' g B n D k := by
  obtain ⟨vs, h1, h2, h3⟩ := h
  have hg : g < w.heap.size := (Array.getElem?_eq_some_iff.1 h2).1
  exact ⟨vs, h1, (hb.block g hg).trans h2, fun j hj => (h3 j hj).below hb⟩
theorem RowB.set {w : World} {g B n : Nat} {D : List (List Int)} {k : Nat} (h : RowB w g B n D k) (hk : k < n) (hB : B ≤ g) {y : Value} (hy : BElt w B y (D.getD k [])) : RowB (w.setCell ⟨g, k, none⟩ y) g B n D (k + 1) := by
  obtain ⟨vs, h1, h2, h3⟩ := h
  have hgr : w.grownBy (w.setCell ⟨g, k, none⟩ y) (some g) := by
    have := Wrote.setCell w g k y
    exact ⟨this.1, this.2.1, this.2.2.1, by rw [this.2.2.2.1]; exact Nat.le_refl _, fun b hb hne => this.2.2.2.2 b (fun e => hne (by rw [e]))⟩
  have hrow : ∀ g', some g = some g' → B ≤ g' ∧ ∃ cur, w.heap[g']? = some (.cells cur 40 (0, 0)) := fun g' e => by
    obtain rfl := Option.some.inj e
    exact ⟨hB, _, h2⟩
  refine ⟨vs.set k y, by rw [List.length_set]; exact h1, bb_set h2 k y, fun j hj => ?_⟩
  by_cases e : j = k
  · subst e
    have := hy.grown hrow hgr
    simpa [List.getD_eq_getElem?_getD, h1, hk] using this
  · have := (h3 j (by omega)).grown hrow hgr
    rw [List.getD_eq_getElem?_getD, List.getElem?_set_ne (by omega), ← List.getD_eq_getElem?_getD]
    exact this
theorem RowB.done {w : World} {g B : Nat} {D : List (List Int)} (h : RowB w g B D.length D D.length) (hB : B ≤ g) (hm : D.length ≤ 1000000) : BBR w B (.slice (some ⟨g, 0, none⟩) D.length D.length) D := by
  obtain ⟨vs, h1, h2, h3⟩ := h
  refine ⟨vs, h1, h3, by rw [h1, Nat.mul_one], .inr ⟨g, D.length, _, rfl, hB, h2, Nat.le_refl _, by unfold maxLen; omega, by simp [h1], ?_⟩⟩
  rw [List.take_of_length_le (by simp [h1])]
theorem tCopies_of {w : World} {v : Value} {D : List (List Int)} (hs : BBSl w v D) (hD : D.length ≤ 1000000) (hl : ∀ j, (D.getD j []).length ≤ 1000000)
    (B : Nat) (hB : B ≤ w.heap.size) : Calls Try.prog 17 #[v] w fun e w' => ∃ u, e = .returned u ∧ BBR w' B u D ∧ Below w.heap.size w w' := by
  obtain ⟨ao, cap, rfl, _, hc⟩ := hs.open'
  have HDN := Lib.hid (fun W (h : RowB W w.heap.size B D.length D D.length) => h.done hB hD)
  have HBG := Lib.hid hB
  have HLN := Lib.hid hl
  obtain ⟨n, hn⟩ : ∃ n, n = D.length := ⟨_, rfl⟩
  rw [← hn] at hc hD HDN ⊢
  have HC := Lib.hid hc
  have hbx := below_box w (.cells (Array.replicate n (Value.slice none 0 0)) 40)
  have hr0 := RowB.make w B n D
  clear hs hc hl hn hB
  go_enter Try.func17, Try.ntmps17
  go_wp2_with (at_make; refine wpList_make_bb w rfl _ _ rfl (n : Int) n rfl rfl rfl hD ?_)
  generalize w.alloc (.cells (Array.replicate n (Value.slice none 0 0)) 40) = w1 at hbx hr0 ⊢
  have HR0 := Lib.hid hr0
  have HBX := Lib.hid hbx
  obtain ⟨g, hg⟩ : ∃ g, g = w.heap.size := ⟨_, rfl⟩
  rw [← hg] at HR0 HDN HBG ⊢
  have HG := Lib.hid hg
  clear hr0 hbx hg
  go_loopw [11] (fun i wr => ∃ k : Nat, k ≤ n ∧ i = .int .i64 k ∧ Hid (RowB wr g B n D k) ∧ Hid (Below w.heap.size w wr)) (fun i _ => n - (intOf i).toNat)
  case atStart => exact ⟨0, by omega, rfl, HR0, HBX⟩
  case round =>
    obtain ⟨k, hk, rfl, HR, HB⟩ := hrel
    clear HR0 HBX
    by_cases hlt : k < n
    · obtain ⟨b, off, rfl, hb, hcc⟩ := HC.out (by omega)
      obtain ⟨u, hcu, hu⟩ := hcc k hlt
      have hck := (HB.out.cell (p := ⟨b, off + k, none⟩) hb).trans hcu
      have KC := Lib.hid (bClone_of (hu.below HB.out) (HLN.out k))
      have ek : (k : Int) < (n : Int) := by omega
      obtain ⟨vs, hvl, hvr⟩ := HR.out.row
      have hgr : g < wr.heap.size := (Array.getElem?_eq_some_iff.1 hvr).1
      clear hcc hcu hu hb hvl hvr
      go_wp2_with (go_at_call 28; (with_reducible refine KC.out.mono ?_); rintro e w2 ⟨y, rfl, hoy, hb2⟩
                   obtain ⟨yo, yc, rfl, _⟩ := hoy.bsl.shape
                   generalize (D.getD k []).length = yl at hoy ⊢
                   have hr2 := HR.out.below hb2
                   have HY := Lib.hid (hoy.elt (B := B))
                   have HR2 := Lib.hid hr2
                   obtain ⟨vs2, hvl2, hvr2⟩ := hr2.row
                   have hf2 := bb_free hvr2 k
                   have hc2 : ∃ z, w2.cell? ⟨g, k, none⟩ = some z := ⟨vs2[k]'(by omega), by rw [cell_of_row _ _ _ _ _ _ hvr2]; simp [hvl2, hlt]⟩
                   obtain ⟨z, hz⟩ := hc2
                   have HB2 := Lib.hid (HB.out.trans (hb2.mono HB.out.size))
                   clear hr2 hvl2 hvr2 hoy)
      go_roundw
      case rel => exact ⟨k + 1, by omega, by go_num, HR2.out.set hlt HBG.out HY.out, (HB2.out.trans ((Wrote.setCell w2 g k _).below (by rw [HG.out]; exact Nat.le_refl _)))⟩
      case measure => simp [intOf]; omega
    · obtain rfl : k = n := by omega
      go_wp2
      go_ret
      exact ⟨_, rfl, HDN.out _ HR.out, HB.out⟩
end Go.Proofs.Ytmjndpmpeidhaaa
