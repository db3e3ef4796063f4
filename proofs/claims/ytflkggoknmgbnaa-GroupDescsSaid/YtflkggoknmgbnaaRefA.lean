/- Contracts of the reference's rows (layer 1): New, Get, Set, Count, Run, First. -/
import Derived.Test.YtflkggoknmgbnaaBitsC
namespace Go.Proofs.Ytflkggoknmgbnaa
open Go.RowKit BM

theorem infoBool : (Try.prog.info? 4).map (fun i => (i.zero, i.size, i.bytes)) = some (some (.bool false), 1, 1) := by kernel_rfl

/-- At block p of the world lies the reference's Row, its bools at block g. -/
def RRow (w : World) (p g : Nat) (L : List Bool) : Prop :=
  L.length ≤ 4096 ∧ w.heap[p]? = some (.cells #[.slice (some ⟨g, 0, none⟩) L.length L.length] 64 (0, 0)) ∧ w.heap[g]? = some (.cells (L.map Value.bool).toArray 4 (0, 0))
theorem RRow.drewN {w : World} {p g : Nat} {L : List Bool} (h : RRow w p g L) (n : Nat) : RRow (w.drewN n) p g L := h
theorem RRow.of_heap {w w' : World} {p g : Nat} {L : List Bool} (h : RRow w p g L) (hp : w'.heap[p]? = w.heap[p]?) (hg : w'.heap[g]? = w.heap[g]?) : RRow w' p g L :=
  ⟨h.1, by rw [hp, h.2.1], by rw [hg, h.2.2]⟩
theorem RRow.lt {w : World} {p g : Nat} {L : List Bool} (h : RRow w p g L) : p < w.heap.size ∧ g < w.heap.size :=
  ⟨(Array.getElem?_eq_some_iff.1 h.2.1).1, (Array.getElem?_eq_some_iff.1 h.2.2).1⟩
theorem RRow.ne {w : World} {p g : Nat} {L : List Bool} (h : RRow w p g L) : p ≠ g := fun e => by
  have h1 := h.2.1; have h2 := h.2.2
  rw [e, h2] at h1; simp at h1
theorem RRow.below {w w' : World} {p g B : Nat} {L : List Bool} (h : RRow w p g L) (hb : Below B w w') (h1 : p < B) (h2 : g < B) : RRow w' p g L :=
  h.of_heap (hb.block p h1) (hb.block g h2)
theorem RRow.cells {w : World} {p g : Nat} {L : List Bool} (h : RRow w p g L) : w.cell? ⟨p, 0, none⟩ = some (.slice (some ⟨g, 0, none⟩) L.length L.length) ∧
    (∀ j, j < L.length → w.cell? ⟨g, j, none⟩ = some (.bool (L.getD j false))) ∧ (∀ j, w.frozen? ⟨g, j, none⟩ = false) := by
  refine ⟨by rw [cell_of_row _ _ _ _ _ _ h.2.1]; rfl, fun j hj => ?_, fun j => frozen_of_row _ _ _ _ _ h.2.2⟩
  rw [cell_of_row _ _ _ _ _ _ h.2.2]
  simp [List.getD_eq_getElem?_getD, hj]

theorem wpList_make_bool (w : World) {ops : Array Oper} {rest : List Oper} {o : Oper} {a : Act} {Q : Exit → Act → World → Prop}
    (hg : o.guard = none) (l c : Operand) (hop : o.op = Op.makeSlice 22 l c) (C : Int) (n : Nat) (hl : a.eval l = .int .i64 C) (hc : a.eval c = .int .i64 C) (hC : C = n) (hn : n ≤ 1000000000)
    (hK : wpList Try.prog ops Q rest (a.put o.dst (.slice (some ⟨w.heap.size, 0, none⟩) n n)) (w.alloc (.cells (Array.replicate n (.bool false)) 4))) :
    wpList Try.prog ops Q (o :: rest) a w := by
  refine wpList_plain hg fun K hK' => ?_
  obtain ⟨i, h2, h3, h4, h5⟩ := info_parts infoBool
  subst hC
  have hrun := run_make (P := Try.prog) w 22 4 i (.bool false) Try.underlying22 h2 h3 .i64 .i64 n n (by omega) (by omega) (by rw [h5]; omega) (by omega)
  unfold Oper.wp
  simp only [Int.toNat_natCast, h4, Nat.mul_one] at hrun
  have e : madeCells (Value.bool false).cells n = Array.replicate n (.bool false) := by
    apply Array.ext'
    rw [show (Value.bool false).cells = #[Value.bool false] from rfl, toList_madeCells_one]
    simp
  rw [e] at hrun
  simp [execOp, hop, hl, hc, hrun, Result.andThen]
  exact hK' _ _ hK

theorem rNew_at (n : Int) (k : Nat) (hk : k ≤ 4096) (w : World) (hn : if n < 0 then k = 0 else if 4096 < n then k = 4096 else n = k) :
    Calls Try.prog 55 #[.int .i64 n] w fun e w' => e = .returned (.pointer (some ⟨w.heap.size + 1, 0, none⟩)) ∧ RRow w' (w.heap.size + 1) w.heap.size (List.replicate k false) ∧ Below w.heap.size w w' ∧ w'.heap.size = w.heap.size + 2 := by
  have fin : ∀ w', w' = (w.alloc (.cells (Array.replicate k (.bool false)) 4)).alloc (.cells #[.slice (some ⟨w.heap.size, 0, none⟩) k k] 64) →
      RRow w' (w.heap.size + 1) w.heap.size (List.replicate k false) ∧ Below w.heap.size w w' ∧ w'.heap.size = w.heap.size + 2 := by
    rintro w' rfl
    refine ⟨⟨by simpa using hk, ?_, ?_⟩, ((Below.refl _ _).alloc (Nat.le_refl _) _).alloc (by simp) _, by simp⟩
    · rw [heap_alloc2_new]; simp
    · rw [heap_alloc2_old]; simp
  by_cases h1 : n < 0
  · rw [if_pos h1] at hn
    have HK : Hid (k = 0) := hn
    clear hn
    go_enter Try.func55, Try.ntmps55
    go_wp2_with (at_make; refine wpList_make_bool _ rfl _ _ rfl _ k rfl rfl (by rw [HK.out]; rfl) (by omega) ?_)
    go_ret
    exact ⟨rfl, fin _ rfl⟩
  · rw [if_neg h1] at hn
    by_cases h2 : 4096 < n
    · rw [if_pos h2] at hn
      have HK : Hid (k = 4096) := hn
      clear hn
      go_enter Try.func55, Try.ntmps55
      go_wp2_with (at_make; refine wpList_make_bool _ rfl _ _ rfl _ k rfl rfl (by rw [HK.out]; rfl) (by omega) ?_)
      go_ret
      exact ⟨rfl, fin _ rfl⟩
    · rw [if_neg h2] at hn
      have HK : Hid (n = k) := hn
      clear hn
      go_enter Try.func55, Try.ntmps55
      go_wp2_with (at_make; refine wpList_make_bool _ rfl _ _ rfl _ k rfl rfl (by rw [HK.out]) (by omega) ?_)
      go_ret
      exact ⟨rfl, fin _ rfl⟩

theorem rNew_any (n : Int) (w : World) :
    Calls Try.prog 55 #[.int .i64 n] w fun e w' => e = .returned (.pointer (some ⟨w.heap.size + 1, 0, none⟩)) ∧ RRow w' (w.heap.size + 1) w.heap.size (List.replicate (clampN n) false) ∧ Below w.heap.size w w' ∧ w'.heap.size = w.heap.size + 2 :=
  rNew_at n _ (clampN_le n) w (by unfold clampN; by_cases h1 : n < 0 <;> by_cases h2 : 4096 < n <;> simp [h1, h2] <;> omega)

theorem rCount_any {w : World} {p g : Nat} {L : List Bool} (h : RRow w p g L) :
    Calls Try.prog 33 #[.pointer (some ⟨p, 0, none⟩)] w fun e w' => e = .returned (.int .i64 (countB L)) ∧ w = w' := by
  have hn := h.1
  obtain ⟨hs, hx, hf⟩ := h.cells
  have HX := Lib.hid hx
  clear hf hx
  go_enter Try.func33, Try.ntmps33
  go_wp2_with fail
  go_loop [3, 10] (fun c i => ∃ k : Nat, k ≤ L.length ∧ i = .int .i64 k ∧ c = .int .i64 (countB (L.take k))) (fun _ i => L.length - (intOf i).toNat)
  case atStart => exact ⟨0, by omega, rfl, rfl⟩
  case round =>
    obtain ⟨k, hk, rfl, rfl⟩ := hrel
    have hle := countB_take_le L k
    obtain ⟨C, hC⟩ : ∃ C, C = countB (L.take k) := ⟨_, rfl⟩
    rw [← hC] at hle ⊢
    by_cases hlt : k < L.length
    · have hstep := countB_take hlt
      have hc := HX.out k hlt
      cases hb : L.getD k false
      · rw [hb, if_neg (by decide), ← hC] at hstep
        rw [hb] at hc
        have HS := Lib.hid hstep
        clear hb hstep hC
        go_wp2_with fail
        go_round
        case rel => exact ⟨k + 1, by omega, by go_num, by rw [HS.out]; go_num⟩
        case measure => simp [intOf]; omega
      · rw [hb, if_pos rfl, ← hC] at hstep
        rw [hb] at hc
        have HS := Lib.hid hstep
        clear hb hstep hC
        go_wp2_with fail
        go_round
        case rel => exact ⟨k + 1, by omega, by go_num, by rw [HS.out]; go_num⟩
        case measure => simp [intOf]; omega
    · have HC := Lib.hid hC
      clear hC
      go_wp2_with fail
      go_ret
      exact ⟨ret_int (by rw [HC.out, List.take_of_length_le (by omega)]), rfl⟩

end Go.Proofs.Ytflkggoknmgbnaa
