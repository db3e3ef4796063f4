/- Contracts: Limit, the reference's Limit. -/
import Derived.Test.YtnpniackcdcooaaSupU
namespace Go.Proofs.Ytnpniackcdcooaa
open Go.RowKit
set_option linter.unusedVariables false

theorem sLimit_of {L : List Int} (hL : L.length = 12) (hT : Top L) (w : World) :
    Calls Try.prog 11 #[supV L] w fun e w' => e = .returned (.int .i64 (limS L)) ∧ Below w.heap.size w w' := by
  have h0 : frmS L = false ∨ frmS L = true := by cases frmS L <;> simp
  have KF : ∀ B, frmS L = B → _ := fun B h => sFormed_is hL hT B h
  have hr : limS L = if frmS L = true then (if num L 1 = 2 then num L 2 else num L 0) else 0 := rfl
  have hob := below_box w (supO L 26)
  have hh := heap_alloc_new w (supO L 26)
  obtain ⟨W1, hW1⟩ : ∃ W1, W1 = w.alloc (supO L 26) := ⟨_, rfl⟩
  rw [← hW1] at hob hh
  match L, hL with
  | [b, st, tg, cu, io, ba, t0, t1, t2, t3, t4, t5], _ =>
    have hW2 : w.alloc (.cells #[.int .i64 b, .int .i64 st, .int .i64 tg, .int .i64 cu, .int .i64 io, .int .i64 ba, .int .i64 t0, .int .i64 t1, .int .i64 t2, .int .i64 t3, .int .i64 t4, .int .i64 t5] 26) = W1 := by rw [hW1]; rfl
    have H2 := Lib.hid hW2
    have HH := Lib.hid hh
    change limS [b, st, tg, cu, io, ba, t0, t1, t2, t3, t4, t5] = if frmS [b, st, tg, cu, io, ba, t0, t1, t2, t3, t4, t5] = true then (if st = 2 then tg else b) else 0 at hr
    show Calls Try.prog 11 #[.agg #[.int .i64 b, .int .i64 st, .int .i64 tg, .int .i64 cu, .int .i64 io, .int .i64 ba, .int .i64 t0, .int .i64 t1, .int .i64 t2, .int .i64 t3, .int .i64 t4, .int .i64 t5]] w fun e w' => e = .returned (.int .i64 (limS _)) ∧ Below w.heap.size w w'
    rw [hr]
    rcases h0 with h0 | h0
    · rw [h0]
      have K0 : Hid (∀ w, Calls Try.prog 9 #[.agg #[.int .i64 b, .int .i64 st, .int .i64 tg, .int .i64 cu, .int .i64 io, .int .i64 ba, .int .i64 t0, .int .i64 t1, .int .i64 t2, .int .i64 t3, .int .i64 t4, .int .i64 t5]] w fun e w' => e = .returned (.bool false) ∧ Below w.heap.size w w') := Lib.hid (KF _ h0)
      clear KF hr h0 hW1 hW2 hT hh
      go_enter Try.func11, Try.ntmps11
      go_wp2_with (first | (go_at_call 9; rw [H2.out]; refine (K0.out _).mono ?_; rintro e w2 ⟨rfl, hb2⟩))
      go_ret
      exact ⟨rfl, hob.trans (hb2.mono hob.size)⟩
    · rw [h0]
      have K0 : Hid (∀ w, Calls Try.prog 9 #[.agg #[.int .i64 b, .int .i64 st, .int .i64 tg, .int .i64 cu, .int .i64 io, .int .i64 ba, .int .i64 t0, .int .i64 t1, .int .i64 t2, .int .i64 t3, .int .i64 t4, .int .i64 t5]] w fun e w' => e = .returned (.bool true) ∧ Below w.heap.size w w') := Lib.hid (KF _ h0)
      clear KF hr h0 hW1 hW2 hT hh
      by_cases h2 : st = 2
      · rw [if_pos rfl, if_pos h2]
        have h2' : (st == 2) = true := by simp [h2]
        clear h2
        go_enter Try.func11, Try.ntmps11
        go_wp2_with (first | (go_at_call 9; rw [H2.out]; refine (K0.out _).mono ?_; rintro e w2 ⟨rfl, hb2⟩; have hc := sup_cells ((hb2.block _ (Array.getElem?_eq_some_iff.1 HH.out).1).trans HH.out)))
        go_ret
        exact ⟨rfl, hob.trans (hb2.mono hob.size)⟩
      · rw [if_pos rfl, if_neg h2]
        have h2' : (st == 2) = false := by simp [h2]
        clear h2
        go_enter Try.func11, Try.ntmps11
        go_wp2_with (first | (go_at_call 9; rw [H2.out]; refine (K0.out _).mono ?_; rintro e w2 ⟨rfl, hb2⟩; have hc := sup_cells ((hb2.block _ (Array.getElem?_eq_some_iff.1 HH.out).1).trans HH.out)))
        go_ret
        exact ⟨rfl, hob.trans (hb2.mono hob.size)⟩

theorem rLimS_of {L : List Int} (hL : L.length = 12) (hT : Top L) (w : World) :
    Calls Try.prog 12 #[supV L] w fun e w' => e = .returned (.int .i64 (limS L)) ∧ Below w.heap.size w w' := by
  have h0 : frmS L = false ∨ frmS L = true := by cases frmS L <;> simp
  have KF : ∀ B, frmS L = B → _ := fun B h => rFormS_is hL hT B h
  have hr : limS L = if frmS L = true then (if num L 1 = 2 then num L 2 else num L 0) else 0 := rfl
  have hob := below_box w (supO L 24)
  have hh := heap_alloc_new w (supO L 24)
  obtain ⟨W1, hW1⟩ : ∃ W1, W1 = w.alloc (supO L 24) := ⟨_, rfl⟩
  rw [← hW1] at hob hh
  match L, hL with
  | [b, st, tg, cu, io, ba, t0, t1, t2, t3, t4, t5], _ =>
    have hW2 : w.alloc (.cells #[.int .i64 b, .int .i64 st, .int .i64 tg, .int .i64 cu, .int .i64 io, .int .i64 ba, .int .i64 t0, .int .i64 t1, .int .i64 t2, .int .i64 t3, .int .i64 t4, .int .i64 t5] 24) = W1 := by rw [hW1]; rfl
    have H2 := Lib.hid hW2
    have HH := Lib.hid hh
    change limS [b, st, tg, cu, io, ba, t0, t1, t2, t3, t4, t5] = if frmS [b, st, tg, cu, io, ba, t0, t1, t2, t3, t4, t5] = true then (if st = 2 then tg else b) else 0 at hr
    show Calls Try.prog 12 #[.agg #[.int .i64 b, .int .i64 st, .int .i64 tg, .int .i64 cu, .int .i64 io, .int .i64 ba, .int .i64 t0, .int .i64 t1, .int .i64 t2, .int .i64 t3, .int .i64 t4, .int .i64 t5]] w fun e w' => e = .returned (.int .i64 (limS _)) ∧ Below w.heap.size w w'
    rw [hr]
    rcases h0 with h0 | h0
    · rw [h0]
      have K0 : Hid (∀ w, Calls Try.prog 10 #[.agg #[.int .i64 b, .int .i64 st, .int .i64 tg, .int .i64 cu, .int .i64 io, .int .i64 ba, .int .i64 t0, .int .i64 t1, .int .i64 t2, .int .i64 t3, .int .i64 t4, .int .i64 t5]] w fun e w' => e = .returned (.bool false) ∧ Below w.heap.size w w') := Lib.hid (KF _ h0)
      clear KF hr h0 hW1 hW2 hT hh
      go_enter Try.func12, Try.ntmps12
      go_wp2_with (first | (go_at_call 10; rw [H2.out]; refine (K0.out _).mono ?_; rintro e w2 ⟨rfl, hb2⟩))
      go_ret
      exact ⟨rfl, hob.trans (hb2.mono hob.size)⟩
    · rw [h0]
      have K0 : Hid (∀ w, Calls Try.prog 10 #[.agg #[.int .i64 b, .int .i64 st, .int .i64 tg, .int .i64 cu, .int .i64 io, .int .i64 ba, .int .i64 t0, .int .i64 t1, .int .i64 t2, .int .i64 t3, .int .i64 t4, .int .i64 t5]] w fun e w' => e = .returned (.bool true) ∧ Below w.heap.size w w') := Lib.hid (KF _ h0)
      clear KF hr h0 hW1 hW2 hT hh
      by_cases h2 : st = 2
      · rw [if_pos rfl, if_pos h2]
        have h2' : (st == 2) = true := by simp [h2]
        clear h2
        go_enter Try.func12, Try.ntmps12
        go_wp2_with (first | (go_at_call 10; rw [H2.out]; refine (K0.out _).mono ?_; rintro e w2 ⟨rfl, hb2⟩; have hc := sup_cells ((hb2.block _ (Array.getElem?_eq_some_iff.1 HH.out).1).trans HH.out)))
        go_ret
        exact ⟨rfl, hob.trans (hb2.mono hob.size)⟩
      · rw [if_pos rfl, if_neg h2]
        have h2' : (st == 2) = false := by simp [h2]
        clear h2
        go_enter Try.func12, Try.ntmps12
        go_wp2_with (first | (go_at_call 10; rw [H2.out]; refine (K0.out _).mono ?_; rintro e w2 ⟨rfl, hb2⟩; have hc := sup_cells ((hb2.block _ (Array.getElem?_eq_some_iff.1 HH.out).1).trans HH.out)))
        go_ret
        exact ⟨rfl, hob.trans (hb2.mono hob.size)⟩
end Go.Proofs.Ytnpniackcdcooaa
