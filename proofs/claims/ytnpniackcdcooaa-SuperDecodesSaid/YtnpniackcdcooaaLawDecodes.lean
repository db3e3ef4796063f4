/- SuperDecodes. -/
import Derived.Test.YtnpniackcdcooaaSupW
import Derived.Test.YtnpniackcdcooaaSupY
import Derived.Test.YtnpniackcdcooaaSupQ
namespace Go.Proofs.Ytnpniackcdcooaa
open Go.RowKit
set_option linter.unusedVariables false

theorem dec_both (l : List Int) : ∃ (M : List Int) (E : Int), M.length = 12 ∧ (∀ (W : World) (v : Value), BSl W v l → Calls Try.prog 13 #[v] W fun e w' => e = .returned (.tuple #[supV M, .int .i64 E]) ∧ Below W.heap.size W w') ∧
    (∀ (W : World) (v : Value), BSl W v l → Calls Try.prog 14 #[v] W fun e w' => e = .returned (.tuple #[supV M, .int .i64 E]) ∧ Below W.heap.size W w') := by
  by_cases h : hasS l
  · exact ⟨decS l, 0, rdS_length _, fun W v hs => (sDec_of hs).mono fun e w' ⟨h1, h2⟩ => ⟨h2.elim (fun x => x.2) (fun x => absurd h x.1), h1⟩,
      fun W v hs => (rDec_of hs).mono fun e w' ⟨h1, h2⟩ => ⟨h2.elim (fun x => x.2) (fun x => absurd h x.1), h1⟩⟩
  · exact ⟨zeroS, 18, rfl, fun W v hs => (sDec_of hs).mono fun e w' ⟨h1, h2⟩ => ⟨h2.elim (fun x => absurd x.1 h) (fun x => x.2), h1⟩,
      fun W v hs => (rDec_of hs).mono fun e w' ⟨h1, h2⟩ => ⟨h2.elim (fun x => absurd x.1 h) (fun x => x.2), h1⟩⟩

theorem lDec_lit (b st tg cu io ba t0 t1 t2 t3 t4 t5 E : Int) {w : World} {v : Value} {l : List Int} (hs : BSl w v l)
    (h1 : ∀ (W : World) (v : Value), BSl W v l → Calls Try.prog 13 #[v] W fun e w' => e = .returned (.tuple #[supV [b, st, tg, cu, io, ba, t0, t1, t2, t3, t4, t5], .int .i64 E]) ∧ Below W.heap.size W w')
    (h2 : ∀ (W : World) (v : Value), BSl W v l → Calls Try.prog 14 #[v] W fun e w' => e = .returned (.tuple #[supV [b, st, tg, cu, io, ba, t0, t1, t2, t3, t4, t5], .int .i64 E]) ∧ Below W.heap.size W w') :
    Calls Try.prog 4 #[v] w fun e w' => e = .returned (.bool true) ∧ Below w.heap.size w w' := by
  have H1 := Lib.hid h1
  have H2 := Lib.hid h2
  have HS := Lib.hid hs
  have heq6 := fun W => eq_arr6 t0 t1 t2 t3 t4 t5 W
  clear h1 h2 hs
  go_enter Try.func4, Try.ntmps4
  go_wp2_with (first
    | (go_at_call 6; refine (awake5_any _).mono ?_; rintro e w2 ⟨rfl, hb2⟩)
    | (go_at_call 13; refine (H1.out _ _ (HS.out.below hb2)).mono ?_; rintro e w3 ⟨rfl, hb3⟩)
    | (with_reducible refine wpList_storeS rfl (.tmp 3) (.tmp 12) rfl w3.heap.size rfl [b, st, tg, cu, io, ba, t0, t1, t2, t3, t4, t5] zeroS rfl rfl rfl _ (heap_alloc_new w3 _) ?_
       intro w4 hw4 hr4
       have hb4 : Below w3.heap.size w3 w4 := (below_box w3 _).trans (hw4.below (Nat.le_refl _))
       have hb24 : Below w2.heap.size w2 w4 := hb3.trans (hb4.mono hb3.size)
       have hb04 := hb2.trans (hb24.mono hb2.size))
    | (go_at_call 14; refine (H2.out _ _ (HS.out.below hb04)).mono ?_; rintro e w5 ⟨rfl, hb5⟩
       have hr5 : w5.heap[w3.heap.size]? = some (supO [b, st, tg, cu, io, ba, t0, t1, t2, t3, t4, t5] 26) := (hb5.block _ (Array.getElem?_eq_some_iff.1 hr4).1).trans hr4)
    | (with_reducible refine wpList_storeR rfl (.tmp 5) (.tmp 17) rfl w5.heap.size rfl [b, st, tg, cu, io, ba, t0, t1, t2, t3, t4, t5] zeroS rfl rfl rfl _ (heap_alloc_new w5 _) ?_
       intro w6 hw6 hr6
       have hb6 : Below w5.heap.size w5 w6 := (below_box w5 _).trans (hw6.below (Nat.le_refl _))
       have hr7 : w6.heap[w3.heap.size]? = some (supO [b, st, tg, cu, io, ba, t0, t1, t2, t3, t4, t5] 26) := (hb6.block _ (Array.getElem?_eq_some_iff.1 hr5).1).trans hr5
       have hcA := sup_cells hr6
       have hcB := sup_cells hr7
       have hb06 := hb04.trans ((hb5.trans (hb6.mono hb5.size)).mono hb04.size)
       clear hr6 hr7 hr5))
  go_ret
  exact ⟨rfl, hb06⟩
theorem lDecodes_of {w : World} {v : Value} (h : ∃ l, BSl w v l) : Calls Try.prog 4 #[v] w fun e w' => e = .returned (.bool true) ∧ Below w.heap.size w w' := by
  obtain ⟨l, hs⟩ := h
  obtain ⟨M, E, hM, h1, h2⟩ := dec_both l
  match M, hM with
  | [b, st, tg, cu, io, ba, t0, t1, t2, t3, t4, t5], _ => exact lDec_lit b st tg cu io ba t0 t1 t2 t3 t4 t5 E hs h1 h2
end Go.Proofs.Ytnpniackcdcooaa
