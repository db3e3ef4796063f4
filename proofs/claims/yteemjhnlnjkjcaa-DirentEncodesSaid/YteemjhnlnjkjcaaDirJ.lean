/- awake of layer 8. -/
import Derived.Test.YteemjhnlnjkjcaaDirI
namespace Go.Proofs.Yteemjhnlnjkjcaa
open Go.RowKit
set_option linter.unusedVariables false

theorem eEnc_nil (W : World) : Calls Try.prog 7 #[.slice none 0 0] W fun e w' => ∃ ao cap, e = .returned (.tuple #[.slice ao 256 cap, .int .i64 0]) ∧ Below W.heap.size W w' :=
  (eEnc_any (esl_nil W)).mono fun e w' h => by
    have ha : allE [] = true := rfl
    rcases h with ⟨_, u, he, ho, hb⟩ | ⟨ht, _⟩
    · obtain ⟨ao, cap, hu, _⟩ := ho.bsl.shape
      rw [encD_length ha] at hu
      exact ⟨ao, cap, by rw [he, hu], hb⟩
    · rw [ha] at ht; cases ht
theorem name_a : nameS ⟨#[97]⟩ = true := by
  unfold nameS
  rw [dots_is.1, dots_is.2, ByteArray.toList_eq]
  rfl
theorem awake8_any (w : World) : Calls Try.prog 6 #[] w fun e w' => e = .returned (.bool true) ∧ Below w.heap.size w w' := by
  have KE := Lib.hid (fun W => eEnc_nil W)
  have KN := Lib.hid (fun W => eName_is ⟨#[97]⟩ true name_a W)
  go_enter Try.func6, Try.ntmps6
  go_wp2_with (first
    | (go_at_call 7; refine (KE.out _).mono ?_; rintro e w2 ⟨ao, cap, rfl, hb2⟩)
    | (go_at_call 12; refine (KN.out _).mono ?_; rintro e w3 ⟨rfl, rfl⟩))
  go_ret
  exact ⟨rfl, hb2⟩
end Go.Proofs.Yteemjhnlnjkjcaa
