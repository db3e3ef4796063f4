/- awake of layer 2. -/
import Derived.Test.YtnfbgefkgileiaaPackD
namespace Go.Proofs.Ytnfbgefkgileiaa
open Go.RowKit
set_option linter.unusedVariables false

theorem bsl_nil (w : World) : BSl w (.slice none 0 0) [] := ⟨byt_nil, .inl ⟨rfl, rfl⟩⟩
theorem pSeal_nil (w : World) : Calls Try.prog 11 #[.slice none 0 0] w fun e w' => ∃ g c, e = .returned (.tuple #[.slice (some ⟨g, 0, none⟩) 256 c, .int .i64 0]) ∧ Below w.heap.size w w' :=
  (pSeal_yes (bsl_nil w) (by decide)).mono fun e w' ⟨v, he, hob, hb⟩ => by
    have hl := sealS_length [] (by decide)
    rcases hob.2.2 with ⟨_, h0⟩ | ⟨g, cap, cur, hv, _⟩
    · omega
    · exact ⟨g, cap, by rw [he, hv, hl], hb⟩
theorem lowB_258 : lowB 258 2 = [2, 1] := by decide
theorem pPut_258 (w : World) : Calls Try.prog 7 #[.slice none 0 0, .int .u64 258, .int .i64 2] w (NewB w [2, 1]) := by
  have := pPut_at (bsl_nil w) (by decide) 258 2 2 (by decide) (by decide) rfl (by decide) (by decide)
  rw [lowB_258] at this; exact this
theorem str_21 : ((strOfNums [2, 1]).toList == [2, 1]) = true := by decide +kernel

theorem awake2_any (w : World) : Calls Try.prog 6 #[] w fun e w' => e = .returned (.bool true) ∧ Below w.heap.size w w' := by
  go_enter Try.func6, Try.ntmps6
  go_wp2_with (first
    | (go_at_call 11; refine (pSeal_nil _).mono ?_; rintro e w1 ⟨g, c, rfl, hb1⟩)
    | (go_at_call 7; refine (pPut_258 _).mono ?_; rintro e w2 ⟨v2, rfl, hob2, hb2⟩
       have hcv := conv_bsl hob2.bsl))
  go_ret
  exact ⟨by rw [str_21]; rfl, hb1.trans (hb2.mono hb1.size)⟩

end Go.Proofs.Ytnfbgefkgileiaa
