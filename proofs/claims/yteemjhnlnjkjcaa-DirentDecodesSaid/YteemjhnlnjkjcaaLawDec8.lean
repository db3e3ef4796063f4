/- DirentDecodes: the walk of the law itself. -/
import Derived.Test.YteemjhnlnjkjcaaDirJ
namespace Go.Proofs.Yteemjhnlnjkjcaa
open Go.RowKit
set_option linter.unusedVariables false

theorem lDec8_any {w : World} {v : Value} {b : List Int} (h : BSl w v b) : Calls Try.prog 4 #[v] w fun e w' => e = .returned (.bool true) ∧ Below w.heap.size w w' := by
  obtain ⟨O, E, hO, _, Q1, Q2⟩ := dec_both8 b
  have HQ1 := Lib.hid Q1
  have HQ2 := Lib.hid Q2
  have HH := Lib.hid h
  have HO : Hid (O.length ≤ 1000) := Lib.hid (by omega)
  have hee : (E == E) = true := by simp
  clear Q1 Q2 h hO
  go_enter Try.func4, Try.ntmps4
  go_wp2_with (first
    | (go_at_call 6; refine (awake8_any _).mono ?_; rintro e w2 ⟨rfl, hb2⟩)
    | (go_at_call 14; (with_reducible refine (HQ1.out _ _ (HH.out.below hb2)).mono ?_); rintro e w3 ⟨u3, rfl, ho3, hb3⟩
       have hb03 := hb2.trans (hb3.mono hb2.size))
    | (go_at_call 17; (with_reducible refine (HQ2.out _ _ (HH.out.below hb03)).mono ?_); rintro e w4 ⟨u4, rfl, ho4, hb4⟩
       have hb04 := hb03.trans (hb4.mono hb03.size)
       have HO3 := Lib.hid (ho3.below hb4)
       have HO4 := Lib.hid ho4)
    | (go_at_call 16; (with_reducible refine (ours8_any HO.out HO3.out).mono ?_); rintro e w5 ⟨u5, rfl, ho5, hb5⟩
       have hb05 := hb04.trans (hb5.mono hb04.size)
       have HO5 := Lib.hid ho5
       have HO45 := Lib.hid (HO4.out.below hb5))
    | (go_at_call 15; (with_reducible refine (rSameE_any HO.out HO5.out HO45.out).mono ?_); rintro e w6 ⟨rfl, m6, rfl⟩))
  go_ret
  exact ⟨by simp, below_drewN' hb05 m6⟩
end Go.Proofs.Yteemjhnlnjkjcaa
