/- Contracts of the reference's layout: the same plain functions. -/
import Derived.Test.YtflkggoknmgbnaaGeomA
namespace Go.Proofs.Ytflkggoknmgbnaa
open Go.RowKit
set_option linter.unusedVariables false

theorem rFixed_any (n : Int) (hm : n ≤ 9223372036854775807) (w : World) : Calls Try.prog 45 #[.int .i64 n] w fun e w' => e = .returned (.bool (fixB n)) ∧ w = w' := by
  by_cases h1 : n < 0
  · have hr : fixB n = false := decide_eq_false (by omega)
    rw [hr]; clear hr
    go_enter Try.func45, Try.ntmps45
    go_wp2
    go_ret
    exact ⟨rfl, rfl⟩
  · by_cases h2 : 768 ≤ n
    · have hr : fixB n = false := decide_eq_false (by omega)
      rw [hr]; clear hr
      go_enter Try.func45, Try.ntmps45
      go_wp2
      go_ret
      exact ⟨rfl, rfl⟩
    · by_cases h3 : n < 64
      · by_cases h4 : n < 43
        · have hr : fixB n = true := decide_eq_true (by omega)
          rw [hr]; clear hr
          go_enter Try.func45, Try.ntmps45
          go_wp2
          go_ret
          exact ⟨rfl, rfl⟩
        · have hr : fixB n = (n == 63) := by rw [Bool.eq_iff_iff]; unfold fixB; simp only [decide_eq_true_eq, beq_iff_eq]; omega
          rw [hr]; clear hr
          go_enter Try.func45, Try.ntmps45
          go_wp2
          go_ret
          exact ⟨by simp, rfl⟩
      · have h0 : 0 ≤ n := by omega
        have hr : fixB n = decide (n % 64 < 2) := by rw [Bool.eq_iff_iff]; unfold fixB; simp only [decide_eq_true_eq]; omega
        rw [hr]; clear hr
        go_enter Try.func45, Try.ntmps45
        go_wp2
        go_ret
        exact ⟨by simp, rfl⟩
theorem rFixed_is (n : Int) (hm : n ≤ 9223372036854775807) (B : Bool) (h : fixB n = B) (w : World) : Calls Try.prog 45 #[.int .i64 n] w fun e w' => e = .returned (.bool B) ∧ w = w' := by
  rw [← h]; exact rFixed_any n hm w

end Go.Proofs.Ytflkggoknmgbnaa
