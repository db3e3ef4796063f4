/- Contracts of the reference's layout: the same plain functions. -/
import Derived.Test.YtnpniackcdcooaaGeomA
namespace Go.Proofs.Ytnpniackcdcooaa
open Go.RowKit
set_option linter.unusedVariables false

theorem rFormed_any (b : Int) (hm : b ≤ 9223372036854775807) (w : World) : Calls Try.prog 24 #[.int .i64 b] w fun e w' => e = .returned (.bool (frmB b)) ∧ w = w' := by
  by_cases h1 : 64 ≤ b
  · by_cases h3 : b ≤ 768
    · have h0 : 0 ≤ b := by omega
      by_cases h2 : b % 64 = 0
      · have hr : frmB b = true := decide_eq_true (by omega)
        rw [hr]
        have h2' : (b % 64 == 0) = true := by simp [h2]
        clear hr h2
        go_enter Try.func24, Try.ntmps24
        go_wp2
        go_ret
        exact ⟨rfl, rfl⟩
      · have hr : frmB b = false := decide_eq_false (by omega)
        rw [hr]
        have h2' : (b % 64 == 0) = false := by simp [h2]
        clear hr h2
        go_enter Try.func24, Try.ntmps24
        go_wp2
        go_ret
        exact ⟨rfl, rfl⟩
    · have hr : frmB b = false := decide_eq_false (by omega)
      rw [hr]
      clear hr
      go_enter Try.func24, Try.ntmps24
      go_wp2
      go_ret
      exact ⟨rfl, rfl⟩
  · have hr : frmB b = false := decide_eq_false (by omega)
    rw [hr]
    clear hr
    go_enter Try.func24, Try.ntmps24
    go_wp2
    go_ret
    exact ⟨rfl, rfl⟩
theorem rFormed_yes (k : Nat) (h1 : 1 ≤ k) (h2 : k ≤ 12) (w : World) : Calls Try.prog 24 #[.int .i64 (64 * (k : Int))] w fun e w' => e = .returned (.bool true) ∧ w = w' := by
  have := rFormed_any (64 * (k : Int)) (by omega) w
  rw [frm_mk k h1 h2] at this; exact this
theorem rFormed_no (b : Int) (hm : b ≤ 9223372036854775807) (h : frmB b = false) (w : World) : Calls Try.prog 24 #[.int .i64 b] w fun e w' => e = .returned (.bool false) ∧ w = w' := by
  have := rFormed_any b hm w
  rw [h] at this; exact this
theorem rFixed_any (n : Int) (hm : n ≤ 9223372036854775807) (w : World) : Calls Try.prog 26 #[.int .i64 n] w fun e w' => e = .returned (.bool (fixB n)) ∧ w = w' := by
  by_cases h1 : n < 0
  · have hr : fixB n = false := decide_eq_false (by omega)
    rw [hr]; clear hr
    go_enter Try.func26, Try.ntmps26
    go_wp2
    go_ret
    exact ⟨rfl, rfl⟩
  · by_cases h2 : 768 ≤ n
    · have hr : fixB n = false := decide_eq_false (by omega)
      rw [hr]; clear hr
      go_enter Try.func26, Try.ntmps26
      go_wp2
      go_ret
      exact ⟨rfl, rfl⟩
    · by_cases h3 : n < 64
      · by_cases h4 : n < 43
        · have hr : fixB n = true := decide_eq_true (by omega)
          rw [hr]; clear hr
          go_enter Try.func26, Try.ntmps26
          go_wp2
          go_ret
          exact ⟨rfl, rfl⟩
        · have hr : fixB n = (n == 63) := by rw [Bool.eq_iff_iff]; unfold fixB; simp only [decide_eq_true_eq, beq_iff_eq]; omega
          rw [hr]; clear hr
          go_enter Try.func26, Try.ntmps26
          go_wp2
          go_ret
          exact ⟨by simp, rfl⟩
      · have h0 : 0 ≤ n := by omega
        have hr : fixB n = decide (n % 64 < 2) := by rw [Bool.eq_iff_iff]; unfold fixB; simp only [decide_eq_true_eq]; omega
        rw [hr]; clear hr
        go_enter Try.func26, Try.ntmps26
        go_wp2
        go_ret
        exact ⟨by simp, rfl⟩
end Go.Proofs.Ytnpniackcdcooaa
