/- Plain facts of the layout: sizes, groups, fixed and open blocks. -/
import Derived.Test.YtflkggoknmgbnaaRows
import Derived.WalkKit
import Derived.WalkSpells
import Derived.WalkLawsBesides
import Derived.BigQuiet
import Derived.Deep.QuietTactic
import Derived.Lib.Hide
namespace Go.Proofs.Ytflkggoknmgbnaa
open Go.RowKit

theorem ret_i {k : IntKind} {a b : Int} (h : a = b) : Ending.returned (.int k a) = .returned (.int k b) := by rw [h]
/-- May a file system have b blocks? -/
def frmB (b : Int) : Bool := decide (1 ≤ b ∧ b ≤ 768 ∧ b % 64 = 0)
def grsI (b : Int) : Int := if frmB b = true then b / 64 else 0
def grpI (n : Int) : Int := if n < 0 then -1 else n / 64
def dscI (g : Int) : Int := if 0 ≤ g ∧ g < 12 then (if g = 0 then 1 else g * 64) else -1
def ownI (g : Int) : Int := if 0 ≤ g ∧ g < 12 then dscI g + 1 else -1
def fixB (n : Int) : Bool := decide ((0 ≤ n ∧ n < 43) ∨ n = 63 ∨ (64 ≤ n ∧ n < 768 ∧ n % 64 < 2))
def opnI (b : Int) : Int := if frmB b = true then 62 * (b / 64) - 42 else 0
def romI (b : Int) : Int := if frmB b = true then 62 * (b / 64) - 48 else 0

theorem frm_yes {b : Int} (h : frmB b = true) : ∃ k : Nat, 1 ≤ k ∧ k ≤ 12 ∧ b = 64 * (k : Int) := by
  have := of_decide_eq_true h
  exact ⟨(b / 64).toNat, by omega, by omega, by omega⟩
theorem frm_mk (k : Nat) (h1 : 1 ≤ k) (h2 : k ≤ 12) : frmB (64 * (k : Int)) = true := decide_eq_true (by omega)
theorem frm_no {b : Int} (h : frmB b = false) : ¬ (1 ≤ b ∧ b ≤ 768 ∧ b % 64 = 0) := of_decide_eq_false h

/-- How many of the first n blocks are open, and fixed. -/
def cntO : Nat → Nat
  | 0 => 0
  | n + 1 => if fixB (n : Int) = true then cntO n else cntO n + 1
def cntF : Nat → Nat
  | 0 => 0
  | n + 1 => if fixB (n : Int) = true then cntF n + 1 else cntF n
theorem cnt_all (n : Nat) : cntO n + cntF n = n := by
  induction n with
  | zero => rfl
  | succ n ih => unfold cntO cntF; by_cases h : fixB (n : Int) = true <;> simp only [h, if_pos, if_false, Bool.false_eq_true] <;> omega
theorem cntO_le (n : Nat) : cntO n ≤ n := by have := cnt_all n; omega
theorem cntF_le (n : Nat) : cntF n ≤ n := by have := cnt_all n; omega
/-- Within the first group. -/
theorem cntO_first : ∀ n : Nat, n ≤ 43 → cntO n = 0 := by
  intro n
  induction n with
  | zero => intro _; rfl
  | succ n ih => intro h; unfold cntO; rw [if_pos (by unfold fixB; exact decide_eq_true (by omega)), ih (by omega)]
theorem cntO_second : ∀ n : Nat, 43 ≤ n → n ≤ 63 → cntO n = n - 43 := by
  intro n
  induction n with
  | zero => intro h; omega
  | succ n ih =>
    intro h1 h2
    by_cases e : n = 42
    · subst e; rw [cntO_first 43 (by omega)]
    · unfold cntO; rw [if_neg (by unfold fixB; simp only [decide_eq_true_eq]; omega), ih (by omega) (by omega)]; omega
theorem cntO_64 : cntO 64 = 20 := by
  unfold cntO; rw [if_pos (by decide), cntO_second 63 (by omega) (by omega)]
theorem cntO_in (k : Nat) (h1 : 1 ≤ k) (h2 : k < 12) (c : Nat) (hc : cntO (64 * k) = c) : ∀ j : Nat, j ≤ 64 → cntO (64 * k + j) = c + (j - 2) := by
  intro j
  induction j with
  | zero => intro _; simpa using hc
  | succ j ih =>
    intro h
    show cntO (64 * k + j + 1) = _
    by_cases hj : j < 2
    · unfold cntO; rw [if_pos (by unfold fixB; exact decide_eq_true (by omega)), ih (by omega)]; omega
    · unfold cntO; rw [if_neg (by unfold fixB; simp only [decide_eq_true_eq]; omega), ih (by omega)]; omega
theorem cntO_mul : ∀ k : Nat, 1 ≤ k → k ≤ 12 → cntO (64 * k) + 42 = 62 * k := by
  intro k
  induction k with
  | zero => intro h; omega
  | succ k ih =>
    intro h1 h2
    by_cases e : k = 0
    · subst e; rw [show 64 * (0 + 1) = 64 from rfl, cntO_64]
    · have := ih (by omega) (by omega)
      rw [show 64 * (k + 1) = 64 * k + 64 by omega, cntO_in k (by omega) (by omega) _ rfl 64 (by omega)]; omega
theorem cntO_opn (k : Nat) (h1 : 1 ≤ k) (h2 : k ≤ 12) : (cntO (64 * k) : Int) = opnI (64 * (k : Int)) := by
  have := cntO_mul k h1 h2
  unfold opnI
  rw [if_pos (frm_mk k h1 h2)]; omega
end Go.Proofs.Ytflkggoknmgbnaa
