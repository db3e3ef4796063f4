/- Contracts of the reference's rows (layer 1): First and Bytes. -/
import Derived.Test.YtflkggoknmgbnaaRefA
import Derived.RegionTactic
import Derived.BigRegion
namespace Go.Proofs.Ytflkggoknmgbnaa
open Go.RowKit BM

namespace BM
def firstAt (L : List Bool) (g : Nat) : Int := if 0 ≤ firstZ L g then firstZ L g else firstZ L 0
theorem firstS_in (L : List Bool) (g : Nat) (hg : g < L.length) : firstS L g = firstAt L g := by
  rw [firstS, if_pos (by omega), Int.toNat_natCast]; rfl
theorem firstS_out (L : List Bool) (goal : Int) (hg : ¬ (0 ≤ goal ∧ goal < L.length)) : firstS L goal = firstAt L 0 := by
  rw [firstS, if_neg hg, firstAt]; split <;> rfl
theorem firstAt_mod (L : List Bool) (g k : Nat) (hg : g < L.length) (hk : k < L.length) (hall : ∀ j, j < k → L.getD ((g + j) % L.length) false = true)
    (hz : L.getD ((g + k) % L.length) false = false) : firstAt L g = ((g + k) % L.length : Nat) := by
  by_cases h : g + k < L.length
  · rw [Nat.mod_eq_of_lt h] at hz ⊢
    have e : firstZ L g = ((g + k : Nat) : Int) := firstZ_some (by omega) h hz fun t h1 h2 => by
      have := hall (t - g) (by omega)
      rwa [show g + (t - g) = t by omega, Nat.mod_eq_of_lt (by omega)] at this
    rw [firstAt, e, if_pos (by omega)]
  · have em : (g + k) % L.length = g + k - L.length := by
      rw [Nat.mod_eq_sub_mod (by omega), Nat.mod_eq_of_lt (by omega)]
    rw [em] at hz ⊢
    have e1 : firstZ L g = -1 := firstZ_none fun t h1 h2 => by
      have := hall (t - g) (by omega)
      rwa [show g + (t - g) = t by omega, Nat.mod_eq_of_lt (by omega)] at this
    have e2 : firstZ L 0 = ((g + k - L.length : Nat) : Int) := firstZ_some (by omega) (by omega) hz fun t h1 h2 => by
      have := hall (t + L.length - g) (by omega)
      rwa [show g + (t + L.length - g) = t + L.length by omega, Nat.add_mod_right, Nat.mod_eq_of_lt (by omega)] at this
    rw [firstAt, e1, if_neg (by omega), e2]
theorem firstAt_none (L : List Bool) (g : Nat) (hg : g < L.length ∨ L.length = 0) (hall : ∀ j, j < L.length → L.getD ((g + j) % L.length) false = true) : firstAt L g = -1 := by
  have h : ∀ t, t < L.length → L.getD t false = true := fun t ht => by
    by_cases h1 : g ≤ t
    · have := hall (t - g) (by omega)
      rwa [show g + (t - g) = t by omega, Nat.mod_eq_of_lt ht] at this
    · have := hall (t + L.length - g) (by omega)
      rwa [show g + (t + L.length - g) = t + L.length by omega, Nat.add_mod_right, Nat.mod_eq_of_lt ht] at this
  rw [firstAt, firstZ_none fun t _ h2 => h t h2, firstZ_none fun t _ h2 => h t h2]; rfl
end BM

end Go.Proofs.Ytflkggoknmgbnaa
