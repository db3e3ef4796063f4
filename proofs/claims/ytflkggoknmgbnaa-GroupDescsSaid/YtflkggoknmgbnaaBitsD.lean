/- Contract of bits.Of: a row for good bytes, an error for others. -/
import Derived.Test.YtflkggoknmgbnaaBitsC
namespace Go.Proofs.Ytflkggoknmgbnaa
open Go.RowKit BM

namespace BM
/-- The bytes l are those of some row of n bits. -/
def BGood (n : Nat) (l : List Int) : Prop := l.length = (n + 7) / 8 ∧ ∀ j, n ≤ j → bitAt (l.getD (j / 8) 0) (j % 8) = false
def bitsOf (n : Nat) (l : List Int) : List Bool := (List.range n).map fun j => bitAt (l.getD (j / 8) 0) (j % 8)
theorem length_bitsOf (n : Nat) (l : List Int) : (bitsOf n l).length = n := by simp [bitsOf]
theorem getD_bitsOf (n : Nat) (l : List Int) (j : Nat) (h : j < n) : (bitsOf n l).getD j false = bitAt (l.getD (j / 8) 0) (j % 8) := by
  unfold bitsOf
  rw [List.getD_eq_getElem?_getD, List.getElem?_map, List.getElem?_range h]; rfl
theorem rep_bitsOf {n : Nat} {l : List Int} (hg : BGood n l) (hb : ∀ j, 0 ≤ l.getD j 0 ∧ l.getD j 0 ≤ 255) : Rep l (bitsOf n l) := by
  refine ⟨by rw [length_bitsOf, hg.1], hb, fun j => ?_⟩
  by_cases h : j < n
  · rw [getD_bitsOf n l j h]
  · rw [hg.2 j (by omega), List.getD_eq_getElem?_getD, List.getElem?_eq_none (by rw [length_bitsOf]; omega)]; rfl

theorem high_tab : ∀ u, u < 8 → ∀ n, n < 256 → (n / 2 ^ u = 0 ↔ ∀ k, k < 8 → u ≤ k → n / 2 ^ k % 2 = 0) := by decide +kernel
theorem high_bits (x : Int) (u : Nat) (hu : u < 8) (h0 : 0 ≤ x) (h1 : x ≤ 255) : x / 2 ^ u = 0 ↔ ∀ k, k < 8 → u ≤ k → bitAt x k = false := by
  obtain ⟨n, rfl⟩ : ∃ n : Nat, x = n := ⟨x.toNat, by omega⟩
  have ht := high_tab u hu n (by omega)
  have e : (n : Int) / 2 ^ u = ((n / 2 ^ u : Nat) : Int) := by push_cast; rfl
  rw [e]
  constructor
  · intro h k hk huk
    have := ht.1 (by omega) k hk huk
    rw [bitAt_nat]; simp; omega
  · intro h
    have : n / 2 ^ u = 0 := ht.2 fun k hk huk => by
      have := h k hk huk
      rw [bitAt_nat] at this
      simp at this; omega
    rw [this]; rfl

theorem good_iff (n : Nat) (l : List Int) (hl : l.length = (n + 7) / 8) (hb : ∀ j, 0 ≤ l.getD j 0 ∧ l.getD j 0 ≤ 255) :
    BGood n l ↔ (n % 8 = 0 ∨ l.getD (l.length - 1) 0 / 2 ^ (n % 8) = 0) := by
  constructor
  · intro hg
    by_cases h : n % 8 = 0
    · exact .inl h
    · refine .inr ((high_bits _ _ (Nat.mod_lt _ (by omega)) (hb _).1 (hb _).2).2 fun k hk huk => ?_)
      have := hg.2 (8 * (l.length - 1) + k) (by omega)
      rw [show (8 * (l.length - 1) + k) / 8 = l.length - 1 by omega, show (8 * (l.length - 1) + k) % 8 = k by omega] at this
      exact this
  · intro h
    refine ⟨hl, fun j hj => ?_⟩
    by_cases hj2 : j / 8 < l.length
    · rcases h with h | h
      · omega
      · have := (high_bits _ _ (Nat.mod_lt _ (by omega)) (hb _).1 (hb _).2).1 h (j % 8) (Nat.mod_lt _ (by omega)) (by omega)
        rw [show j / 8 = l.length - 1 by omega]; exact this
    · rw [List.getD_eq_getElem?_getD, List.getElem?_eq_none (by omega)]; exact bitAt_zero _
end BM

theorem bUnused_zero (n : Nat) (v : Value) (w : World) (h1 : n ≤ 4096) (h8 : n % 8 = 0) :
    Calls Try.prog 53 #[.int .i64 n, v] w fun e w' => e = .returned (.bool false) ∧ w = w' := by
  have h8' : (n : Int) % 8 = 0 := by omega
  go_enter Try.func53, Try.ntmps53
  go_wp2_with (go_at_call 51; refine (bShift_any n _ (by omega) (by omega)).mono ?_; rintro e w' ⟨rfl, rfl⟩)
  go_ret
  exact ⟨rfl, rfl⟩

theorem bUnused_at (n len cap b off : Nat) (x : Int) (w : World) (h1 : n ≤ 4096) (h8 : n % 8 ≠ 0) (hl : 0 < len) (hl2 : len ≤ 1000000)
    (hx : w.cell? ⟨b, off + (len - 1), none⟩ = some (.int .u8 x)) :
    Calls Try.prog 53 #[.int .i64 n, .slice (some ⟨b, off, none⟩) len cap] w fun e w' => e = .returned (.bool (x / 2 ^ (n % 8) != 0)) ∧ w = w' := by
  have h8' : ((n : Int) % 8 != 0) = true := by simp; omega
  have hix : ((len : Int) - 1).toNat = len - 1 := by omega
  go_enter Try.func53, Try.ntmps53
  go_wp2_with (go_at_call 51; refine (bShift_any n _ (by omega) (by omega)).mono ?_; rintro e w' ⟨rfl, rfl⟩)

  go_ret
  exact ⟨rfl, rfl⟩

end Go.Proofs.Ytflkggoknmgbnaa
