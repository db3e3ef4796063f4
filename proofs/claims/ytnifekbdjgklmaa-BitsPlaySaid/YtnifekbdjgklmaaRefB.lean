/- Contracts of the reference's rows (layer 1): First and Bytes. -/
import Derived.Test.YtnifekbdjgklmaaRefA
import Derived.RegionTactic
import Derived.BigRegion
namespace Go.Proofs.Ytnifekbdjgklmaa
open Go.RowKit BM

namespace BM
def firstAt (L : List Bool) (g : Nat) : Int := if 0 ≤ firstZ L g then firstZ L g else firstZ L 0
theorem firstS_in (L : List Bool) (g : Nat) (hg : g < L.length) : firstS L g = firstAt L g := by
  rw [firstS, if_pos (by omega), Int.toNat_natCast]; rfl
theorem firstS_out (L : List Bool) (goal : Int) (hg : ¬ (0 ≤ goal ∧ goal < L.length)) : firstS L goal = firstAt L 0 := by
  rw [firstS, if_neg hg, firstAt]; split <;> rfl
theorem firstAt_mod (L : List Bool) (g k : Nat) (hg : g < L.length) (hk : k < L.length) (hall : ∀ j, j < k → L.getD ((g + j) % L.length) false = true)
    (hz : L.getD ((g + k) % L.length) false = false) : firstAt L g = ((g + k) % L.length : Nat) := by
  by_cases h : g + k < L.length
  · rw [Nat.mod_eq_of_lt h] at hz ⊢
    have e : firstZ L g = ((g + k : Nat) : Int) := firstZ_some (by omega) h hz fun t h1 h2 => by
      have := hall (t - g) (by omega)
      rwa [show g + (t - g) = t by omega, Nat.mod_eq_of_lt (by omega)] at this
    rw [firstAt, e, if_pos (by omega)]
  · have em : (g + k) % L.length = g + k - L.length := by
      rw [Nat.mod_eq_sub_mod (by omega), Nat.mod_eq_of_lt (by omega)]
    rw [em] at hz ⊢
    have e1 : firstZ L g = -1 := firstZ_none fun t h1 h2 => by
      have := hall (t - g) (by omega)
      rwa [show g + (t - g) = t by omega, Nat.mod_eq_of_lt (by omega)] at this
    have e2 : firstZ L 0 = ((g + k - L.length : Nat) : Int) := firstZ_some (by omega) (by omega) hz fun t h1 h2 => by
      have := hall (t + L.length - g) (by omega)
      rwa [show g + (t + L.length - g) = t + L.length by omega, Nat.add_mod_right, Nat.mod_eq_of_lt (by omega)] at this
    rw [firstAt, e1, if_neg (by omega), e2]
theorem firstAt_none (L : List Bool) (g : Nat) (hg : g < L.length ∨ L.length = 0) (hall : ∀ j, j < L.length → L.getD ((g + j) % L.length) false = true) : firstAt L g = -1 := by
  have h : ∀ t, t < L.length → L.getD t false = true := fun t ht => by
    by_cases h1 : g ≤ t
    · have := hall (t - g) (by omega)
      rwa [show g + (t - g) = t by omega, Nat.mod_eq_of_lt ht] at this
    · have := hall (t + L.length - g) (by omega)
      rwa [show g + (t + L.length - g) = t + L.length by omega, Nat.add_mod_right, Nat.mod_eq_of_lt ht] at this
  rw [firstAt, firstZ_none fun t _ h2 => h t h2, firstZ_none fun t _ h2 => h t h2]; rfl
end BM

theorem rFirst_in {w : World} {p g : Nat} {L : List Bool} (h : RRow w p g L) (s : Nat) (hs0 : s < L.length) :
    Calls Try.prog 14 #[.pointer (some ⟨p, 0, none⟩), .int .i64 s] w fun e w' => e = .returned (.int .i64 (firstAt L s)) ∧ w = w' := by
  have hn := h.1
  obtain ⟨hs, hx, hf⟩ := h.cells
  have HX := Lib.hid hx
  clear hf hx
  go_enter Try.func14, Try.ntmps14
  go_wp2_with fail
  go_loop [23] (fun i => ∃ k : Nat, k ≤ L.length ∧ i = .int .i64 k ∧ Hid (∀ j, j < k → L.getD ((s + j) % L.length) false = true)) (fun i => L.length - (intOf i).toNat)
  case atStart => exact ⟨0, by omega, rfl, fun j hj => by omega⟩
  case round =>
    obtain ⟨k, hk, rfl, hall⟩ := hrel
    by_cases hlt : k < L.length
    · have hmod : (s + k) % L.length < L.length := Nat.mod_lt _ (by omega)
      have hmi : ((s : Int) + k) % L.length < L.length := Int.emod_lt_of_pos _ (by omega)
      have hm0 : 0 ≤ ((s : Int) + k) % L.length := Int.emod_nonneg _ (by omega)
      have hc := HX.out _ hmod
      cases hb : L.getD ((s + k) % L.length) false
      · rw [hb] at hc
        have HB := Lib.hid hb
        clear hb
        go_wp2_with fail
        go_ret
        exact ⟨ret_int (by rw [firstAt_mod L s k hs0 hlt hall.out HB.out]; push_cast; rfl), rfl⟩
      · rw [hb] at hc
        have HB := Lib.hid hb
        clear hb
        go_wp2_with fail
        go_round
        case rel =>
          refine ⟨k + 1, by omega, by go_num, fun j hj => ?_⟩
          by_cases e : j = k
          · rw [e]; exact HB.out
          · exact hall.out j (by omega)
        case measure => simp [intOf]; omega
    · go_wp2_with fail
      go_ret
      exact ⟨ret_int (firstAt_none L s (.inl hs0) fun j hj => hall.out j (by omega)).symm, rfl⟩

theorem rFirst_out {w : World} {p g : Nat} {L : List Bool} (h : RRow w p g L) (s : Int) (hs0 : ¬ (0 ≤ s ∧ s < L.length)) :
    Calls Try.prog 14 #[.pointer (some ⟨p, 0, none⟩), .int .i64 s] w fun e w' => e = .returned (.int .i64 (firstAt L 0)) ∧ w = w' := by
  have hn := h.1
  obtain ⟨hs, hx, hf⟩ := h.cells
  have HX := Lib.hid hx
  clear hf hx
  by_cases h0 : 0 ≤ s
  · have _h1 : (L.length : Int) ≤ s := by omega
    go_enter Try.func14, Try.ntmps14
    go_wp2_with fail
    go_loop [23] (fun i => ∃ k : Nat, k ≤ L.length ∧ i = .int .i64 k ∧ Hid (∀ j, j < k → L.getD ((0 + j) % L.length) false = true)) (fun i => L.length - (intOf i).toNat)
    case atStart => exact ⟨0, by omega, rfl, fun j hj => by omega⟩
    case round =>
      obtain ⟨k, hk, rfl, hall⟩ := hrel
      by_cases hlt : k < L.length
      · have hmod : k % L.length < L.length := Nat.mod_lt _ (by omega)
        have hmi : (k : Int) % L.length < L.length := Int.emod_lt_of_pos _ (by omega)
        have hm0 : 0 ≤ (k : Int) % L.length := Int.emod_nonneg _ (by omega)
        have hc := HX.out _ hmod
        cases hb : L.getD (k % L.length) false
        · rw [hb] at hc
          have HB := Lib.hid hb
          clear hb
          go_wp2_with fail
          go_ret
          exact ⟨ret_int (by rw [firstAt_mod L 0 k (by omega) hlt hall.out (by rw [Nat.zero_add]; exact HB.out), Nat.zero_add]; push_cast; rfl), rfl⟩
        · rw [hb] at hc
          have HB := Lib.hid hb
          clear hb
          go_wp2_with fail
          go_round
          case rel =>
            refine ⟨k + 1, by omega, by go_num, fun j hj => ?_⟩
            by_cases e : j = k
            · rw [e, Nat.zero_add]; exact HB.out
            · exact hall.out j (by omega)
          case measure => simp [intOf]; omega
      · go_wp2_with fail
        go_ret
        exact ⟨ret_int (firstAt_none L 0 (by omega) fun j hj => hall.out j (by omega)).symm, rfl⟩
  · go_enter Try.func14, Try.ntmps14
    go_wp2_with fail
    go_loop [23] (fun i => ∃ k : Nat, k ≤ L.length ∧ i = .int .i64 k ∧ Hid (∀ j, j < k → L.getD ((0 + j) % L.length) false = true)) (fun i => L.length - (intOf i).toNat)
    case atStart => exact ⟨0, by omega, rfl, fun j hj => by omega⟩
    case round =>
      obtain ⟨k, hk, rfl, hall⟩ := hrel
      by_cases hlt : k < L.length
      · have hmod : k % L.length < L.length := Nat.mod_lt _ (by omega)
        have hmi : (k : Int) % L.length < L.length := Int.emod_lt_of_pos _ (by omega)
        have hm0 : 0 ≤ (k : Int) % L.length := Int.emod_nonneg _ (by omega)
        have hc := HX.out _ hmod
        cases hb : L.getD (k % L.length) false
        · rw [hb] at hc
          have HB := Lib.hid hb
          clear hb
          go_wp2_with fail
          go_ret
          exact ⟨ret_int (by rw [firstAt_mod L 0 k (by omega) hlt hall.out (by rw [Nat.zero_add]; exact HB.out), Nat.zero_add]; push_cast; rfl), rfl⟩
        · rw [hb] at hc
          have HB := Lib.hid hb
          clear hb
          go_wp2_with fail
          go_round
          case rel =>
            refine ⟨k + 1, by omega, by go_num, fun j hj => ?_⟩
            by_cases e : j = k
            · rw [e, Nat.zero_add]; exact HB.out
            · exact hall.out j (by omega)
          case measure => simp [intOf]; omega
      · go_wp2_with fail
        go_ret
        exact ⟨ret_int (firstAt_none L 0 (by omega) fun j hj => hall.out j (by omega)).symm, rfl⟩

theorem rFirst_any {w : World} {p g : Nat} {L : List Bool} (h : RRow w p g L) (goal : Int) :
    Calls Try.prog 14 #[.pointer (some ⟨p, 0, none⟩), .int .i64 goal] w fun e w' => e = .returned (.int .i64 (firstS L goal)) ∧ w = w' := by
  by_cases hi : 0 ≤ goal ∧ goal < L.length
  · obtain ⟨k, rfl⟩ : ∃ k : Nat, goal = k := ⟨goal.toNat, by omega⟩
    rw [firstS_in L k (by omega)]
    exact rFirst_in h k (by omega)
  · rw [firstS_out L goal hi]
    exact rFirst_out h goal hi

end Go.Proofs.Ytnifekbdjgklmaa
