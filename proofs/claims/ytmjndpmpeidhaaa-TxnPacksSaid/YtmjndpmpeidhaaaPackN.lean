/- The checksum tells any one byte that is turned. -/
import Derived.Test.YtmjndpmpeidhaaaPackM
namespace Go.Proofs.Ytmjndpmpeidhaaa
open Go

theorem xor_cancel_nat (a b c : Nat) (h : a ^^^ b = a ^^^ c) : b = c := by
  have : a ^^^ (a ^^^ b) = a ^^^ (a ^^^ c) := by rw [h]
  rwa [← Nat.xor_assoc, ← Nat.xor_assoc, Nat.xor_self, Nat.zero_xor, Nat.zero_xor] at this

theorem mul_inj32 (a b : Int) (ha0 : 0 ≤ a) (ha : a < 4294967296) (hb0 : 0 ≤ b) (hb : b < 4294967296) (h : a * 16777619 % 4294967296 = b * 16777619 % 4294967296) : a = b := by
  have key : ∀ x : Int, (x * 16777619 % 4294967296) * 899433627 % 4294967296 = x % 4294967296 := fun x => by
    rw [Int.mul_emod, Int.emod_emod, ← Int.mul_emod, Int.mul_assoc]
    have : (16777619 : Int) * 899433627 = 1 + 4294967296 * 3513497 := by decide
    rw [this, Int.mul_add, Int.mul_one, Int.mul_left_comm, Int.add_mul_emod_self_left]
  have h1 := key a
  have h2 := key b
  rw [h] at h1
  rw [h1] at h2
  rw [Int.emod_eq_of_lt ha0 ha, Int.emod_eq_of_lt hb0 hb] at h2
  exact h2

theorem fnvStep_nat (h c : Nat) (hh : h < 4294967296) (hc : c < 4294967296) : fnvStep h c = ((h ^^^ c : Nat) : Int) * 16777619 % 4294967296 := by
  unfold fnvStep
  rw [u32_xor_nat h c hh hc]

theorem fnv_byte (h x y : Int) (hh0 : 0 ≤ h) (hh : h < 4294967296) (hx : 0 ≤ x ∧ x ≤ 255) (hy : 0 ≤ y ∧ y ≤ 255) (he : fnvStep h x = fnvStep h y) : x = y := by
  obtain ⟨m, rfl⟩ : ∃ m : Nat, h = m := ⟨h.toNat, by omega⟩
  obtain ⟨a, rfl⟩ : ∃ a : Nat, x = a := ⟨x.toNat, by omega⟩
  obtain ⟨b, rfl⟩ : ∃ b : Nat, y = b := ⟨y.toNat, by omega⟩
  rw [fnvStep_nat m a (by omega) (by omega), fnvStep_nat m b (by omega) (by omega)] at he
  have l1 : m ^^^ a < 2 ^ 32 := Nat.xor_lt_two_pow (by omega) (by omega)
  have l2 : m ^^^ b < 2 ^ 32 := Nat.xor_lt_two_pow (by omega) (by omega)
  have l3 : ((m ^^^ a : Nat) : Int) < 4294967296 := by clear he; omega
  have l4 : ((m ^^^ b : Nat) : Int) < 4294967296 := by clear he; omega
  have h1 := mul_inj32 _ _ (Int.natCast_nonneg _) l3 (Int.natCast_nonneg _) l4 he
  clear he
  have := xor_cancel_nat m a b (Int.ofNat_inj.1 h1)
  omega

theorem fnv_state (h g x : Int) (hh0 : 0 ≤ h) (hh : h < 4294967296) (hg0 : 0 ≤ g) (hg : g < 4294967296) (hx : 0 ≤ x ∧ x ≤ 255) (he : fnvStep h x = fnvStep g x) : h = g := by
  obtain ⟨m, rfl⟩ : ∃ m : Nat, h = m := ⟨h.toNat, by omega⟩
  obtain ⟨n, rfl⟩ : ∃ n : Nat, g = n := ⟨g.toNat, by omega⟩
  obtain ⟨a, rfl⟩ : ∃ a : Nat, x = a := ⟨x.toNat, by omega⟩
  rw [fnvStep_nat m a (by omega) (by omega), fnvStep_nat n a (by omega) (by omega)] at he
  have l1 : m ^^^ a < 2 ^ 32 := Nat.xor_lt_two_pow (by omega) (by omega)
  have l2 : n ^^^ a < 2 ^ 32 := Nat.xor_lt_two_pow (by omega) (by omega)
  have l3 : ((m ^^^ a : Nat) : Int) < 4294967296 := by clear he; omega
  have l4 : ((n ^^^ a : Nat) : Int) < 4294967296 := by clear he; omega
  have h1 := mul_inj32 _ _ (Int.natCast_nonneg _) l3 (Int.natCast_nonneg _) l4 he
  clear he
  have := xor_cancel_nat a m n (by rw [Nat.xor_comm a m, Nat.xor_comm a n]; exact Int.ofNat_inj.1 h1)
  omega

theorem fold_inj (B : List Int) (hB : ∀ x ∈ B, 0 ≤ x ∧ x ≤ 255) : ∀ (h g : Int), 0 ≤ h → h < 4294967296 → 0 ≤ g → g < 4294967296 → B.foldl fnvStep h = B.foldl fnvStep g → h = g := by
  induction B with
  | nil => intro h g _ _ _ _ he; exact he
  | cons x r ih =>
    intro h g h0 h1 g0 g1 he
    have := ih (fun y hy => hB y (by simp [hy])) (fnvStep h x) (fnvStep g x) (fnvStep_bound h x).1 (fnvStep_bound h x).2 (fnvStep_bound g x).1 (fnvStep_bound g x).2 he
    exact fnv_state h g x h0 h1 g0 g1 (hB x (by simp)) this

theorem sumS_set (F : List Int) (hF : ∀ x ∈ F, 0 ≤ x ∧ x ≤ 255) (k : Nat) (hk : k < F.length) (y : Int) (hy : 0 ≤ y ∧ y ≤ 255) (hne : y ≠ F.getD k 0) : sumS (F.set k y) ≠ sumS F := by
  have hx : F.getD k 0 = F[k] := by simp [List.getD_eq_getElem?_getD, hk]
  have e1 : F = F.take k ++ F[k] :: F.drop (k + 1) := by rw [List.getElem_cons_drop, List.take_append_drop]
  have e2 : F.set k y = F.take k ++ y :: F.drop (k + 1) := List.set_eq_take_append_cons_drop ▸ by rw [if_pos hk]
  intro h
  rw [e2] at h
  conv at h => rhs; rw [e1]
  unfold sumS at h
  rw [List.foldl_append, List.foldl_append, List.foldl_cons, List.foldl_cons] at h
  have hb := sumS_bound (F.take k)
  unfold sumS at hb
  have h2 := fold_inj (F.drop (k + 1)) (fun x hx => hF x (List.mem_of_mem_drop hx)) _ _ (fnvStep_bound _ _).1 (fnvStep_bound _ _).2 (fnvStep_bound _ _).1 (fnvStep_bound _ _).2 h
  have h3 := fnv_byte _ y F[k] hb.1 hb.2 hy (hF _ (List.getElem_mem hk)) h2
  rw [hx] at hne
  exact hne h3

theorem leB_set (l : List Int) (k : Nat) (hk : k < l.length) (y : Int) : leB (l.set k y) = leB l + (y - l.getD k 0) * 256 ^ k := by
  induction l generalizing k with
  | nil => simp at hk
  | cons x r ih =>
    cases k with
    | zero => simp [leB]; omega
    | succ k =>
      have := ih k (by simpa using hk)
      simp only [List.set_cons_succ, leB, this, List.getD_cons_succ, Int.pow_succ]
      rw [Int.mul_add, Int.mul_left_comm 256 (y - r.getD k 0), Int.mul_comm 256 (256 ^ k)]
      omega

theorem leB_lowB4 (S : Int) (h0 : 0 ≤ S) (h1 : S < 4294967296) : leB (lowB S 4) = S := by
  rw [leB_lowB S 4 h0]; exact Int.emod_eq_of_lt h0 h1

theorem sealed_sealS (l : List Int) (hl : l.length ≤ 252) : sealed (sealS l) := by
  have hf := fillS_length l hl
  have hb := sumS_bound (fillS l)
  refine ⟨sealS_length l hl, ?_⟩
  have e1 : (sealS l).take 252 = fillS l := by rw [sealS, ← hf, List.take_left']; rfl
  rw [e1]
  have : getV (sealS l) 252 4 = sumS (fillS l) % 256 ^ 4 := by
    have := getV_put (fillS l) (sumS (fillS l)) 4 hb.1
    rw [hf] at this; exact this
  rw [this]; exact Int.emod_eq_of_lt hb.1 hb.2

theorem not_sealed (l : List Int) (hb : ∀ x ∈ l, 0 ≤ x ∧ x ≤ 255) (hl : l.length ≤ 252) (k : Nat) (hk : k < 256) (y : Int) (hy : 0 ≤ y ∧ y ≤ 255) (hne : y ≠ (sealS l).getD k 0) : ¬ sealed ((sealS l).set k y) := by
  have hf := fillS_length l hl
  have hS := sumS_bound (fillS l)
  have hFb : ∀ x ∈ fillS l, 0 ≤ x ∧ x ≤ 255 := fun x hx => by
    unfold fillS at hx
    rcases List.mem_append.1 hx with h | h
    · exact hb x h
    · rw [List.eq_of_mem_replicate h]; decide
  rintro ⟨_, hs⟩
  by_cases h252 : k < 252
  · have hkF : k < (fillS l).length := by omega
    have e : (sealS l).set k y = (fillS l).set k y ++ lowB (sumS (fillS l)) 4 := by rw [sealS, List.set_append_left _ _ hkF]
    have hg : (sealS l).getD k 0 = (fillS l).getD k 0 := by
      rw [sealS, List.getD_eq_getElem?_getD, List.getD_eq_getElem?_getD, List.getElem?_append_left hkF]
    rw [hg] at hne
    have e1 : ((sealS l).set k y).take 252 = (fillS l).set k y := by
      rw [e, List.take_left' (by rw [List.length_set, hf])]
    have e2 : getV ((sealS l).set k y) 252 4 = sumS (fillS l) := by
      unfold getV
      rw [e, List.drop_left' (by rw [List.length_set, hf]), List.take_of_length_le (by rw [lowB_length]; exact Nat.le_refl _), leB_lowB4 _ hS.1 hS.2]
    rw [e1, e2] at hs
    exact sumS_set _ hFb k hkF y hy hne hs.symm
  · have hkF : (fillS l).length ≤ k := by omega
    have e : (sealS l).set k y = fillS l ++ (lowB (sumS (fillS l)) 4).set (k - 252) y := by rw [sealS, List.set_append_right _ _ hkF, hf]
    have hg : (sealS l).getD k 0 = (lowB (sumS (fillS l)) 4).getD (k - 252) 0 := by
      rw [sealS, List.getD_eq_getElem?_getD, List.getD_eq_getElem?_getD, List.getElem?_append_right hkF, hf]
    rw [hg] at hne
    have e1 : ((sealS l).set k y).take 252 = fillS l := by rw [e, List.take_left' hf]
    have e2 : getV ((sealS l).set k y) 252 4 = leB ((lowB (sumS (fillS l)) 4).set (k - 252) y) := by
      unfold getV
      rw [e, List.drop_left' hf, List.take_of_length_le (by rw [List.length_set, lowB_length]; exact Nat.le_refl _)]
    rw [e1, e2, leB_set _ _ (by rw [lowB_length]; omega), leB_lowB4 _ hS.1 hS.2] at hs
    have hp := pow256_pos (k - 252)
    have hz : (y - (lowB (sumS (fillS l)) 4).getD (k - 252) 0) * 256 ^ (k - 252) = 0 := by omega
    rcases Int.mul_eq_zero.1 hz with h | h
    · omega
    · omega

theorem xor_ne (x b : Int) (hx : 0 ≤ x ∧ x ≤ 255) (hb : 0 ≤ b ∧ b ≤ 255) : (0 ≤ bits BinOp.xor IntKind.u8 x b ∧ bits BinOp.xor IntKind.u8 x b ≤ 255) ∧ (bits BinOp.xor IntKind.u8 x b = x ↔ b = 0) := by
  obtain ⟨m, rfl⟩ : ∃ m : Nat, x = m := ⟨x.toNat, by omega⟩
  obtain ⟨n, rfl⟩ : ∃ n : Nat, b = n := ⟨b.toNat, by omega⟩
  rw [u8_xor_nat m n (by omega) (by omega)]
  have l1 : m ^^^ n < 2 ^ 8 := Nat.xor_lt_two_pow (by omega) (by omega)
  refine ⟨by omega, fun h => ?_, fun h => ?_⟩
  · have : n = 0 := xor_cancel_nat m n 0 (by rw [Nat.xor_zero]; omega)
    omega
  · have : n = 0 := by omega
    rw [this, Nat.xor_zero]

end Go.Proofs.Ytmjndpmpeidhaaa
