/- Plain facts on bytes: numbers as bytes, the checksum. -/
import Derived.WalkKit
import Derived.Laws.BitsAllLaws
namespace Go.Proofs.Ytmjndpmpeidhaaa
open Go

/-- The lowest k bytes of n, the lowest first. -/
def lowB (n : Int) (k : Nat) : List Int := (List.range k).map fun i => n / 2 ^ (8 * i) % 256
theorem lowB_length (n : Int) (k : Nat) : (lowB n k).length = k := by simp [lowB]
theorem lowB_succ (n : Int) (k : Nat) : lowB n (k + 1) = lowB n k ++ [n / 2 ^ (8 * k) % 256] := by
  simp [lowB, List.range_succ]
theorem lowB_zero (n : Int) : lowB n 0 = [] := rfl
theorem lowB_mem (n : Int) (k : Nat) : ∀ x ∈ lowB n k, 0 ≤ x ∧ x ≤ 255 := by
  intro x hx
  simp only [lowB, List.mem_map, List.mem_range] at hx
  obtain ⟨i, _, rfl⟩ := hx
  have := Int.emod_nonneg (n / 2 ^ (8 * i)) (show (256 : Int) ≠ 0 by decide)
  have := Int.emod_lt_of_pos (n / 2 ^ (8 * i)) (show (0 : Int) < 256 by decide)
  omega
theorem shr_step (n : Int) (j : Nat) : n / 2 ^ (8 * j) / 2 ^ 8 = n / 2 ^ (8 * (j + 1)) := by
  rw [Int.ediv_ediv_of_nonneg (by exact Int.le_of_lt (Int.pow_pos (by decide))), ← Int.pow_add]; rfl

/-- The number whose bytes are l, the lowest first. -/
def leB : List Int → Int
  | [] => 0
  | x :: r => x + 256 * leB r
theorem leB_snoc (l : List Int) (x : Int) : leB (l ++ [x]) = leB l + x * 256 ^ l.length := by
  induction l with
  | nil => simp [leB]
  | cons y r ih =>
    simp only [List.cons_append, leB, ih, List.length_cons, Int.pow_succ]
    rw [Int.mul_add, Int.mul_left_comm 256 x, Int.mul_comm 256 (256 ^ r.length)]
    omega

def okSize (size : Int) : Bool := decide (1 ≤ size) && decide (size ≤ 8)
/-- The document's Put. -/
def putS (l : List Int) (n size : Int) : List Int := if 1 ≤ size ∧ size ≤ 8 then l ++ lowB n size.toNat else l
/-- The document's Get. -/
def getOk (l : List Int) (at_ size : Int) : Prop := 1 ≤ size ∧ size ≤ 8 ∧ 0 ≤ at_ ∧ at_ + size ≤ l.length
def getV (l : List Int) (at_ size : Nat) : Int := leB ((l.drop at_).take size)

theorem getV_head (l : List Int) (a k : Nat) (h : a < l.length) : getV l a (k + 1) = l.getD a 0 + 256 * getV l (a + 1) k := by
  unfold getV
  rw [List.drop_eq_getElem_cons h, List.take_succ_cons, leB]
  simp [List.getD_eq_getElem?_getD, h]
theorem getV_snoc (l : List Int) (a k : Nat) (h : a + k < l.length) : getV l a (k + 1) = getV l a k + l.getD (a + k) 0 * 256 ^ k := by
  unfold getV
  rw [List.take_succ_eq_append_getElem (by rw [List.length_drop]; omega), leB_snoc]
  have e : ((l.drop a).take k).length = k := by simp; omega
  rw [e]
  simp [List.getD_eq_getElem?_getD, h]
theorem getV_zero (l : List Int) (a : Nat) : getV l a 0 = 0 := by simp [getV, leB]
theorem leB_bound (l : List Int) (h : ∀ x ∈ l, 0 ≤ x ∧ x ≤ 255) : 0 ≤ leB l ∧ leB l < 256 ^ l.length := by
  induction l with
  | nil => simp [leB]
  | cons x r ih =>
    have h1 := h x (by simp)
    have h2 := ih fun y hy => h y (by simp [hy])
    simp only [leB, List.length_cons, Int.pow_succ]
    omega
theorem pow256_pos (k : Nat) : (1 : Int) ≤ 256 ^ k := by
  induction k with
  | zero => simp
  | succ n ih => rw [Int.pow_succ]; omega
theorem pow256_le {k m : Nat} (h : k ≤ m) : (256 : Int) ^ k ≤ 256 ^ m := by
  induction m with
  | zero => obtain rfl : k = 0 := by omega
            exact Int.le_refl _
  | succ n ih =>
    by_cases e : k = n + 1
    · rw [e]; exact Int.le_refl _
    · have := ih (by omega)
      have := pow256_pos n
      rw [Int.pow_succ]; omega
theorem getV_bound {l : List Int} (h : ∀ x ∈ l, 0 ≤ x ∧ x ≤ 255) (a k : Nat) : 0 ≤ getV l a k ∧ getV l a k < 256 ^ k := by
  have hb := leB_bound ((l.drop a).take k) fun x hx => h x (List.mem_of_mem_drop (List.mem_of_mem_take hx))
  have hl : ((l.drop a).take k).length ≤ k := by simp; omega
  have hp := pow256_le hl
  unfold getV
  omega
theorem or_low (a x : Int) (k : Nat) (ha : 0 ≤ a) (hx0 : 0 ≤ x) (hx : x < 2 ^ k) (hs : a * 2 ^ k < 18446744073709551616) (hxs : x < 18446744073709551616) :
    bits BinOp.or IntKind.u64 (a * 2 ^ k) x = a * 2 ^ k + x := by
  obtain ⟨m, rfl⟩ : ∃ m : Nat, a = m := ⟨a.toNat, by omega⟩
  obtain ⟨y, rfl⟩ : ∃ y : Nat, x = y := ⟨x.toNat, by omega⟩
  have e : (m : Int) * 2 ^ k = ((m * 2 ^ k : Nat) : Int) := by push_cast; rfl
  have hy : y < 2 ^ k := by
    have : ((y : Nat) : Int) < ((2 ^ k : Nat) : Int) := by push_cast; exact hx
    omega
  rw [e] at hs ⊢
  rw [u64_or_nat _ _ (by omega) (by omega)]
  have := Nat.shiftLeft_add_eq_or_of_lt hy m
  rw [Nat.shiftLeft_eq] at this
  rw [← this]; push_cast; rfl
theorem or_comm64 (a x : Int) (ha : 0 ≤ a) (ha1 : a < 18446744073709551616) (hx0 : 0 ≤ x) (hx : x < 18446744073709551616) :
    bits BinOp.or IntKind.u64 a x = bits BinOp.or IntKind.u64 x a := by
  rw [u64_or a x ha ha1 hx0 hx, u64_or x a hx0 hx ha ha1, Nat.or_comm]

/-- One byte taken into the checksum; the checksum. -/
def fnvStep (h c : Int) : Int := bits BinOp.xor IntKind.u32 h c * 16777619 % 4294967296
def sumS (l : List Int) : Int := l.foldl fnvStep 2166136261
theorem fnvStep_bound (h c : Int) : 0 ≤ fnvStep h c ∧ fnvStep h c < 4294967296 :=
  ⟨Int.emod_nonneg _ (by decide), Int.emod_lt_of_pos _ (by decide)⟩
theorem sumS_bound (l : List Int) : 0 ≤ sumS l ∧ sumS l < 4294967296 := by
  unfold sumS
  rcases List.eq_nil_or_concat l with rfl | ⟨r, x, rfl⟩
  · exact ⟨by decide, by decide⟩
  · rw [List.concat_eq_append, List.foldl_append]
    exact fnvStep_bound _ _
theorem sumS_take (l : List Int) (j : Nat) (h : j < l.length) : sumS (l.take (j + 1)) = fnvStep (sumS (l.take j)) (l.getD j 0) := by
  unfold sumS
  rw [List.take_succ_eq_append_getElem h, List.foldl_append]
  simp [List.getD_eq_getElem?_getD, h]
theorem pow256 (j : Nat) : (256 : Int) ^ j = 2 ^ (8 * j) := by rw [Int.pow_mul]; rfl

/-- The content of a sealed block, filled up; the sealed block. -/
def fillS (l : List Int) : List Int := l ++ List.replicate (252 - l.length) 0
def sealS (l : List Int) : List Int := fillS l ++ lowB (sumS (fillS l)) 4
theorem fillS_length (l : List Int) (h : l.length ≤ 252) : (fillS l).length = 252 := by simp [fillS]; omega
theorem sealS_length (l : List Int) (h : l.length ≤ 252) : (sealS l).length = 256 := by rw [sealS, List.length_append, fillS_length l h, lowB_length]
/-- Is the block sealed? -/
def sealed (l : List Int) : Prop := l.length = 256 ∧ getV l 252 4 = sumS (l.take 252)

theorem leB_lowB (n : Int) (k : Nat) (h : 0 ≤ n) : leB (lowB n k) = n % 256 ^ k := by
  induction k with
  | zero => simp [lowB_zero, leB, Int.emod_one]
  | succ k ih =>
    rw [lowB_succ, leB_snoc, ih, lowB_length, ← pow256, Int.pow_succ]
    have hp : (0 : Int) < 256 ^ k := by have := pow256_pos k; omega
    generalize (256 : Int) ^ k = p at *
    have h1 := Int.mul_ediv_add_emod n p
    have h2 := Int.mul_ediv_add_emod (n / p) 256
    have h3 := Int.emod_nonneg n (show p ≠ 0 by omega)
    have h4 := Int.emod_lt_of_pos n hp
    have h5 := Int.emod_nonneg (n / p) (show (256 : Int) ≠ 0 by decide)
    have h6 := Int.emod_lt_of_pos (n / p) (show (0 : Int) < 256 by decide)
    have h7 : n = p * 256 * (n / p / 256) + (n % p + n / p % 256 * p) := by
      have e : p * (n / p) = p * (256 * (n / p / 256) + n / p % 256) := by rw [h2]
      rw [Int.mul_add, ← Int.mul_assoc] at e
      rw [Int.mul_comm (n / p % 256) p]
      omega
    have h8 : n % p + n / p % 256 * p < p * 256 := by
      have : n / p % 256 * p ≤ 255 * p := Int.mul_le_mul_of_nonneg_right (by omega) (by omega)
      omega
    have h9 : 0 ≤ n % p + n / p % 256 * p := by
      have := Int.mul_nonneg h5 (Int.le_of_lt hp)
      omega
    generalize hr : n % p + n / p % 256 * p = r at *
    conv => rhs; rw [h7]
    rw [Int.mul_add_emod_self_left]
    exact (Int.emod_eq_of_lt h9 h8).symm
theorem getV_put (l : List Int) (n : Int) (k : Nat) (h : 0 ≤ n) : getV (l ++ lowB n k) l.length k = n % 256 ^ k := by
  unfold getV
  rw [List.drop_left, List.take_of_length_le (by rw [lowB_length]; exact Nat.le_refl _), leB_lowB n k h]
theorem and_mask (n : Int) (k : Nat) (h0 : 0 ≤ n) (h1 : n < 18446744073709551616) (hk : k < 8) : bits BinOp.and IntKind.u64 n (256 ^ k - 1) = n % 256 ^ k := by
  obtain ⟨m, rfl⟩ : ∃ m : Nat, n = m := ⟨n.toNat, by omega⟩
  have hp := pow256_le (show k ≤ 7 by omega)
  have hp1 := pow256_pos k
  have e : (256 : Int) ^ k - 1 = ((2 ^ (8 * k) - 1 : Nat) : Int) := by
    have : 1 ≤ 2 ^ (8 * k) := Nat.one_le_two_pow
    rw [pow256, Int.natCast_sub this]; push_cast; rfl
  have hm : (2 ^ (8 * k) - 1 : Nat) < 18446744073709551616 := by omega
  rw [e, u64_and_nat m _ (by omega) hm, Nat.and_two_pow_sub_one_eq_mod, pow256]
  push_cast; rfl

end Go.Proofs.Ytmjndpmpeidhaaa
