/- Plain facts on inodes and maps: whether they are well formed, their bytes. -/
import Derived.Test.YtmjndpmpeidhaaaPackM
import Derived.Test.YtmjndpmpeidhaaaMem
namespace Go.Proofs.Ytmjndpmpeidhaaa
open Go.RowKit

/-- A block's number, or 0. -/
def inB (n : Int) : Bool := decide (0 ≤ n ∧ n ≤ 767)
def locS (l : List Int) : Bool := l.all inB
theorem locS_iff (l : List Int) : locS l = true ↔ ∀ j, j < l.length → inB (l.getD j 0) = true := by
  unfold locS
  rw [List.all_eq_true]
  constructor
  · intro h j hj
    have : l.getD j 0 = l[j] := by simp [List.getD_eq_getElem?_getD, hj]
    rw [this]; exact h _ (List.getElem_mem hj)
  · intro h x hx
    obtain ⟨j, hj, rfl⟩ := List.getElem_of_mem hx
    have := h j hj
    simpa [List.getD_eq_getElem?_getD, hj] using this
theorem locS_no {l : List Int} {k : Nat} (hk : k < l.length) (h : inB (l.getD k 0) = false) : locS l = false := by
  cases hl : locS l
  · rfl
  · have := (locS_iff l).1 hl k hk
    rw [h] at this; cases this
theorem getV_in (A B : List Int) (n : Int) (k : Nat) (h : 0 ≤ n) (h1 : n < 256 ^ k) : getV (A ++ (lowB n k ++ B)) A.length k = n := by
  unfold getV
  rw [List.drop_left, List.take_left' (lowB_length n k), leB_lowB n k h]
  exact Int.emod_eq_of_lt h h1

/-- The bytes of a map, the first k blocks. -/
def mapK (l : List Int) : Nat → List Int
  | 0 => []
  | k + 1 => mapK l k ++ lowB (l.getD k 0) 2
theorem mapK_length (l : List Int) : ∀ k, (mapK l k).length = 2 * k
  | 0 => rfl
  | k + 1 => by rw [mapK, List.length_append, mapK_length l k, lowB_length]; omega
def mapS (l : List Int) : List Int := mapK l 128
/-- The blocks of a map's bytes, the first k. -/
def rdK (b : List Int) (k : Nat) : List Int := (List.range k).map fun j => getV b (2 * j) 2
theorem rdK_length (b : List Int) (k : Nat) : (rdK b k).length = k := by simp [rdK]
theorem rdK_succ (b : List Int) (k : Nat) : rdK b (k + 1) = rdK b k ++ [getV b (2 * k) 2] := by simp [rdK, List.range_succ]
theorem rdK_get (b : List Int) (k j : Nat) (h : j < k) : (rdK b k).getD j 0 = getV b (2 * j) 2 := by
  simp [rdK, List.getD_eq_getElem?_getD, h]
/-- A list of n numbers of which the first k are laid. -/
def rdTill (b : List Int) (n k : Nat) : List Int := (List.range n).map fun j => if j < k then getV b (2 * j) 2 else 0
theorem rdTill_length (b : List Int) (n k : Nat) : (rdTill b n k).length = n := by simp [rdTill]
theorem rdTill_set (b : List Int) (n k : Nat) : (rdTill b n k).set k (getV b (2 * k) 2) = rdTill b n (k + 1) := by
  apply List.ext_getElem (by rw [List.length_set, rdTill_length, rdTill_length])
  intro i h1 h2
  simp only [rdTill, List.getElem_set, List.getElem_map, List.getElem_range]
  by_cases e : k = i
  · subst e; rw [if_pos rfl, if_pos (by omega)]
  · rw [if_neg e]
    by_cases h : i < k
    · rw [if_pos h, if_pos (by omega)]
    · rw [if_neg h, if_neg (by omega)]
theorem rdTill_zero (b : List Int) (n : Nat) : rdTill b n 0 = List.replicate n 0 := by
  rw [List.eq_replicate_iff]
  refine ⟨rdTill_length b n 0, fun x hx => ?_⟩
  obtain ⟨i, _, rfl⟩ := List.mem_map.1 hx
  rw [if_neg (by omega)]
theorem rdTill_full (b : List Int) (n : Nat) : rdTill b n n = rdK b n := by
  unfold rdTill rdK
  apply List.map_congr_left
  intro i hi
  rw [if_pos (List.mem_range.1 hi)]
theorem mapK_split (l : List Int) (i : Nat) : ∀ j, i < j → ∃ B, mapK l j = mapK l i ++ (lowB (l.getD i 0) 2 ++ B) := by
  intro j
  induction j with
  | zero => intro h; omega
  | succ j ih =>
    intro h
    by_cases e : i = j
    · subst e; exact ⟨[], by rw [mapK]; simp⟩
    · obtain ⟨B, hB⟩ := ih (by omega)
      exact ⟨B ++ lowB (l.getD j 0) 2, by rw [mapK, hB]; simp⟩
theorem inB_iff {n : Int} : inB n = true ↔ 0 ≤ n ∧ n ≤ 767 := decide_eq_true_iff
theorem rd_map {l : List Int} (hl : l.length = 128) (h : locS l = true) : rdK (mapS l) 128 = l := by
  apply List.ext_getElem (by rw [rdK_length, hl])
  intro i h1 h2
  have hi : i < 128 := by rw [rdK_length] at h1; exact h1
  obtain ⟨B, hB⟩ := mapK_split l i 128 hi
  have hb := inB_iff.1 ((locS_iff l).1 h i (by omega))
  have e : l.getD i 0 = l[i] := by simp [List.getD_eq_getElem?_getD, h2]
  simp only [rdK, List.getElem_map, List.getElem_range]
  rw [mapS, hB, ← mapK_length l i, getV_in _ _ _ _ hb.1 (by have : (256 : Int) ^ 2 = 65536 := rfl; omega), e]
theorem byt_low (n : Int) (k : Nat) : Byt (lowB n k) := byt_of_mem (lowB_mem n k)
/-- The blocks of a map's bytes, if they are such. -/
def hasM (b : List Int) : Prop := b.length = 256 ∧ locS (rdK b 128) = true
theorem has_map {l : List Int} (hl : l.length = 128) (h : locS l = true) : hasM (mapS l) := ⟨by rw [mapS, mapK_length], by rw [rd_map hl h]; exact h⟩
theorem getV2_le {l : List Int} (h : ∀ x ∈ l, 0 ≤ x ∧ x ≤ 255) (a : Nat) : 0 ≤ getV l a 2 ∧ getV l a 2 ≤ 65535 := by
  have := getV_bound h a 2
  have e : (256 : Int) ^ 2 = 65536 := rfl
  omega
end Go.Proofs.Ytmjndpmpeidhaaa
