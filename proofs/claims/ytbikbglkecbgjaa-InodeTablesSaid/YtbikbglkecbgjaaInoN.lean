/- Plain facts on inodes: their bytes, there and back. -/
import Derived.Test.YtbikbglkecbgjaaInoD
namespace Go.Proofs.Ytbikbglkecbgjaa
open Go.RowKit
set_option linter.unusedVariables false

/-- How many bytes number j of an inode has; where they begin. -/
def w7 (j : Nat) : Nat := if j < 2 then 1 else if j = 2 then 4 else 2
def p7 : Nat → Nat
  | 0 => 0
  | j + 1 => p7 j + w7 j
theorem w7_le (j : Nat) : 1 ≤ w7 j ∧ w7 j ≤ 4 := by unfold w7; split <;> (try split) <;> omega
theorem w7_two (j : Nat) : w7 (3 + j) = 2 := by unfold w7; rw [if_neg (by omega), if_neg (by omega)]
theorem p7_two : ∀ j, p7 (3 + j) = 6 + 2 * j
  | 0 => rfl
  | j + 1 => by
    have := p7_two j
    show p7 (3 + j) + w7 (3 + j) = _
    rw [this, w7_two]; omega
theorem p7_in (j : Nat) (hj : j < 14) : p7 j + w7 j ≤ 28 := by
  by_cases h : j < 3
  · have : j = 0 ∨ j = 1 ∨ j = 2 := by omega
    rcases this with rfl | rfl | rfl <;> decide
  · obtain ⟨k, rfl⟩ : ∃ k, j = 3 + k := ⟨j - 3, by omega⟩
    rw [p7_two, w7_two]; omega
theorem p7_end : p7 14 = 28 := rfl
/-- The bytes of an inode's first j numbers; all 32. -/
def con7 (L : List Int) : Nat → List Int
  | 0 => []
  | j + 1 => con7 L j ++ lowB (L.getD j 0) (w7 j)
theorem con7_length (L : List Int) : ∀ j, (con7 L j).length = p7 j
  | 0 => rfl
  | j + 1 => by rw [con7, List.length_append, con7_length L j, lowB_length]; rfl
def enc7 (L : List Int) : List Int := con7 L 14 ++ List.replicate 4 0
theorem enc7_length (L : List Int) : (enc7 L).length = 32 := by rw [enc7, List.length_append, con7_length, List.length_replicate]; rfl
theorem con7_split (L : List Int) (i : Nat) : ∀ j, i < j → ∃ B, con7 L j = con7 L i ++ (lowB (L.getD i 0) (w7 i) ++ B) := by
  intro j
  induction j with
  | zero => intro h; omega
  | succ j ih =>
    intro h
    by_cases e : i = j
    · subst e; exact ⟨[], by rw [con7]; simp⟩
    · obtain ⟨B, hB⟩ := ih (by omega)
      exact ⟨B ++ lowB (L.getD j 0) (w7 j), by rw [con7, hB]; simp⟩
theorem con7_byt (L : List Int) : ∀ j, Byt (con7 L j)
  | 0 => byt_nil
  | j + 1 => byt_append (con7_byt L j) (byt_low _ _)
theorem enc7_byt (L : List Int) : Byt (enc7 L) := byt_append (con7_byt L 14) (byt_replicate 4)
/-- Each number of a well formed inode fits its bytes. -/
theorem frm7_num {L : List Int} (hL : L.length = 14) (h : frmI L = true) (j : Nat) (hj : j < 14) : 0 ≤ L.getD j 0 ∧ L.getD j 0 < 256 ^ w7 j := by
  unfold frmI at h
  split at h
  · have e := of_decide_eq_true h
    have h0 : L.getD j 0 = 0 := by
      rw [e]
      match j, hj with
      | 0, _ | 1, _ | 2, _ | 3, _ | 4, _ | 5, _ | 6, _ | 7, _ | 8, _ | 9, _ | 10, _ | 11, _ | 12, _ | 13, _ => rfl
    have := pow256_pos (w7 j)
    rw [h0]; omega
  · unfold frmN at h
    simp only [Bool.and_eq_true, decide_eq_true_eq] at h
    obtain ⟨h1, h2, h3, h4, h5⟩ := h
    have hm : most (L.getD 0 0) ≤ 35328 := by unfold most; split <;> omega
    by_cases e0 : j = 0
    · subst e0; rw [show w7 0 = 1 from rfl, Int.pow_succ, Int.pow_zero]; omega
    by_cases e1 : j = 1
    · subst e1; rw [show w7 1 = 1 from rfl, Int.pow_succ, Int.pow_zero]; omega
    by_cases e2 : j = 2
    · subst e2; rw [show w7 2 = 4 from rfl, show (256 : Int) ^ 4 = 4294967296 from rfl]; omega
    obtain ⟨k, rfl⟩ : ∃ k, j = 3 + k := ⟨j - 3, by omega⟩
    rw [w7_two, show (256 : Int) ^ 2 = 65536 from rfl]
    by_cases ek : k = 10
    · subst ek
      have := inB_iff.1 h5
      show 0 ≤ L.getD 13 0 ∧ L.getD 13 0 < 65536
      omega
    · have hd := inB_iff.1 ((locS_iff _).1 h4 k (by simp [hL]; omega))
      have e : ((L.drop 3).take 10).getD k 0 = L.getD (3 + k) 0 := by
        simp only [List.getD_eq_getElem?_getD, List.getElem?_take, List.getElem?_drop]
        rw [if_pos (by omega)]
      rw [e] at hd; omega
/-- What stands in the places of the numbers. -/
def rd7 (c : List Int) : List Int := (List.range 14).map fun j => getV c (p7 j) (w7 j)
theorem rd7_length (c : List Int) : (rd7 c).length = 14 := by simp [rd7]
theorem rd7_get (c : List Int) (j : Nat) (hj : j < 14) : (rd7 c).getD j 0 = getV c (p7 j) (w7 j) := by
  simp [rd7, List.getD_eq_getElem?_getD, hj]
theorem list14 {L M : List Int} (h : L.length = 14) (h' : M.length = 14) (e : ∀ j, j < 14 → L.getD j 0 = M.getD j 0) : L = M := by
  apply List.ext_getElem (by rw [h, h'])
  intro i h1 h2
  have := e i (by omega)
  simpa [List.getD_eq_getElem?_getD, h1, h2] using this
theorem rd7_enc {L : List Int} (hL : L.length = 14) (h : frmI L = true) : rd7 (enc7 L) = L := by
  refine list14 (rd7_length _) hL fun j hj => ?_
  rw [rd7_get _ _ hj, enc7]
  obtain ⟨B, hB⟩ := con7_split L j 14 hj
  obtain ⟨h0, h1⟩ := frm7_num hL h j hj
  rw [hB, List.append_assoc, List.append_assoc, ← con7_length L j]
  exact getV_in _ _ _ _ h0 h1

/-- An inode whose first j numbers have been read. -/
def rdTo7 (c : List Int) (j : Nat) : List Int := (List.range 14).map fun i => if i < j then getV c (p7 i) (w7 i) else 0
theorem rdTo7_length (c : List Int) (j : Nat) : (rdTo7 c j).length = 14 := by simp [rdTo7]
theorem rdTo7_set (c : List Int) (j : Nat) : (rdTo7 c j).set j (getV c (p7 j) (w7 j)) = rdTo7 c (j + 1) := by
  apply List.ext_getElem (by rw [List.length_set, rdTo7_length, rdTo7_length])
  intro i h1 h2
  simp only [rdTo7, List.getElem_set, List.getElem_map, List.getElem_range]
  by_cases e : j = i
  · subst e; rw [if_pos rfl, if_pos (by omega)]
  · rw [if_neg e]
    by_cases h : i < j
    · rw [if_pos h, if_pos (by omega)]
    · rw [if_neg h, if_neg (by omega)]
theorem rdTo7_full (c : List Int) : rdTo7 c 14 = rd7 c := by
  unfold rdTo7 rd7
  apply List.map_congr_left
  intro i hi
  rw [if_pos (List.mem_range.1 hi)]
theorem rdTo7_zero (c : List Int) : rdTo7 c 0 = zeroI := by
  unfold rdTo7
  rw [List.map_congr_left (g := fun _ => (0 : Int)) (fun i _ => if_neg (Nat.not_lt_zero _))]
  rfl
theorem getV7 {c : List Int} (hb : Byt c) (j : Nat) : 0 ≤ getV c (p7 j) (w7 j) ∧ getV c (p7 j) (w7 j) < 4294967296 := by
  have h := getV_bound (byt_mem hb) (p7 j) (w7 j)
  have := pow256_le (w7_le j).2
  have e : (256 : Int) ^ 4 = 4294967296 := rfl
  omega

/-- The inodes of a block of the table. -/
def allF (O : List (List Int)) : Bool := decide (O.length = 8) && O.all frmI
def Len14 (O : List (List Int)) : Prop := ∀ x ∈ O, x.length = 14
theorem len14_get {O : List (List Int)} (h : Len14 O) (k : Nat) (hk : k < O.length) : (O.getD k []).length = 14 := by
  have : O.getD k [] = O[k] := by simp [List.getD_eq_getElem?_getD, hk]
  rw [this]; exact h _ (List.getElem_mem hk)
theorem all_iff (O : List (List Int)) : O.all frmI = true ↔ ∀ j, j < O.length → frmI (O.getD j []) = true := by
  rw [List.all_eq_true]
  constructor
  · intro h j hj
    have : O.getD j [] = O[j] := by simp [List.getD_eq_getElem?_getD, hj]
    rw [this]; exact h _ (List.getElem_mem hj)
  · intro h x hx
    obtain ⟨j, hj, rfl⟩ := List.getElem_of_mem hx
    have := h j hj
    simpa [List.getD_eq_getElem?_getD, hj] using this
theorem allF_yes {O : List (List Int)} (h8 : O.length = 8) (h : ∀ j, j < 8 → frmI (O.getD j []) = true) : allF O = true := by
  unfold allF
  rw [decide_eq_true h8, Bool.true_and, all_iff, h8]; exact h
theorem allF_no {O : List (List Int)} {k : Nat} (h8 : O.length = 8) (hk : k < 8) (h : frmI (O.getD k []) = false) : allF O = false := by
  cases ha : allF O
  · rfl
  · unfold allF at ha
    rw [Bool.and_eq_true] at ha
    have := (all_iff O).1 ha.2 k (by omega)
    rw [h] at this; cases this
theorem allF_len {O : List (List Int)} (h : allF O = true) : O.length = 8 ∧ ∀ j, j < 8 → frmI (O.getD j []) = true := by
  unfold allF at h
  rw [Bool.and_eq_true] at h
  have h8 := of_decide_eq_true h.1
  refine ⟨h8, fun j hj => (all_iff O).1 h.2 j (by omega)⟩
/-- The block, of the first k inodes; of all. -/
def encK7 (O : List (List Int)) : Nat → List Int
  | 0 => []
  | k + 1 => encK7 O k ++ enc7 (O.getD k [])
theorem encK7_length (O : List (List Int)) : ∀ k, (encK7 O k).length = 32 * k
  | 0 => rfl
  | k + 1 => by rw [encK7, List.length_append, encK7_length O k, enc7_length]; omega
theorem encK7_byt (O : List (List Int)) : ∀ k, Byt (encK7 O k)
  | 0 => byt_nil
  | k + 1 => byt_append (encK7_byt O k) (enc7_byt _)
def encT (O : List (List Int)) : List Int := encK7 O 8
/-- The bytes of inode k in a block; what inode they tell. -/
def chunk (l : List Int) (k : Nat) : List Int := (l.drop (32 * k)).take 32
theorem chunk_length {l : List Int} (h : l.length = 256) (k : Nat) (hk : k < 8) : (chunk l k).length = 32 := by simp [chunk]; omega
theorem chunk_byt {l : List Int} (h : Byt l) (k : Nat) : Byt (chunk l k) := byt_take (byt_drop h _) _
theorem encK7_split (O : List (List Int)) (i : Nat) : ∀ j, i < j → ∃ B, encK7 O j = encK7 O i ++ (enc7 (O.getD i []) ++ B) := by
  intro j
  induction j with
  | zero => intro h; omega
  | succ j ih =>
    intro h
    by_cases e : i = j
    · subst e; exact ⟨[], by rw [encK7]; simp⟩
    · obtain ⟨B, hB⟩ := ih (by omega)
      exact ⟨B ++ enc7 (O.getD j []), by rw [encK7, hB]; simp⟩
theorem chunk_enc (O : List (List Int)) (k : Nat) (hk : k < 8) : chunk (encT O) k = enc7 (O.getD k []) := by
  obtain ⟨B, hB⟩ := encK7_split O k 8 hk
  unfold chunk encT
  rw [hB, ← encK7_length O k, List.drop_left, ← enc7_length (O.getD k []), List.take_left]
def rdJ (l : List Int) (k : Nat) : List Int := rd7 (chunk l k)
def rdT (l : List Int) (n : Nat) : List (List Int) := (List.range n).map (rdJ l)
theorem rdT_length (l : List Int) (n : Nat) : (rdT l n).length = n := by simp [rdT]
theorem rdT_get (l : List Int) (n k : Nat) (h : k < n) : (rdT l n).getD k [] = rdJ l k := by simp [rdT, List.getD_eq_getElem?_getD, h]
theorem rdT_succ (l : List Int) (n : Nat) : rdT l (n + 1) = rdT l n ++ [rdJ l n] := by simp [rdT, List.range_succ]
theorem rdT_14 (l : List Int) (n : Nat) : Len14 (rdT l n) := fun x hx => by
  obtain ⟨j, _, rfl⟩ := List.mem_map.1 hx
  exact rd7_length _
/-- A list of n inodes of which the first k are laid. -/
def rdTill7 (l : List Int) (n k : Nat) : List (List Int) := (List.range n).map fun j => if j < k then rdJ l j else zeroI
theorem rdTill7_length (l : List Int) (n k : Nat) : (rdTill7 l n k).length = n := by simp [rdTill7]
theorem rdTill7_set (l : List Int) (n k : Nat) : (rdTill7 l n k).set k (rdJ l k) = rdTill7 l n (k + 1) := by
  apply List.ext_getElem (by rw [List.length_set, rdTill7_length, rdTill7_length])
  intro i h1 h2
  simp only [rdTill7, List.getElem_set, List.getElem_map, List.getElem_range]
  by_cases e : k = i
  · subst e; rw [if_pos rfl, if_pos (by omega)]
  · rw [if_neg e]
    by_cases h : i < k
    · rw [if_pos h, if_pos (by omega)]
    · rw [if_neg h, if_neg (by omega)]
theorem rdTill7_zero (l : List Int) (n : Nat) : rdTill7 l n 0 = List.replicate n zeroI := by
  rw [List.eq_replicate_iff]
  refine ⟨rdTill7_length l n 0, fun x hx => ?_⟩
  obtain ⟨i, _, rfl⟩ := List.mem_map.1 hx
  rw [if_neg (by omega)]
theorem rdTill7_full (l : List Int) (n : Nat) : rdTill7 l n n = rdT l n := by
  unfold rdTill7 rdT
  apply List.map_congr_left
  intro i hi
  rw [if_pos (List.mem_range.1 hi)]
theorem rdTill7_14 (l : List Int) (n k : Nat) : Len14 (rdTill7 l n k) := fun x hx => by
  obtain ⟨j, _, rfl⟩ := List.mem_map.1 hx
  split
  · exact rd7_length _
  · rfl
/-- The block tells inodes. -/
def hasT (l : List Int) : Prop := l.length = 256 ∧ allF (rdT l 8) = true ∧ encT (rdT l 8) = l
theorem rdT_enc {O : List (List Int)} (hO : Len14 O) (h : allF O = true) : rdT (encT O) 8 = O := by
  obtain ⟨h8, hf⟩ := allF_len h
  apply List.ext_getElem (by rw [rdT_length, h8])
  intro i h1 h2
  have hi : i < 8 := by omega
  have e : O.getD i [] = O[i] := by simp [List.getD_eq_getElem?_getD, h2]
  simp only [rdT, List.getElem_map, List.getElem_range, rdJ]
  rw [chunk_enc O i hi, rd7_enc (len14_get hO i h2) (hf i hi), e]
theorem has_enc7 {O : List (List Int)} (hO : Len14 O) (h : allF O = true) : hasT (encT O) := by
  have e := rdT_enc hO h
  exact ⟨by rw [encT, encK7_length], by rw [e]; exact h, by rw [e]⟩
end Go.Proofs.Ytbikbglkecbgjaa
