/- Plain facts on rows of bits: bytes and bits, the first zero, runs of zeros, counts. -/
namespace Go.Proofs.Ytflkggoknmgbnaa
namespace BM

/-- Bit k of byte x. -/
def bitAt (x : Int) (k : Nat) : Bool := decide (x / 2 ^ k % 2 = 1)

/-- The bytes l are those of the row of bits L. -/
structure Rep (l : List Int) (L : List Bool) : Prop where
  len : l.length = (L.length + 7) / 8
  byte : ∀ j, 0 ≤ l.getD j 0 ∧ l.getD j 0 ≤ 255
  bit : ∀ j, bitAt (l.getD (j / 8) 0) (j % 8) = L.getD j false

def getB (L : List Bool) (i : Int) : Bool := decide (0 ≤ i) && L.getD i.toNat false

theorem getB_nat (L : List Bool) (i : Nat) : getB L i = L.getD i false := by simp [getB]
theorem getB_out (L : List Bool) (i : Int) (h : ¬ (0 ≤ i ∧ i < L.length)) : getB L i = false := by
  unfold getB
  by_cases h0 : 0 ≤ i
  · have : L.length ≤ i.toNat := by omega
    simp [List.getD_eq_getElem?_getD, List.getElem?_eq_none this]
  · simp [h0]

theorem bitAt_zero (k : Nat) : bitAt 0 k = false := by simp [bitAt]

theorem rep_new (n : Nat) : Rep (List.replicate ((n + 7) / 8) 0) (List.replicate n false) := by
  have e : ∀ j, (List.replicate ((n + 7) / 8) (0 : Int)).getD j 0 = 0 := fun j => by
    rw [List.getD_eq_getElem?_getD, List.getElem?_replicate]; split <;> rfl
  refine ⟨by simp, fun j => by rw [e]; decide, fun j => ?_⟩
  rw [e, bitAt_zero, List.getD_eq_getElem?_getD, List.getElem?_replicate]
  split <;> rfl

theorem bit_num (x y : Int) (k : Nat) (h : bitAt x k = bitAt y k) : x / 2 ^ k % 2 = y / 2 ^ k % 2 := by
  simp only [bitAt, decide_eq_decide] at h
  generalize x / 2 ^ k = p at *
  generalize y / 2 ^ k = q at *
  omega

theorem byte_sum (x : Int) (h0 : 0 ≤ x) (h1 : x ≤ 255) :
    x = x / 2 ^ 0 % 2 + 2 * (x / 2 ^ 1 % 2) + 4 * (x / 2 ^ 2 % 2) + 8 * (x / 2 ^ 3 % 2) + 16 * (x / 2 ^ 4 % 2) + 32 * (x / 2 ^ 5 % 2) + 64 * (x / 2 ^ 6 % 2) + 128 * (x / 2 ^ 7 % 2) := by
  omega

/-- A byte is told by its bits. -/
theorem byte_ext (x y : Int) (hx : 0 ≤ x ∧ x ≤ 255) (hy : 0 ≤ y ∧ y ≤ 255) (h : ∀ k, k < 8 → bitAt x k = bitAt y k) : x = y := by
  rw [byte_sum x hx.1 hx.2, byte_sum y hy.1 hy.2]
  rw [bit_num x y 0 (h 0 (by omega)), bit_num x y 1 (h 1 (by omega)), bit_num x y 2 (h 2 (by omega)), bit_num x y 3 (h 3 (by omega)),
    bit_num x y 4 (h 4 (by omega)), bit_num x y 5 (h 5 (by omega)), bit_num x y 6 (h 6 (by omega)), bit_num x y 7 (h 7 (by omega))]

theorem rep_ext {l m : List Int} {L : List Bool} (hl : Rep l L) (hm : Rep m L) : l = m := by
  apply List.ext_getElem (by rw [hl.len, hm.len])
  intro j h1 h2
  have e1 : l[j] = l.getD j 0 := by simp [List.getD_eq_getElem?_getD, h1]
  have e2 : m[j] = m.getD j 0 := by simp [List.getD_eq_getElem?_getD, h2]
  rw [e1, e2]
  refine byte_ext _ _ (hl.byte j) (hm.byte j) fun k hk => ?_
  have a := hl.bit (8 * j + k)
  have b := hm.bit (8 * j + k)
  rw [show (8 * j + k) / 8 = j by omega, show (8 * j + k) % 8 = k by omega] at a b
  rw [a, b]

/-- Setting a bit: what the byte is. -/
theorem bit_set_same (x : Int) (k : Nat) (on : Bool) (y : Int) (hk : k < 8) (h : y = if on then (if bitAt x k then x else x + 2 ^ k) else (if bitAt x k then x - 2 ^ k else x)) (hx : 0 ≤ x ∧ x ≤ 255) :
    (0 ≤ y ∧ y ≤ 255) ∧ ∀ j, j < 8 → bitAt y j = if j = k then on else bitAt x j := by
  have key : ∀ (b : Bool), bitAt x k = b → (0 ≤ y ∧ y ≤ 255) ∧ ∀ j, j < 8 → bitAt y j = if j = k then on else bitAt x j := by
    intro b hb
    rw [hb] at h
    have hk' : k = 0 ∨ k = 1 ∨ k = 2 ∨ k = 3 ∨ k = 4 ∨ k = 5 ∨ k = 6 ∨ k = 7 := by omega
    refine ⟨?_, fun j hj => ?_⟩
    · rcases hk' with rfl | rfl | rfl | rfl | rfl | rfl | rfl | rfl <;> cases b <;> cases on <;>
        simp [bitAt] at hb h <;> omega
    · have hj' : j = 0 ∨ j = 1 ∨ j = 2 ∨ j = 3 ∨ j = 4 ∨ j = 5 ∨ j = 6 ∨ j = 7 := by omega
      rcases hk' with rfl | rfl | rfl | rfl | rfl | rfl | rfl | rfl <;> cases b <;> cases on <;>
        simp [bitAt] at hb h <;> rcases hj' with rfl | rfl | rfl | rfl | rfl | rfl | rfl | rfl <;> simp [bitAt, h] <;> omega
  exact key _ rfl

theorem getD_set {α : Type} (l : List α) (i j : Nat) (v d : α) (hi : i < l.length) : (l.set i v).getD j d = if j = i then v else l.getD j d := by
  rw [List.getD_eq_getElem?_getD, List.getElem?_set, List.getD_eq_getElem?_getD]
  by_cases h : i = j
  · subst h; simp [hi]
  · rw [if_neg h, if_neg (fun e => h e.symm)]

theorem rep_set {l : List Int} {L : List Bool} (h : Rep l L) (i : Nat) (on : Bool) (hi : i < L.length) (y : Int)
    (hy : y = if on then (if bitAt (l.getD (i / 8) 0) (i % 8) then l.getD (i / 8) 0 else l.getD (i / 8) 0 + 2 ^ (i % 8)) else (if bitAt (l.getD (i / 8) 0) (i % 8) then l.getD (i / 8) 0 - 2 ^ (i % 8) else l.getD (i / 8) 0)) :
    Rep (l.set (i / 8) y) (L.set i on) := by
  have hlen := h.len
  have hil : i / 8 < l.length := by omega
  obtain ⟨b1, b2⟩ := bit_set_same (l.getD (i / 8) 0) (i % 8) on y (Nat.mod_lt _ (by omega)) hy (h.byte _)
  refine ⟨by simp [hlen], fun j => ?_, fun j => ?_⟩
  · rw [getD_set _ _ _ _ _ hil]; split
    · exact b1
    · exact h.byte j
  · rw [getD_set _ _ _ _ _ hil, getD_set _ _ _ _ _ hi]
    by_cases hj : j / 8 = i / 8
    · rw [if_pos hj, b2 _ (Nat.mod_lt _ (by omega))]
      by_cases e : j = i
      · subst e; simp
      · rw [if_neg (by omega), if_neg e, ← h.bit j, hj]
    · rw [if_neg hj, if_neg (fun e => hj (by rw [e])), h.bit j]

/-- The first zero from i on, or -1. -/
def firstZ (L : List Bool) (i : Nat) : Int :=
  match (L.drop i).findIdx? (fun b => !b) with
  | some k => (i + k : Nat)
  | none => -1

theorem firstZ_some {L : List Bool} {i j : Nat} (hij : i ≤ j) (hj : j < L.length) (hz : L.getD j false = false) (hb : ∀ k, i ≤ k → k < j → L.getD k false = true) : firstZ L i = j := by
  have e : (L.drop i).findIdx? (fun b => !b) = some (j - i) := by
    rw [List.findIdx?_eq_some_iff_getElem]
    refine ⟨by simp; omega, ?_, fun k hk => ?_⟩
    · have : L[j] = false := by simpa [List.getD_eq_getElem?_getD, hj] using hz
      simp only [List.getElem_drop, show i + (j - i) = j by omega, this]; rfl
    · have h1 : i + k < L.length := by omega
      have : L[i + k] = true := by simpa [List.getD_eq_getElem?_getD, h1] using hb (i + k) (by omega) (by omega)
      simp only [List.getElem_drop, this]; decide
  rw [firstZ, e]; show ((i + (j - i) : Nat) : Int) = j; congr 1; omega

theorem firstZ_none {L : List Bool} {i : Nat} (hb : ∀ k, i ≤ k → k < L.length → L.getD k false = true) : firstZ L i = -1 := by
  have e : (L.drop i).findIdx? (fun b => !b) = none := by
    rw [List.findIdx?_eq_none_iff]
    intro x hx
    obtain ⟨k, hk, rfl⟩ := List.mem_iff_getElem.1 hx
    simp only [List.length_drop] at hk
    have h1 : i + k < L.length := by omega
    have : L[i + k] = true := by simpa [List.getD_eq_getElem?_getD, h1] using hb (i + k) (by omega) h1
    simp only [List.getElem_drop, this]; rfl
  rw [firstZ, e]

theorem firstZ_cases (L : List Bool) (i : Nat) : (firstZ L i = -1 ∧ ∀ k, i ≤ k → k < L.length → L.getD k false = true) ∨
    ∃ j : Nat, i ≤ j ∧ j < L.length ∧ firstZ L i = j ∧ L.getD j false = false ∧ ∀ k, i ≤ k → k < j → L.getD k false = true := by
  by_cases h : ∃ j, i ≤ j ∧ j < L.length ∧ L.getD j false = false
  · obtain ⟨j0, a0, b0, c0⟩ := h
    have : ∀ n j, j ≤ n → i ≤ j → j < L.length → L.getD j false = false → ∃ j, i ≤ j ∧ j < L.length ∧ L.getD j false = false ∧ ∀ k, i ≤ k → k < j → L.getD k false = true := by
      intro n
      induction n with
      | zero => intro j hn h1 h2 h3; exact ⟨j, h1, h2, h3, fun k _ hk => by omega⟩
      | succ n ih =>
        intro j hn h1 h2 h3
        by_cases hk : ∃ k, i ≤ k ∧ k < j ∧ L.getD k false = false
        · obtain ⟨k, k1, k2, k3⟩ := hk; exact ih k (by omega) k1 (by omega) k3
        · refine ⟨j, h1, h2, h3, fun k k1 k2 => ?_⟩
          cases hc : L.getD k false
          · exact absurd ⟨k, k1, k2, hc⟩ hk
          · rfl
    obtain ⟨j, h1, h2, h3, h4⟩ := this j0 j0 (Nat.le_refl _) a0 b0 c0
    exact .inr ⟨j, h1, h2, firstZ_some h1 h2 h3 h4, h3, h4⟩
  · have h' : ∀ k, i ≤ k → k < L.length → L.getD k false = true := fun k k1 k2 => by
      cases hc : L.getD k false
      · exact absurd ⟨k, k1, k2, hc⟩ h
      · rfl
    exact .inl ⟨firstZ_none h', h'⟩

theorem firstZ_bd (L : List Bool) (i : Nat) : -1 ≤ firstZ L i ∧ firstZ L i < (L.length + 1 : Nat) := by
  rcases firstZ_cases L i with ⟨h, _⟩ | ⟨j, _, h2, h3, _⟩ <;> omega

/-- First: from goal on, or from 0 on. -/
def firstS (L : List Bool) (goal : Int) : Int :=
  if 0 ≤ goal ∧ goal < L.length then (if 0 ≤ firstZ L goal.toNat then firstZ L goal.toNat else firstZ L 0) else firstZ L 0

/-- Run: z zeros stand ahead of place i; the rest of the row is given. -/
def runGo (n : Int) : List Bool → (z i : Nat) → Int
  | [], _, _ => -1
  | b :: r, z, i => if b then runGo n r 0 (i + 1) else if (z + 1 : Nat) = n then (i : Int) - n + 1 else runGo n r (z + 1) (i + 1)

def runS (L : List Bool) (n : Int) : Int := if n < 1 then -1 else runGo n L 0 0

theorem runGo_drop {L : List Bool} {i : Nat} (h : i < L.length) (n : Int) (z : Nat) : runGo n (L.drop i) z i =
    if L.getD i false then runGo n (L.drop (i + 1)) 0 (i + 1) else if (z + 1 : Nat) = n then (i : Int) - n + 1 else runGo n (L.drop (i + 1)) (z + 1) (i + 1) := by
  rw [List.drop_eq_getElem_cons h, runGo]
  simp [List.getD_eq_getElem?_getD, h]

/-- What a run is: its bits are zeros, and none begins ahead of it. -/
def isRun (L : List Bool) (n i : Nat) : Prop := i + n ≤ L.length ∧ ∀ k, i ≤ k → k < i + n → L.getD k false = false

theorem runGo_spec (L : List Bool) (n : Nat) (hn : 1 ≤ n) : ∀ (m i z : Nat), i + m = L.length → z < n → z ≤ i →
    (∀ k, i - z ≤ k → k < i → L.getD k false = false) → (∀ s, s + n ≤ i → ¬ isRun L n s) → (z < i → L.getD (i - z - 1) false = true) →
    (runGo n (L.drop i) z i = -1 ∧ ∀ s, ¬ isRun L n s) ∨ ∃ s : Nat, runGo n (L.drop i) z i = s ∧ isRun L n s ∧ ∀ t, t < s → ¬ isRun L n t := by
  intro m
  induction m with
  | zero =>
    intro i z hi hz _ _ hno _
    rw [List.drop_eq_nil_of_le (by omega), runGo]
    exact .inl ⟨rfl, fun s hs => hno s (by have := hs.1; omega) hs⟩
  | succ m ih =>
    intro i z hi hz hzi hzero hno hone
    have hlt : i < L.length := by omega
    rw [runGo_drop hlt]
    cases hb : L.getD i false
    · simp only [Bool.false_eq_true, if_false]
      by_cases he : ((z + 1 : Nat) : Int) = (n : Int)
      · rw [if_pos he]
        have hzn : z + 1 = n := by omega
        refine .inr ⟨i - z, by omega, ⟨by omega, fun k k1 k2 => ?_⟩, fun t ht hr => ?_⟩
        · by_cases e : k = i
          · rw [e, hb]
          · exact hzero k k1 (by omega)
        · by_cases e : t + n ≤ i
          · exact hno t e hr
          · have h1 := hr.2 (i - z - 1) (by omega) (by omega)
            rw [hone (by omega)] at h1
            exact absurd h1 (by decide)
      · rw [if_neg he]
        refine ih (i + 1) (z + 1) (by omega) (by omega) (by omega) (fun k k1 k2 => ?_) (fun s hs hr => ?_) (fun h => ?_)
        · by_cases e : k = i
          · rw [e, hb]
          · exact hzero k (by omega) (by omega)
        · by_cases e : s + n ≤ i
          · exact hno s e hr
          · have h1 := hr.2 (i - z - 1) (by omega) (by omega)
            rw [hone (by omega)] at h1
            exact absurd h1 (by decide)
        · rw [show i + 1 - (z + 1) - 1 = i - z - 1 by omega]; exact hone (by omega)
    · simp only [if_true]
      refine ih (i + 1) 0 (by omega) (by omega) (by omega) (fun k k1 k2 => by omega) (fun s hs hr => ?_) (fun _ => ?_)
      · by_cases e : s + n ≤ i
        · exact hno s e hr
        · have h1 := hr.2 i (by omega) (by omega)
          rw [hb] at h1
          exact absurd h1 (by decide)
      · rw [show i + 1 - 0 - 1 = i by omega]; exact hb

theorem runS_spec (L : List Bool) (n : Nat) (hn : 1 ≤ n) : (runS L n = -1 ∧ ∀ s, ¬ isRun L n s) ∨ ∃ s : Nat, runS L n = s ∧ isRun L n s ∧ ∀ t, t < s → ¬ isRun L n t := by
  have := runGo_spec L n hn L.length 0 0 (by omega) (by omega) (by omega) (fun k k1 k2 => by omega) (fun s hs => by omega) (fun h => by omega)
  rw [List.drop_zero] at this
  rw [runS, if_neg (by omega)]
  exact this

theorem runGo_far (L : List Bool) (n : Int) (hn : (L.length : Int) < n) : runGo n L 0 0 = -1 := by
  obtain ⟨k, rfl⟩ : ∃ k : Nat, n = k := ⟨n.toNat, by omega⟩
  rcases runS_spec L k (by omega) with ⟨h, _⟩ | ⟨s, _, h, _⟩
  · rw [runS, if_neg (by omega)] at h; exact h
  · have := h.1; omega

theorem runGo_bd (n : Int) (hn : 1 ≤ n) : ∀ (L : List Bool) (z i : Nat), (z : Int) < n → z ≤ i → -1 ≤ runGo n L z i ∧ runGo n L z i ≤ i + L.length
  | [], z, i, _, _ => by simp [runGo]
  | b :: r, z, i, hz, hi => by
    rw [runGo]
    split
    · have := runGo_bd n hn r 0 (i + 1) (by omega) (by omega); simp; omega
    · split
      · rename_i h; simp; omega
      · have := runGo_bd n hn r (z + 1) (i + 1) (by omega) (by omega); simp; omega

/-- Bits that are 1. -/
def countB (L : List Bool) : Nat := (L.filter id).length
theorem countB_le (L : List Bool) : countB L ≤ L.length := List.length_filter_le _ _
theorem countB_take {L : List Bool} {k : Nat} (h : k < L.length) : countB (L.take (k + 1)) = countB (L.take k) + if L.getD k false then 1 else 0 := by
  rw [List.take_succ_eq_append_getElem h, countB, List.filter_append, List.length_append, countB]
  simp only [List.getD_eq_getElem?_getD, List.getElem?_eq_getElem h, Option.getD_some]
  cases L[k] <;> rfl
theorem countB_take_le (L : List Bool) (k : Nat) : countB (L.take k) ≤ k := Nat.le_trans (countB_le _) (by simp; omega)

end BM
end Go.Proofs.Ytflkggoknmgbnaa
