/- Plain facts on owners and descriptors. -/
import Derived.Test.YtflkggoknmgbnaaPackN
import Derived.Test.YtflkggoknmgbnaaBitsD
import Derived.Test.YtflkggoknmgbnaaGeomM
namespace Go.Proofs.Ytflkggoknmgbnaa
open Go.RowKit BM
set_option linter.unusedVariables false

/-- Is an owner (Ino, At) well formed? -/
def frmO (i a : Int) : Bool :=
  if i = 0 ∨ i = 65535 then decide (a = 0) else if i = 65534 then decide (a < 6) else decide (i < 48) && (decide (a < 138) || decide (a = 65535))
/-- The owners of a list: each number has two bytes. -/
def OwB (O : List (Int × Int)) : Prop := ∀ j, (0 ≤ (O.getD j (0, 0)).1 ∧ (O.getD j (0, 0)).1 ≤ 65535) ∧ (0 ≤ (O.getD j (0, 0)).2 ∧ (O.getD j (0, 0)).2 ≤ 65535)
def frmJ (O : List (Int × Int)) (j : Nat) : Bool := frmO (O.getD j (0, 0)).1 (O.getD j (0, 0)).2
/-- The first k owners are well formed. -/
def frmK (O : List (Int × Int)) : Nat → Bool
  | 0 => true
  | k + 1 => frmK O k && frmJ O k
/-- A list that has a page. -/
def allO (O : List (Int × Int)) : Bool := decide (O.length = 64) && frmK O O.length
theorem frmK_iff (O : List (Int × Int)) (k : Nat) : frmK O k = true ↔ ∀ j, j < k → frmJ O j = true := by
  induction k with
  | zero => exact ⟨fun _ j h => by omega, fun _ => rfl⟩
  | succ k ih =>
    rw [frmK, Bool.and_eq_true, ih]
    constructor
    · rintro ⟨h1, h2⟩ j hj
      by_cases e : j = k
      · rw [e]; exact h2
      · exact h1 j (by omega)
    · exact fun h => ⟨fun j hj => h j (by omega), h k (by omega)⟩
theorem frmK_no {O : List (Int × Int)} {k n : Nat} (h : frmJ O k = false) (hk : k < n) : frmK O n = false := by
  cases hb : frmK O n
  · rfl
  · have := (frmK_iff O n).1 hb k hk
    rw [h] at this; cases this

/-- The bytes of the first k owners' page. -/
def pageK (O : List (Int × Int)) : Nat → List Int
  | 0 => []
  | k + 1 => pageK O k ++ lowB (O.getD k (0, 0)).1 2 ++ lowB (O.getD k (0, 0)).2 2
theorem pageK_length (O : List (Int × Int)) (k : Nat) : (pageK O k).length = 4 * k := by
  induction k with
  | zero => rfl
  | succ k ih => rw [pageK, List.length_append, List.length_append, ih, lowB_length, lowB_length]; omega
def pageS (O : List (Int × Int)) : List Int := pageK O O.length
/-- The owners whose page is l. -/
def ownJ (l : List Int) (j : Nat) : Int × Int := (getV l (4 * j) 2, getV l (4 * j + 2) 2)
def ownK (l : List Int) (k : Nat) : List (Int × Int) := (List.range k).map (ownJ l)
theorem ownK_length (l : List Int) (k : Nat) : (ownK l k).length = k := by simp [ownK]
theorem ownK_getD (l : List Int) (k j : Nat) (h : j < k) : (ownK l k).getD j (0, 0) = ownJ l j := by
  simp [ownK, List.getD_eq_getElem?_getD, h]
theorem ownK_succ (l : List Int) (k : Nat) : ownK l (k + 1) = ownK l k ++ [ownJ l k] := by simp [ownK, List.range_succ]
theorem getV2_bd {l : List Int} (h : ∀ x ∈ l, 0 ≤ x ∧ x ≤ 255) (a : Nat) : 0 ≤ getV l a 2 ∧ getV l a 2 ≤ 65535 := by
  have := getV_bound h a 2
  have e : (256 : Int) ^ 2 = 65536 := rfl
  omega

theorem owB_of {O : List (Int × Int)} (h : ∀ j, j < O.length → (0 ≤ (O.getD j (0, 0)).1 ∧ (O.getD j (0, 0)).1 ≤ 65535) ∧ (0 ≤ (O.getD j (0, 0)).2 ∧ (O.getD j (0, 0)).2 ≤ 65535)) : OwB O := fun j => by
  by_cases hj : j < O.length
  · exact h j hj
  · rw [List.getD_eq_getElem?_getD, List.getElem?_eq_none (by omega)]; decide
theorem owB_ownK {l : List Int} (h : ∀ x ∈ l, 0 ≤ x ∧ x ≤ 255) (k : Nat) : OwB (ownK l k) := owB_of fun j hj => by
  rw [ownK_length] at hj
  rw [ownK_getD l k j hj]
  exact ⟨getV2_bd h _, getV2_bd h _⟩

/-- Which blocks have an owner. -/
def usedJ (O : List (Int × Int)) (j : Nat) : Bool := decide ((O.getD j (0, 0)).1 ≠ 0)
def usedK (O : List (Int × Int)) (k : Nat) : List Bool := (List.range k).map (usedJ O)
theorem usedK_length (O : List (Int × Int)) (k : Nat) : (usedK O k).length = k := by simp [usedK]
theorem usedK_getD (O : List (Int × Int)) (k j : Nat) (h : j < k) : (usedK O k).getD j false = usedJ O j := by
  simp [usedK, List.getD_eq_getElem?_getD, h]
theorem usedK_succ (O : List (Int × Int)) (k : Nat) : usedK O (k + 1) = usedK O k ++ [usedJ O k] := by simp [usedK, List.range_succ]

/-- The owners of a new group. -/
def freshJ (g : Int) (j : Nat) : Int × Int := (if fixB (64 * g + (j : Int)) = true then 65535 else 0, 0)
def freshK (g : Int) (k : Nat) : List (Int × Int) := (List.range k).map (freshJ g)
theorem freshK_length (g : Int) (k : Nat) : (freshK g k).length = k := by simp [freshK]
theorem freshK_getD (g : Int) (k j : Nat) (h : j < k) : (freshK g k).getD j (0, 0) = freshJ g j := by
  simp [freshK, List.getD_eq_getElem?_getD, h]
theorem freshK_succ (g : Int) (k : Nat) : freshK g (k + 1) = freshK g k ++ [freshJ g k] := by simp [freshK, List.range_succ]
theorem owB_fresh (g : Int) (k : Nat) : OwB (freshK g k) := owB_of fun j hj => by
  rw [freshK_length] at hj
  rw [freshK_getD g k j hj, freshJ]
  split <;> decide
theorem fresh_frm (g : Int) (k j : Nat) : frmJ (freshK g k) j = true := by
  unfold frmJ
  by_cases h : j < k
  · rw [freshK_getD g k j h, freshJ]
    split <;> decide
  · rw [List.getD_eq_getElem?_getD, List.getElem?_eq_none (by rw [freshK_length]; omega)]; decide
theorem fresh_all (g : Int) : allO (freshK g 64) = true := by
  rw [allO, freshK_length, Bool.and_eq_true]
  exact ⟨by decide, (frmK_iff _ _).2 fun j _ => fresh_frm g 64 j⟩

end Go.Proofs.Ytflkggoknmgbnaa
