/- Plain facts on owners and descriptors. -/
import Derived.Test.YtflkggoknmgbnaaPackN
import Derived.Test.YtflkggoknmgbnaaBitsD
import Derived.Test.YtflkggoknmgbnaaGeomM
namespace Go.Proofs.Ytflkggoknmgbnaa
open Go.RowKit BM
set_option linter.unusedVariables false

/-- Is an owner (Ino, At) well formed? -/
def frmO (i a : Int) : Bool :=
  if i = 0 ∨ i = 65535 then decide (a = 0) else if i = 65534 then decide (a < 6) else decide (i < 48) && (decide (a < 138) || decide (a = 65535))
/-- The owners of a list: each number has two bytes. -/
def OwB (O : List (Int × Int)) : Prop := ∀ j, (0 ≤ (O.getD j (0, 0)).1 ∧ (O.getD j (0, 0)).1 ≤ 65535) ∧ (0 ≤ (O.getD j (0, 0)).2 ∧ (O.getD j (0, 0)).2 ≤ 65535)
def frmJ (O : List (Int × Int)) (j : Nat) : Bool := frmO (O.getD j (0, 0)).1 (O.getD j (0, 0)).2
/-- The first k owners are well formed. -/
def frmK (O : List (Int × Int)) : Nat → Bool
  | 0 => true
  | k + 1 => frmK O k && frmJ O k
/-- A list that has a page. -/
def allO (O : List (Int × Int)) : Bool := decide (O.length = 64) && frmK O O.length
theorem frmK_iff (O : List (Int × Int)) (k : Nat) : frmK O k = true ↔ ∀ j, j < k → frmJ O j = true := by
  induction k with
  | zero => exact ⟨fun _ j h => by omega, fun _ => rfl⟩
  | succ k ih =>
    rw [frmK, Bool.and_eq_true, ih]
    constructor
    · rintro ⟨h1, h2⟩ j hj
      by_cases e : j = k
      · rw [e]; exact h2
      · exact h1 j (by omega)
    · exact fun h => ⟨fun j hj => h j (by omega), h k (by omega)⟩
theorem frmK_no {O : List (Int × Int)} {k n : Nat} (h : frmJ O k = false) (hk : k < n) : frmK O n = false := by
  cases hb : frmK O n
  · rfl
  · have := (frmK_iff O n).1 hb k hk
    rw [h] at this; cases this

/-- The bytes of the first k owners' page. -/
def pageK (O : List (Int × Int)) : Nat → List Int
  | 0 => []
  | k + 1 => pageK O k ++ lowB (O.getD k (0, 0)).1 2 ++ lowB (O.getD k (0, 0)).2 2
theorem pageK_length (O : List (Int × Int)) (k : Nat) : (pageK O k).length = 4 * k := by
  induction k with
  | zero => rfl
  | succ k ih => rw [pageK, List.length_append, List.length_append, ih, lowB_length, lowB_length]; omega
def pageS (O : List (Int × Int)) : List Int := pageK O O.length
/-- The owners whose page is l. -/
def ownJ (l : List Int) (j : Nat) : Int × Int := (getV l (4 * j) 2, getV l (4 * j + 2) 2)
def ownK (l : List Int) (k : Nat) : List (Int × Int) := (List.range k).map (ownJ l)
theorem ownK_length (l : List Int) (k : Nat) : (ownK l k).length = k := by simp [ownK]
theorem ownK_getD (l : List Int) (k j : Nat) (h : j < k) : (ownK l k).getD j (0, 0) = ownJ l j := by
  simp [ownK, List.getD_eq_getElem?_getD, h]
theorem ownK_succ (l : List Int) (k : Nat) : ownK l (k + 1) = ownK l k ++ [ownJ l k] := by simp [ownK, List.range_succ]
theorem getV2_bd {l : List Int} (h : ∀ x ∈ l, 0 ≤ x ∧ x ≤ 255) (a : Nat) : 0 ≤ getV l a 2 ∧ getV l a 2 ≤ 65535 := by
  have := getV_bound h a 2
  have e : (256 : Int) ^ 2 = 65536 := rfl
  omega

theorem owB_of {O : List (Int × Int)} (h : ∀ j, j < O.length → (0 ≤ (O.getD j (0, 0)).1 ∧ (O.getD j (0, 0)).1 ≤ 65535) ∧ (0 ≤ (O.getD j (0, 0)).2 ∧ (O.getD j (0, 0)).2 ≤ 65535)) : OwB O := fun j => by
  by_cases hj : j < O.length
  · exact h j hj
  · rw [List.getD_eq_getElem?_getD, List.getElem?_eq_none (by omega)]; decide
theorem owB_ownK {l : List Int} (h : ∀ x ∈ l, 0 ≤ x ∧ x ≤ 255) (k : Nat) : OwB (ownK l k) := owB_of fun j hj => by
  rw [ownK_length] at hj
  rw [ownK_getD l k j hj]
  exact ⟨getV2_bd h _, getV2_bd h _⟩

/-- Which blocks have an owner. -/
def usedJ (O : List (Int × Int)) (j : Nat) : Bool := decide ((O.getD j (0, 0)).1 ≠ 0)
def usedK (O : List (Int × Int)) (k : Nat) : List Bool := (List.range k).map (usedJ O)
theorem usedK_length (O : List (Int × Int)) (k : Nat) : (usedK O k).length = k := by simp [usedK]
theorem usedK_getD (O : List (Int × Int)) (k j : Nat) (h : j < k) : (usedK O k).getD j false = usedJ O j := by
  simp [usedK, List.getD_eq_getElem?_getD, h]
theorem usedK_succ (O : List (Int × Int)) (k : Nat) : usedK O (k + 1) = usedK O k ++ [usedJ O k] := by simp [usedK, List.range_succ]

/-- The owners of a new group. -/
def freshJ (g : Int) (j : Nat) : Int × Int := (if fixB (64 * g + (j : Int)) = true then 65535 else 0, 0)
def freshK (g : Int) (k : Nat) : List (Int × Int) := (List.range k).map (freshJ g)
theorem freshK_length (g : Int) (k : Nat) : (freshK g k).length = k := by simp [freshK]
theorem freshK_getD (g : Int) (k j : Nat) (h : j < k) : (freshK g k).getD j (0, 0) = freshJ g j := by
  simp [freshK, List.getD_eq_getElem?_getD, h]
theorem freshK_succ (g : Int) (k : Nat) : freshK g (k + 1) = freshK g k ++ [freshJ g k] := by simp [freshK, List.range_succ]
theorem owB_fresh (g : Int) (k : Nat) : OwB (freshK g k) := owB_of fun j hj => by
  rw [freshK_length] at hj
  rw [freshK_getD g k j hj, freshJ]
  split <;> decide
theorem fresh_frm (g : Int) (k j : Nat) : frmJ (freshK g k) j = true := by
  unfold frmJ
  by_cases h : j < k
  · rw [freshK_getD g k j h, freshJ]
    split <;> decide
  · rw [List.getD_eq_getElem?_getD, List.getElem?_eq_none (by rw [freshK_length]; omega)]; decide
theorem fresh_all (g : Int) : allO (freshK g 64) = true := by
  rw [allO, freshK_length, Bool.and_eq_true]
  exact ⟨by decide, (frmK_iff _ _).2 fun j _ => fresh_frm g 64 j⟩

/-- The bytes of a row of bits. -/
def bitN (b : Bool) : Int := if b then 1 else 0
def byteJ (L : List Bool) (j : Nat) : Int := bitN (L.getD (8 * j) false) + 2 * bitN (L.getD (8 * j + 1) false) + 4 * bitN (L.getD (8 * j + 2) false) + 8 * bitN (L.getD (8 * j + 3) false) +
  16 * bitN (L.getD (8 * j + 4) false) + 32 * bitN (L.getD (8 * j + 5) false) + 64 * bitN (L.getD (8 * j + 6) false) + 128 * bitN (L.getD (8 * j + 7) false)
def bytesB (L : List Bool) : List Int := (List.range ((L.length + 7) / 8)).map (byteJ L)
theorem bitN_01 (b : Bool) : 0 ≤ bitN b ∧ bitN b ≤ 1 := by cases b <;> decide
theorem bitN_dec (b : Bool) (x : Int) (h : x = bitN b) : decide (x = 1) = b := by subst h; cases b <;> rfl
theorem byte_bits (v0 v1 v2 v3 v4 v5 v6 v7 : Int) (h0 : 0 ≤ v0 ∧ v0 ≤ 1) (h1 : 0 ≤ v1 ∧ v1 ≤ 1) (h2 : 0 ≤ v2 ∧ v2 ≤ 1) (h3 : 0 ≤ v3 ∧ v3 ≤ 1) (h4 : 0 ≤ v4 ∧ v4 ≤ 1) (h5 : 0 ≤ v5 ∧ v5 ≤ 1) (h6 : 0 ≤ v6 ∧ v6 ≤ 1) (h7 : 0 ≤ v7 ∧ v7 ≤ 1) (x : Int)
    (hx : x = v0 + 2 * v1 + 4 * v2 + 8 * v3 + 16 * v4 + 32 * v5 + 64 * v6 + 128 * v7) :
    x / 2 ^ 0 % 2 = v0 ∧ x / 2 ^ 1 % 2 = v1 ∧ x / 2 ^ 2 % 2 = v2 ∧ x / 2 ^ 3 % 2 = v3 ∧ x / 2 ^ 4 % 2 = v4 ∧ x / 2 ^ 5 % 2 = v5 ∧ x / 2 ^ 6 % 2 = v6 ∧ x / 2 ^ 7 % 2 = v7 := by
  refine ⟨?_, ?_, ?_, ?_, ?_, ?_, ?_, ?_⟩ <;> omega
theorem byteJ_bit (L : List Bool) (j k : Nat) (hk : k < 8) : bitAt (byteJ L j) k = L.getD (8 * j + k) false := by
  obtain ⟨e0, e1, e2, e3, e4, e5, e6, e7⟩ := byte_bits _ _ _ _ _ _ _ _ (bitN_01 (L.getD (8 * j) false)) (bitN_01 (L.getD (8 * j + 1) false)) (bitN_01 (L.getD (8 * j + 2) false)) (bitN_01 (L.getD (8 * j + 3) false))
    (bitN_01 (L.getD (8 * j + 4) false)) (bitN_01 (L.getD (8 * j + 5) false)) (bitN_01 (L.getD (8 * j + 6) false)) (bitN_01 (L.getD (8 * j + 7) false)) (byteJ L j) rfl
  have e : k = 0 ∨ k = 1 ∨ k = 2 ∨ k = 3 ∨ k = 4 ∨ k = 5 ∨ k = 6 ∨ k = 7 := by omega
  unfold bitAt
  rcases e with rfl | rfl | rfl | rfl | rfl | rfl | rfl | rfl
  · exact bitN_dec _ _ e0
  · exact bitN_dec _ _ e1
  · exact bitN_dec _ _ e2
  · exact bitN_dec _ _ e3
  · exact bitN_dec _ _ e4
  · exact bitN_dec _ _ e5
  · exact bitN_dec _ _ e6
  · exact bitN_dec _ _ e7
theorem byteJ_bd (L : List Bool) (j : Nat) : 0 ≤ byteJ L j ∧ byteJ L j ≤ 255 := by
  have h0 := bitN_01 (L.getD (8 * j) false)
  have h1 := bitN_01 (L.getD (8 * j + 1) false)
  have h2 := bitN_01 (L.getD (8 * j + 2) false)
  have h3 := bitN_01 (L.getD (8 * j + 3) false)
  have h4 := bitN_01 (L.getD (8 * j + 4) false)
  have h5 := bitN_01 (L.getD (8 * j + 5) false)
  have h6 := bitN_01 (L.getD (8 * j + 6) false)
  have h7 := bitN_01 (L.getD (8 * j + 7) false)
  unfold byteJ
  omega
theorem bytesB_length (L : List Bool) : (bytesB L).length = (L.length + 7) / 8 := by simp [bytesB]
theorem bytesB_getD (L : List Bool) (j : Nat) : (bytesB L).getD j 0 = if j < (L.length + 7) / 8 then byteJ L j else 0 := by
  unfold bytesB
  rw [List.getD_eq_getElem?_getD, List.getElem?_map]
  by_cases h : j < (L.length + 7) / 8
  · rw [if_pos h, List.getElem?_range h]; rfl
  · rw [if_neg h, List.getElem?_eq_none (by simp; omega)]; rfl
theorem rep_bytesB (L : List Bool) : Rep (bytesB L) L := by
  refine ⟨bytesB_length L, fun j => ?_, fun j => ?_⟩
  · rw [bytesB_getD]; split
    · exact byteJ_bd L j
    · decide
  · rw [bytesB_getD]
    by_cases h : j / 8 < (L.length + 7) / 8
    · rw [if_pos h, byteJ_bit L _ _ (Nat.mod_lt _ (by omega))]
      congr 1; omega
    · rw [if_neg h, bitAt_zero, List.getD_eq_getElem?_getD, List.getElem?_eq_none (by omega)]; rfl
theorem byt_bytesB (L : List Bool) : ∀ x ∈ bytesB L, 0 ≤ x ∧ x ≤ 255 := fun x hx => by
  obtain ⟨j, _, rfl⟩ := List.mem_map.1 hx
  exact byteJ_bd L j

/-- A descriptor's content; its block. -/
def descC (g : Int) (L : List Bool) : List Int := [100, 101, 115, 99] ++ lowB g 2 ++ lowB (countB L) 2 ++ bytesB L
def descS (g : Int) (L : List Bool) : List Int := sealS (descC g L)
theorem descC_length (g : Int) (L : List Bool) (h : L.length = 64) : (descC g L).length = 16 := by
  simp [descC, lowB_length, bytesB_length, h]
/-- Which descriptor has the block l; is there one? -/
def decG (l : List Int) : Int := getV (l.take 252) 4 2
def decL (l : List Int) : List Bool := bitsOf 64 (((l.take 252).drop 8).take 8)
def hasD (l : List Int) : Prop := sealed l ∧ decG l < 12 ∧ descS (decG l) (decL l) = l
theorem decL_length (l : List Int) : (decL l).length = 64 := length_bitsOf _ _
theorem take_drop_mid {α : Type} (A B C : List α) (a b : Nat) (ha : A.length = a) (hb : B.length = b) : ((A ++ B ++ C).drop a).take b = B := by
  rw [List.append_assoc, List.drop_left' ha, List.take_left' hb]
theorem dec_of (g : Int) (L : List Bool) (hg0 : 0 ≤ g) (hg : g < 12) (hL : L.length = 64) : decG (descS g L) = g ∧ decL (descS g L) = L := by
  have hc := descC_length g L hL
  have hf := fillS_length (descC g L) (by omega)
  have e1 : (descS g L).take 252 = fillS (descC g L) := by rw [descS, sealS, ← hf, List.take_left']; rfl
  have hb := bytesB_length L
  rw [hL] at hb
  obtain ⟨Z, hZ⟩ : ∃ Z, fillS (descC g L) = descC g L ++ Z := ⟨_, rfl⟩
  rw [decG, decL, e1, hZ, descC]
  constructor
  · have h1 : ([100, 101, 115, 99] ++ lowB g 2 ++ lowB (↑(countB L)) 2 ++ bytesB L ++ Z : List Int) = [100, 101, 115, 99] ++ lowB g 2 ++ (lowB (↑(countB L)) 2 ++ bytesB L ++ Z) := by simp
    rw [h1, getV, take_drop_mid _ _ _ 4 2 rfl (lowB_length _ _), leB_lowB g 2 hg0]
    exact Int.emod_eq_of_lt hg0 (by omega)
  · have h1 : ([100, 101, 115, 99] ++ lowB g 2 ++ lowB (↑(countB L)) 2 ++ bytesB L ++ Z : List Int) = ([100, 101, 115, 99] ++ lowB g 2 ++ lowB (↑(countB L)) 2) ++ bytesB L ++ Z := by simp
    rw [h1, take_drop_mid _ _ _ 8 8 (by simp [lowB_length]) hb]
    have hr := rep_bytesB L
    apply List.ext_getElem (by rw [length_bitsOf, hL])
    intro j h2 h3
    have h4 := hr.bit j
    have h5 := getD_bitsOf 64 (bytesB L) j (by omega)
    rw [h4] at h5
    simpa [List.getD_eq_getElem?_getD, h2, h3] using h5
theorem has_of (g : Int) (L : List Bool) (hg0 : 0 ≤ g) (hg : g < 12) (hL : L.length = 64) : hasD (descS g L) := by
  obtain ⟨h1, h2⟩ := dec_of g L hg0 hg hL
  refine ⟨sealed_sealS _ (by rw [descC_length g L hL]; omega), by rw [h1]; exact hg, by rw [h1, h2]⟩
end Go.Proofs.Ytflkggoknmgbnaa
