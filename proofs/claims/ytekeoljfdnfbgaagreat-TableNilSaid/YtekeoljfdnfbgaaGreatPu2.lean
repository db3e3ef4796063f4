/- What the law rests on: part 2. -/
import Derived.Deep.MidRow
import Derived.Deep.WholeRow
import Derived.Deep.CutRange
import Derived.Test.YtekeoljfdnfbgaaGreatPu1
set_option linter.unusedVariables false
namespace Go.Proofs.YtekeoljfdnfbgaaGreat
set_option maxRecDepth 100000
open Go.RowKit BM
def frmO (i a : Int) : Bool :=
  if i = 0 ∨ i = 65535 then decide (a = 0) else if i = 65534 then decide (a < 6) else decide (i < 48) && (decide (a < 138) || decide (a = 65535))
def OwB (O : List (Int × Int)) : Prop := ∀ j, (0 ≤ (O.getD j (0, 0)).1 ∧ (O.getD j (0, 0)).1 ≤ 65535) ∧ (0 ≤ (O.getD j (0, 0)).2 ∧ (O.getD j (0, 0)).2 ≤ 65535)
def frmJ (O : List (Int × Int)) (j : Nat) : Bool := frmO (O.getD j (0, 0)).1 (O.getD j (0, 0)).2
def frmK (O : List (Int × Int)) : Nat → Bool
  | 0 => true
  | k + 1 => frmK O k && frmJ O k
def allO (O : List (Int × Int)) : Bool := decide (O.length = 64) && frmK O O.length
theorem frmK_iff (O : List (Int × Int)) (k : Nat) : frmK O k = true ↔ ∀ j, j < k → frmJ O j = true := by
  induction k with
  | zero => exact ⟨fun _ j h => by omega, fun _ => rfl⟩
  | succ k ih =>
    rw [frmK, Bool.and_eq_true, ih]
    constructor
    · rintro ⟨h1, h2⟩ j hj
      by_cases e : j = k
      · rw [e]; exact h2
      · exact h1 j (by omega)
    · exact fun h => ⟨fun j hj => h j (by omega), h k (by omega)⟩
theorem frmK_no {O : List (Int × Int)} {k n : Nat} (h : frmJ O k = false) (hk : k < n) : frmK O n = false := by
  cases hb : frmK O n
  · rfl
  · have := (frmK_iff O n).1 hb k hk
    rw [h] at this; cases this
def pageK (O : List (Int × Int)) : Nat → List Int
  | 0 => []
  | k + 1 => pageK O k ++ lowB (O.getD k (0, 0)).1 2 ++ lowB (O.getD k (0, 0)).2 2
theorem pageK_length (O : List (Int × Int)) (k : Nat) : (pageK O k).length = 4 * k := by
  induction k with
  | zero => rfl
  | succ k ih => rw [pageK, List.length_append, List.length_append, ih, lowB_length, lowB_length]; omega
def pageS (O : List (Int × Int)) : List Int := pageK O O.length
def ownJ (l : List Int) (j : Nat) : Int × Int := (getV l (4 * j) 2, getV l (4 * j + 2) 2)
def ownK (l : List Int) (k : Nat) : List (Int × Int) := (List.range k).map (ownJ l)
theorem ownK_length (l : List Int) (k : Nat) : (ownK l k).length = k := by simp [ownK]
theorem ownK_getD (l : List Int) (k j : Nat) (h : j < k) : (ownK l k).getD j (0, 0) = ownJ l j := by
  simp [ownK, List.getD_eq_getElem?_getD, h]
theorem getV2_bd {l : List Int} (h : ∀ x ∈ l, 0 ≤ x ∧ x ≤ 255) (a : Nat) : 0 ≤ getV l a 2 ∧ getV l a 2 ≤ 65535 := by
  have := getV_bound h a 2
  have e : (256 : Int) ^ 2 = 65536 := rfl
  omega
theorem owB_of {O : List (Int × Int)} (h : ∀ j, j < O.length → (0 ≤ (O.getD j (0, 0)).1 ∧ (O.getD j (0, 0)).1 ≤ 65535) ∧ (0 ≤ (O.getD j (0, 0)).2 ∧ (O.getD j (0, 0)).2 ≤ 65535)) : OwB O := fun j => by
  by_cases hj : j < O.length
  · exact h j hj
  · rw [List.getD_eq_getElem?_getD, List.getElem?_eq_none (by omega)]; decide
theorem owB_ownK {l : List Int} (h : ∀ x ∈ l, 0 ≤ x ∧ x ≤ 255) (k : Nat) : OwB (ownK l k) := owB_of fun j hj => by
  rw [ownK_length] at hj
  rw [ownK_getD l k j hj]
  exact ⟨getV2_bd h _, getV2_bd h _⟩
def usedJ (O : List (Int × Int)) (j : Nat) : Bool := decide ((O.getD j (0, 0)).1 ≠ 0)
def usedK (O : List (Int × Int)) (k : Nat) : List Bool := (List.range k).map (usedJ O)
theorem usedK_length (O : List (Int × Int)) (k : Nat) : (usedK O k).length = k := by simp [usedK]
theorem usedK_getD (O : List (Int × Int)) (k j : Nat) (h : j < k) : (usedK O k).getD j false = usedJ O j := by
  simp [usedK, List.getD_eq_getElem?_getD, h]
theorem usedK_succ (O : List (Int × Int)) (k : Nat) : usedK O (k + 1) = usedK O k ++ [usedJ O k] := by simp [usedK, List.range_succ]
def freshJ (g : Int) (j : Nat) : Int × Int := (if fixB (64 * g + (j : Int)) = true then 65535 else 0, 0)
def freshK (g : Int) (k : Nat) : List (Int × Int) := (List.range k).map (freshJ g)
theorem freshK_length (g : Int) (k : Nat) : (freshK g k).length = k := by simp [freshK]
theorem freshK_succ (g : Int) (k : Nat) : freshK g (k + 1) = freshK g k ++ [freshJ g k] := by simp [freshK, List.range_succ]
def bitN (b : Bool) : Int := if b then 1 else 0
def byteJ (L : List Bool) (j : Nat) : Int := bitN (L.getD (8 * j) false) + 2 * bitN (L.getD (8 * j + 1) false) + 4 * bitN (L.getD (8 * j + 2) false) + 8 * bitN (L.getD (8 * j + 3) false) +
  16 * bitN (L.getD (8 * j + 4) false) + 32 * bitN (L.getD (8 * j + 5) false) + 64 * bitN (L.getD (8 * j + 6) false) + 128 * bitN (L.getD (8 * j + 7) false)
def bytesB (L : List Bool) : List Int := (List.range ((L.length + 7) / 8)).map (byteJ L)
theorem bitN_01 (b : Bool) : 0 ≤ bitN b ∧ bitN b ≤ 1 := by cases b <;> decide
theorem bitN_dec (b : Bool) (x : Int) (h : x = bitN b) : decide (x = 1) = b := by subst h; cases b <;> rfl
theorem byte_bits (v0 v1 v2 v3 v4 v5 v6 v7 : Int) (h0 : 0 ≤ v0 ∧ v0 ≤ 1) (h1 : 0 ≤ v1 ∧ v1 ≤ 1) (h2 : 0 ≤ v2 ∧ v2 ≤ 1) (h3 : 0 ≤ v3 ∧ v3 ≤ 1) (h4 : 0 ≤ v4 ∧ v4 ≤ 1) (h5 : 0 ≤ v5 ∧ v5 ≤ 1) (h6 : 0 ≤ v6 ∧ v6 ≤ 1) (h7 : 0 ≤ v7 ∧ v7 ≤ 1) (x : Int)
    (hx : x = v0 + 2 * v1 + 4 * v2 + 8 * v3 + 16 * v4 + 32 * v5 + 64 * v6 + 128 * v7) :
    x / 2 ^ 0 % 2 = v0 ∧ x / 2 ^ 1 % 2 = v1 ∧ x / 2 ^ 2 % 2 = v2 ∧ x / 2 ^ 3 % 2 = v3 ∧ x / 2 ^ 4 % 2 = v4 ∧ x / 2 ^ 5 % 2 = v5 ∧ x / 2 ^ 6 % 2 = v6 ∧ x / 2 ^ 7 % 2 = v7 := by
  refine ⟨?_, ?_, ?_, ?_, ?_, ?_, ?_, ?_⟩ <;> omega
theorem byteJ_bit (L : List Bool) (j k : Nat) (hk : k < 8) : bitAt (byteJ L j) k = L.getD (8 * j + k) false := by
  obtain ⟨e0, e1, e2, e3, e4, e5, e6, e7⟩ := byte_bits _ _ _ _ _ _ _ _ (bitN_01 (L.getD (8 * j) false)) (bitN_01 (L.getD (8 * j + 1) false)) (bitN_01 (L.getD (8 * j + 2) false)) (bitN_01 (L.getD (8 * j + 3) false))
    (bitN_01 (L.getD (8 * j + 4) false)) (bitN_01 (L.getD (8 * j + 5) false)) (bitN_01 (L.getD (8 * j + 6) false)) (bitN_01 (L.getD (8 * j + 7) false)) (byteJ L j) rfl
  have e : k = 0 ∨ k = 1 ∨ k = 2 ∨ k = 3 ∨ k = 4 ∨ k = 5 ∨ k = 6 ∨ k = 7 := by omega
  unfold bitAt
  rcases e with rfl | rfl | rfl | rfl | rfl | rfl | rfl | rfl
  · exact bitN_dec _ _ e0
  · exact bitN_dec _ _ e1
  · exact bitN_dec _ _ e2
  · exact bitN_dec _ _ e3
  · exact bitN_dec _ _ e4
  · exact bitN_dec _ _ e5
  · exact bitN_dec _ _ e6
  · exact bitN_dec _ _ e7
theorem byteJ_bd (L : List Bool) (j : Nat) : 0 ≤ byteJ L j ∧ byteJ L j ≤ 255 := by
  have h0 := bitN_01 (L.getD (8 * j) false)
  have h1 := bitN_01 (L.getD (8 * j + 1) false)
  have h2 := bitN_01 (L.getD (8 * j + 2) false)
  have h3 := bitN_01 (L.getD (8 * j + 3) false)
  have h4 := bitN_01 (L.getD (8 * j + 4) false)
  have h5 := bitN_01 (L.getD (8 * j + 5) false)
  have h6 := bitN_01 (L.getD (8 * j + 6) false)
  have h7 := bitN_01 (L.getD (8 * j + 7) false)
  unfold byteJ
  omega
theorem bytesB_length (L : List Bool) : (bytesB L).length = (L.length + 7) / 8 := by simp [bytesB]
theorem bytesB_getD (L : List Bool) (j : Nat) : (bytesB L).getD j 0 = if j < (L.length + 7) / 8 then byteJ L j else 0 := by
  unfold bytesB
  rw [List.getD_eq_getElem?_getD, List.getElem?_map]
  by_cases h : j < (L.length + 7) / 8
  · rw [if_pos h, List.getElem?_range h]; rfl
  · rw [if_neg h, List.getElem?_eq_none (by simp; omega)]; rfl
theorem rep_bytesB (L : List Bool) : Rep (bytesB L) L := by
  refine ⟨bytesB_length L, fun j => ?_, fun j => ?_⟩
  · rw [bytesB_getD]; split
    · exact byteJ_bd L j
    · decide
  · rw [bytesB_getD]
    by_cases h : j / 8 < (L.length + 7) / 8
    · rw [if_pos h, byteJ_bit L _ _ (Nat.mod_lt _ (by omega))]
      congr 1; omega
    · rw [if_neg h, bitAt_zero, List.getD_eq_getElem?_getD, List.getElem?_eq_none (by omega)]; rfl
def descC (g : Int) (L : List Bool) : List Int := [100, 101, 115, 99] ++ lowB g 2 ++ lowB (countB L) 2 ++ bytesB L
def descS (g : Int) (L : List Bool) : List Int := sealS (descC g L)
theorem descC_length (g : Int) (L : List Bool) (h : L.length = 64) : (descC g L).length = 16 := by
  simp [descC, lowB_length, bytesB_length, h]
end Go.Proofs.YtekeoljfdnfbgaaGreat
namespace Go.Proofs.YtekeoljfdnfbgaaGreat
set_option maxRecDepth 100000
open Go.RowKit
theorem gFormed_any (b : Int) (hm : b ≤ 9223372036854775807) (w : World) : Calls Tryz.prog 82 #[.int .i64 b] w fun e w' => e = .returned (.bool (frmB b)) ∧ w = w' := by
  by_cases h1 : 0 < b
  · by_cases h2 : b % 64 = 0
    · by_cases h3 : b / 64 ≤ 12
      · have hr : frmB b = true := decide_eq_true (by omega)
        rw [hr]
        have h0 : 0 ≤ b := by omega
        have h2' : (b % 64 == 0) = true := by simp [h2]
        clear hr h2
        go_enter Tryz.func82, Tryz.ntmps82
        go_wp2
        go_ret
        exact ⟨rfl, rfl⟩
      · have hr : frmB b = false := decide_eq_false (by omega)
        rw [hr]
        have h0 : 0 ≤ b := by omega
        have h2' : (b % 64 == 0) = true := by simp [h2]
        clear hr h2
        go_enter Tryz.func82, Tryz.ntmps82
        go_wp2
        go_ret
        exact ⟨rfl, rfl⟩
    · have hr : frmB b = false := decide_eq_false (by omega)
      rw [hr]
      have h0 : 0 ≤ b := by omega
      have h2' : (b % 64 == 0) = false := by simp [h2]
      clear hr
      go_enter Tryz.func82, Tryz.ntmps82
      go_wp2
      go_ret
      exact ⟨rfl, rfl⟩
  · have hr : frmB b = false := decide_eq_false (by omega)
    rw [hr]
    clear hr
    go_enter Tryz.func82, Tryz.ntmps82
    go_wp2
    go_ret
    exact ⟨rfl, rfl⟩
theorem gFormed_yes (k : Nat) (h1 : 1 ≤ k) (h2 : k ≤ 12) (w : World) : Calls Tryz.prog 82 #[.int .i64 (64 * (k : Int))] w fun e w' => e = .returned (.bool true) ∧ w = w' := by
  have := gFormed_any (64 * (k : Int)) (by omega) w
  rw [frm_mk k h1 h2] at this; exact this
theorem gFormed_no (b : Int) (hm : b ≤ 9223372036854775807) (h : frmB b = false) (w : World) : Calls Tryz.prog 82 #[.int .i64 b] w fun e w' => e = .returned (.bool false) ∧ w = w' := by
  have := gFormed_any b hm w
  rw [h] at this; exact this
theorem gGroups_yes (k : Nat) (h1 : 1 ≤ k) (h2 : k ≤ 12) (w : World) : Calls Tryz.prog 121 #[.int .i64 (64 * (k : Int))] w fun e w' => e = .returned (.int .i64 k) ∧ w = w' := by
  go_enter Tryz.func121, Tryz.ntmps121
  go_wp2_with (go_at_call 82; refine (gFormed_yes k h1 h2 _).mono ?_; rintro e w' ⟨rfl, rfl⟩)
  go_ret
  exact ⟨ret_i (by omega), rfl⟩
theorem gGroups_any (b : Int) (hm : b ≤ 9223372036854775807) (w : World) : Calls Tryz.prog 121 #[.int .i64 b] w fun e w' => e = .returned (.int .i64 (grsI b)) ∧ w = w' := by
  cases hb : frmB b
  · have hr : grsI b = 0 := by unfold grsI; rw [if_neg (by simp [hb])]
    rw [hr]
    have HB := Lib.hid hb
    clear hb hr
    go_enter Tryz.func121, Tryz.ntmps121
    go_wp2_with (go_at_call 82; refine (gFormed_no b hm HB.out _).mono ?_; rintro e w' ⟨rfl, rfl⟩)
    go_ret
    exact ⟨rfl, rfl⟩
  · obtain ⟨k, h1, h2, rfl⟩ := frm_yes hb
    have hr : grsI (64 * (k : Int)) = k := by unfold grsI; rw [if_pos hb]; omega
    rw [hr]
    exact gGroups_yes k h1 h2 w
theorem gGroup_any (n : Int) (hm : n ≤ 9223372036854775807) (w : World) : Calls Tryz.prog 123 #[.int .i64 n] w fun e w' => e = .returned (.int .i64 (grpI n)) ∧ w = w' := by
  by_cases h : n < 0
  · have hr : grpI n = -1 := if_pos h
    rw [hr]; clear hr
    go_enter Tryz.func123, Tryz.ntmps123
    go_wp2
    go_ret
    exact ⟨rfl, rfl⟩
  · have hr : grpI n = n / 64 := if_neg h
    rw [hr]; clear hr
    have h0 : 0 ≤ n := by omega
    go_enter Tryz.func123, Tryz.ntmps123
    go_wp2
    go_ret
    exact ⟨rfl, rfl⟩
theorem gPossible_yes (g : Int) (h1 : 0 ≤ g) (h2 : g < 12) (w : World) : Calls Tryz.prog 159 #[.int .i64 g] w fun e w' => e = .returned (.bool true) ∧ w = w' := by
  go_enter Tryz.func159, Tryz.ntmps159
  go_wp2
  go_ret
  exact ⟨rfl, rfl⟩
theorem gPossible_no (g : Int) (h : ¬ (0 ≤ g ∧ g < 12)) (w : World) : Calls Tryz.prog 159 #[.int .i64 g] w fun e w' => e = .returned (.bool false) ∧ w = w' := by
  by_cases h0 : 0 ≤ g
  · have h1 : ¬ g < 12 := fun h2 => h ⟨h0, h2⟩
    go_enter Tryz.func159, Tryz.ntmps159
    go_wp2
    go_ret
    exact ⟨rfl, rfl⟩
  · go_enter Tryz.func159, Tryz.ntmps159
    go_wp2
    go_ret
    exact ⟨rfl, rfl⟩
theorem gDesc_any (g : Int) (w : World) : Calls Tryz.prog 152 #[.int .i64 g] w fun e w' => e = .returned (.int .i64 (dscI g)) ∧ w = w' := by
  by_cases h : 0 ≤ g ∧ g < 12
  · obtain ⟨h1, h2⟩ := h
    by_cases h3 : g = 0
    · subst h3
      rw [show dscI 0 = 1 from rfl]
      go_enter Tryz.func152, Tryz.ntmps152
      go_wp2_with (go_at_call 159; refine (gPossible_yes 0 (by decide) (by decide) _).mono ?_; rintro e w' ⟨rfl, rfl⟩)
      go_ret
      exact ⟨rfl, rfl⟩
    · have hr : dscI g = g * 64 := by unfold dscI; rw [if_pos ⟨h1, h2⟩, if_neg h3]
      rw [hr]
      have h3' : (g == 0) = false := by simp [h3]
      clear hr h3
      go_enter Tryz.func152, Tryz.ntmps152
      go_wp2_with (go_at_call 159; refine (gPossible_yes g h1 h2 _).mono ?_; rintro e w' ⟨rfl, rfl⟩)
      go_ret
      exact ⟨rfl, rfl⟩
  · have hr : dscI g = -1 := if_neg h
    rw [hr]
    have H := Lib.hid h
    clear hr h
    go_enter Tryz.func152, Tryz.ntmps152
    go_wp2_with (go_at_call 159; refine (gPossible_no g H.out _).mono ?_; rintro e w' ⟨rfl, rfl⟩)
    go_ret
    exact ⟨rfl, rfl⟩
theorem dsc_bd (g : Int) (h1 : 0 ≤ g) (h2 : g < 12) : 0 ≤ dscI g ∧ dscI g ≤ 704 := by
  unfold dscI; rw [if_pos ⟨h1, h2⟩]; split <;> omega
theorem gOwners_any (g : Int) (w : World) : Calls Tryz.prog 153 #[.int .i64 g] w fun e w' => e = .returned (.int .i64 (ownI g)) ∧ w = w' := by
  by_cases h : 0 ≤ g ∧ g < 12
  · have hr : ownI g = dscI g + 1 := if_pos h
    rw [hr]
    obtain ⟨h1, h2⟩ := h
    obtain ⟨d1, d2⟩ := dsc_bd g h1 h2
    clear hr
    go_enter Tryz.func153, Tryz.ntmps153
    go_wp2_with (first
      | (go_at_call 159; refine (gPossible_yes g h1 h2 _).mono ?_; rintro e w' ⟨rfl, rfl⟩)
      | (go_at_call 152; refine (gDesc_any g _).mono ?_; rintro e w' ⟨rfl, rfl⟩))
    go_ret
    exact ⟨rfl, rfl⟩
  · have hr : ownI g = -1 := if_neg h
    rw [hr]
    have H := Lib.hid h
    clear hr h
    go_enter Tryz.func153, Tryz.ntmps153
    go_wp2_with (go_at_call 159; refine (gPossible_no g H.out _).mono ?_; rintro e w' ⟨rfl, rfl⟩)
    go_ret
    exact ⟨rfl, rfl⟩
theorem gCopy_any (w : World) : Calls Tryz.prog 49 #[] w fun e w' => e = .returned (.int .i64 63) ∧ w = w' := by
  go_enter Tryz.func49, Tryz.ntmps49
  go_wp2
  go_ret
  exact ⟨rfl, rfl⟩
def jrnB (n : Int) : Bool := decide (3 ≤ n ∧ n < 43)
theorem gJournal_any (n : Int) (w : World) : Calls Tryz.prog 160 #[.int .i64 n] w fun e w' => e = .returned (.bool (jrnB n)) ∧ w = w' := by
  by_cases h0 : 3 ≤ n
  · by_cases h1 : n < 43
    · rw [show jrnB n = true from decide_eq_true ⟨h0, h1⟩]
      go_enter Tryz.func160, Tryz.ntmps160
      go_wp2
      go_ret
      exact ⟨rfl, rfl⟩
    · rw [show jrnB n = false from decide_eq_false (by omega)]
      go_enter Tryz.func160, Tryz.ntmps160
      go_wp2
      go_ret
      exact ⟨rfl, rfl⟩
  · rw [show jrnB n = false from decide_eq_false (by omega)]
    go_enter Tryz.func160, Tryz.ntmps160
    go_wp2
    go_ret
    exact ⟨rfl, rfl⟩
theorem gOpen_yes (k : Nat) (h1 : 1 ≤ k) (h2 : k ≤ 12) (w : World) : Calls Tryz.prog 86 #[.int .i64 (64 * (k : Int))] w fun e w' => e = .returned (.int .i64 (62 * (k : Int) - 42)) ∧ w = w' := by
  go_enter Tryz.func86, Tryz.ntmps86
  go_wp2_with (first
    | (go_at_call 82; refine (gFormed_yes k h1 h2 _).mono ?_; rintro e w' ⟨rfl, rfl⟩)
    | (go_at_call 121; refine (gGroups_yes k h1 h2 _).mono ?_; rintro e w' ⟨rfl, rfl⟩))
  go_ret
  exact ⟨ret_i (by omega), rfl⟩
theorem gFixed_no (n : Int) (hm : n ≤ 9223372036854775807) (h : ¬ (0 ≤ grpI n ∧ grpI n < 12)) (w : World) : Calls Tryz.prog 131 #[.int .i64 n] w fun e w' => e = .returned (.bool (fixB n)) ∧ w = w' := by
  have hr : fixB n = false := by
    unfold fixB; refine decide_eq_false ?_
    unfold grpI at h; split at h <;> omega
  rw [hr]
  have H := Lib.hid h
  clear hr h
  go_enter Tryz.func131, Tryz.ntmps131
  go_wp2_with (first
    | (go_at_call 123; refine (gGroup_any n hm _).mono ?_; rintro e w' ⟨rfl, rfl⟩)
    | (go_at_call 159; refine (gPossible_no _ H.out _).mono ?_; rintro e w' ⟨rfl, rfl⟩))
  go_ret
  exact ⟨rfl, rfl⟩
theorem fix_is (n : Int) (h1 : 0 ≤ grpI n) (h2 : grpI n < 12) : fixB n = (((((n == 0) || (n == dscI (grpI n))) || (n == ownI (grpI n))) || jrnB n) || (n == 63)) := by
  have hn : 0 ≤ n := by unfold grpI at h1; split at h1 <;> omega
  have hg : grpI n = n / 64 := by unfold grpI; rw [if_neg (by omega)]
  rw [hg] at h1 h2 ⊢
  rw [Bool.eq_iff_iff]
  unfold fixB jrnB ownI dscI
  have hc : 0 ≤ n / 64 ∧ n / 64 < 12 := ⟨h1, h2⟩
  simp only [if_pos hc, decide_eq_true_eq, Bool.or_eq_true, beq_iff_eq]
  by_cases h0 : n / 64 = 0
  · simp only [if_pos h0]; omega
  · simp only [if_neg h0]; omega
theorem gFixed_yes (n : Int) (hm : n ≤ 9223372036854775807) (h1 : 0 ≤ grpI n) (h2 : grpI n < 12) (w : World) : Calls Tryz.prog 131 #[.int .i64 n] w fun e w' => e = .returned (.bool (fixB n)) ∧ w = w' := by
  rw [fix_is n h1 h2]
  obtain ⟨G, hG⟩ : ∃ G, G = grpI n := ⟨_, rfl⟩
  have HGG : Calls Tryz.prog 123 #[.int .i64 n] w fun e w' => e = .returned (.int .i64 G) ∧ w = w' := by rw [hG]; exact gGroup_any n hm w
  rw [← hG] at h1 h2 ⊢
  clear hG
  obtain ⟨D, hD⟩ : ∃ D, D = dscI G := ⟨_, rfl⟩
  have HDD : Calls Tryz.prog 152 #[.int .i64 G] w fun e w' => e = .returned (.int .i64 D) ∧ w = w' := by rw [hD]; exact gDesc_any G w
  rw [← hD]
  clear hD
  obtain ⟨O, hO⟩ : ∃ O, O = ownI G := ⟨_, rfl⟩
  have HOO : Calls Tryz.prog 153 #[.int .i64 G] w fun e w' => e = .returned (.int .i64 O) ∧ w = w' := by rw [hO]; exact gOwners_any G w
  rw [← hO]
  clear hO
  obtain ⟨J, hJ⟩ : ∃ J, J = jrnB n := ⟨_, rfl⟩
  have HJJ : Calls Tryz.prog 160 #[.int .i64 n] w fun e w' => e = .returned (.bool J) ∧ w = w' := by rw [hJ]; exact gJournal_any n w
  rw [← hJ]
  clear hJ
  rcases hb0 : (n == 0) with _ | _
  · rcases hb1 : (n == D) with _ | _
    · rcases hb2 : (n == O) with _ | _
      · cases J
        · go_enter Tryz.func131, Tryz.ntmps131
          go_wp2_with (first
            | (go_at_call 123; refine HGG.mono ?_; rintro e w' ⟨rfl, rfl⟩)
            | (go_at_call 159; refine (gPossible_yes G h1 h2 _).mono ?_; rintro e w' ⟨rfl, rfl⟩)
            | (go_at_call 152; refine HDD.mono ?_; rintro e w' ⟨rfl, rfl⟩)
            | (go_at_call 153; refine HOO.mono ?_; rintro e w' ⟨rfl, rfl⟩)
            | (go_at_call 160; refine HJJ.mono ?_; rintro e w' ⟨rfl, rfl⟩)
            | (go_at_call 49; refine (gCopy_any _).mono ?_; rintro e w' ⟨rfl, rfl⟩))
          go_ret
          exact ⟨by simp, rfl⟩
        · go_enter Tryz.func131, Tryz.ntmps131
          go_wp2_with (first
            | (go_at_call 123; refine HGG.mono ?_; rintro e w' ⟨rfl, rfl⟩)
            | (go_at_call 159; refine (gPossible_yes G h1 h2 _).mono ?_; rintro e w' ⟨rfl, rfl⟩)
            | (go_at_call 152; refine HDD.mono ?_; rintro e w' ⟨rfl, rfl⟩)
            | (go_at_call 153; refine HOO.mono ?_; rintro e w' ⟨rfl, rfl⟩)
            | (go_at_call 160; refine HJJ.mono ?_; rintro e w' ⟨rfl, rfl⟩))
          go_ret
          exact ⟨rfl, rfl⟩
      · go_enter Tryz.func131, Tryz.ntmps131
        go_wp2_with (first
          | (go_at_call 123; refine HGG.mono ?_; rintro e w' ⟨rfl, rfl⟩)
          | (go_at_call 159; refine (gPossible_yes G h1 h2 _).mono ?_; rintro e w' ⟨rfl, rfl⟩)
          | (go_at_call 152; refine HDD.mono ?_; rintro e w' ⟨rfl, rfl⟩)
          | (go_at_call 153; refine HOO.mono ?_; rintro e w' ⟨rfl, rfl⟩))
        go_ret
        exact ⟨rfl, rfl⟩
    · go_enter Tryz.func131, Tryz.ntmps131
      go_wp2_with (first
        | (go_at_call 123; refine HGG.mono ?_; rintro e w' ⟨rfl, rfl⟩)
        | (go_at_call 159; refine (gPossible_yes G h1 h2 _).mono ?_; rintro e w' ⟨rfl, rfl⟩)
        | (go_at_call 152; refine HDD.mono ?_; rintro e w' ⟨rfl, rfl⟩))
      go_ret
      exact ⟨rfl, rfl⟩
  · go_enter Tryz.func131, Tryz.ntmps131
    go_wp2_with (first
      | (go_at_call 123; refine HGG.mono ?_; rintro e w' ⟨rfl, rfl⟩)
      | (go_at_call 159; refine (gPossible_yes G h1 h2 _).mono ?_; rintro e w' ⟨rfl, rfl⟩))
    go_ret
    exact ⟨rfl, rfl⟩
theorem gFixed_any (n : Int) (hm : n ≤ 9223372036854775807) (w : World) : Calls Tryz.prog 131 #[.int .i64 n] w fun e w' => e = .returned (.bool (fixB n)) ∧ w = w' := by
  by_cases h : 0 ≤ grpI n ∧ grpI n < 12
  · exact gFixed_yes n hm h.1 h.2 w
  · exact gFixed_no n hm h w
theorem gFixed_is (n : Int) (hm : n ≤ 9223372036854775807) (B : Bool) (h : fixB n = B) (w : World) : Calls Tryz.prog 131 #[.int .i64 n] w fun e w' => e = .returned (.bool B) ∧ w = w' := by
  rw [← h]; exact gFixed_any n hm w
section
variable {α : Type} {f : α → List Value} {s : Nat}
theorem flat_length : ∀ {L : List α}, (∀ x ∈ L, (f x).length = s) → (L.flatMap f).length = L.length * s
  | [], _ => by simp
  | x :: L, h => by
    rw [List.flatMap_cons, List.length_append, flat_length (fun z hz => h z (List.mem_cons_of_mem _ hz)), h x (by simp), List.length_cons, Nat.succ_mul]; omega
theorem flat_get : ∀ {L : List α}, (∀ x ∈ L, (f x).length = s) → ∀ (i : Nat) (hi : i < L.length), ((L.flatMap f).drop (i * s)).take s = f L[i]
  | [], _, i, hi => by simp at hi
  | x :: L, h, 0, _ => by
    rw [List.flatMap_cons, Nat.zero_mul, List.drop_zero, List.take_append_of_le_length (by rw [h x (by simp)]; exact Nat.le_refl _), ← h x (by simp), List.take_length]; rfl
  | x :: L, h, i + 1, hi => by
    have hx := h x (by simp)
    rw [List.flatMap_cons, show (i + 1) * s = (f x).length + i * s by rw [hx, Nat.succ_mul]; omega, List.drop_length_add_append]
    exact flat_get (fun z hz => h z (List.mem_cons_of_mem _ hz)) i (by simpa using hi)
theorem flat_set : ∀ {L : List α}, (∀ x ∈ L, (f x).length = s) → ∀ (i : Nat) (hi : i < L.length) (y : α), (f y).length = s → splice (L.flatMap f) (i * s) (f y) = (L.set i y).flatMap f
  | [], _, i, hi, _, _ => by simp at hi
  | x :: L, h, 0, _, y, hy => by
    have hx := h x (by simp)
    simp only [splice, Nat.zero_mul, List.take_zero, List.nil_append, Nat.zero_add, List.set_cons_zero, List.flatMap_cons]
    rw [hy, ← hx, List.drop_left]
  | x :: L, h, i + 1, hi, y, hy => by
    have hx := h x (by simp)
    have ih := flat_set (fun z hz => h z (List.mem_cons_of_mem _ hz)) i (by simpa using hi) y hy
    rw [List.set_cons_succ, List.flatMap_cons, List.flatMap_cons, ← ih]
    simp only [splice]
    rw [show (i + 1) * s = (f x).length + i * s by rw [hx, Nat.succ_mul]; omega, List.take_length_add_append, Nat.add_assoc, List.drop_length_add_append, List.append_assoc]
end
theorem setCells_row {w : World} {g o : Nat} {t : TypeId} {vs cur : List Value} (hg : w.heap[g]? = some (.cells cur.toArray t (0, 0))) (hl : o + vs.length ≤ cur.length) (h1 : ∀ v ∈ vs, v.oneCell' = true) :
    w.setCells g o vs = w.setRow g (splice cur o vs).toArray := by
  have a := run_storeCells_cells (P := Tryz.prog) g o vs 0 w
    (fun j hj => by rw [cell_of_row _ _ _ _ _ _ hg]; simp; omega)
    (fun j hj => by simp [World.frozen?, hg]) h1
  have b := run_storeCells_at Tryz.prog g o t vs 0 cur.toArray w hg (by simpa using hl) h1
  rw [a] at b
  injection b with _ b
  simpa [splice] using b
theorem there_row {w : World} {g o n : Nat} {t : TypeId} {cur : List Value} (hg : w.heap[g]? = some (.cells cur.toArray t (0, 0))) (hl : o + n ≤ cur.length) : w.there g o n := fun j hj => by
  refine ⟨by rw [cell_of_row _ _ _ _ _ _ hg]; simp; omega, by simp [World.frozen?, hg]⟩
theorem range_row {w : World} {g o : Nat} {t : TypeId} {vs cur : List Value} (hg : w.heap[g]? = some (.cells cur.toArray t (0, 0))) (h : (cur.drop o).take vs.length = vs) : w.rangeAt g o vs := fun j v hv => by
  rw [cell_of_row _ _ _ _ _ _ hg]
  have hj := (List.getElem?_eq_some_iff.1 hv).1
  rw [← h, List.getElem?_take, if_pos hj, List.getElem?_drop] at hv
  simpa using hv
end Go.Proofs.YtekeoljfdnfbgaaGreat
namespace Go.Proofs.YtekeoljfdnfbgaaGreat
set_option maxRecDepth 100000
open Go.RowKit BM
def OwSl (w : World) (v : Value) (O : List (Int × Int)) : Prop :=
  OwB O ∧ ((v = .slice none 0 0 ∧ O = []) ∨ ∃ a cap, v = .slice (some a) O.length cap ∧ ∀ j, j < O.length → a.block < w.heap.size ∧ a.spot = none ∧
    w.cell? ⟨a.block, a.off + j * 2, none⟩ = some (.int .u16 (O.getD j (0, 0)).1) ∧ w.cell? ⟨a.block, a.off + j * 2 + 1, none⟩ = some (.int .u16 (O.getD j (0, 0)).2))
theorem OwSl.below {w w' : World} {v : Value} {O : List (Int × Int)} (h : OwSl w v O) (hb : Below w.heap.size w w') : OwSl w' v O := by
  refine ⟨h.1, ?_⟩
  rcases h.2 with h | ⟨a, cap, hv, hc⟩
  · exact .inl h
  · refine .inr ⟨a, cap, hv, fun j hj => ?_⟩
    obtain ⟨h1, h2, h3, h4⟩ := hc j hj
    exact ⟨Nat.lt_of_lt_of_le h1 hb.size, h2, by rw [hb.cell (p := ⟨a.block, a.off + j * 2, none⟩) h1, h3], by rw [hb.cell (p := ⟨a.block, a.off + j * 2 + 1, none⟩) h1, h4]⟩
theorem OwSl.shape {w : World} {v : Value} {O : List (Int × Int)} (h : OwSl w v O) : ∃ ao cap, v = .slice ao O.length cap := by
  rcases h.2 with ⟨hv, hk⟩ | ⟨a, cap, hv, _⟩
  · exact ⟨none, 0, by rw [hv, hk]; rfl⟩
  · exact ⟨some a, cap, hv⟩
theorem OwSl.at {w : World} {v : Value} {O : List (Int × Int)} (h : OwSl w v O) (hO : 0 < O.length) : ∃ b off cap, v = .slice (some ⟨b, off, none⟩) O.length cap ∧ b < w.heap.size ∧
    ∀ j, j < O.length → w.cell? ⟨b, off + j * 2, none⟩ = some (.int .u16 (O.getD j (0, 0)).1) ∧ w.cell? ⟨b, off + j * 2 + 1, none⟩ = some (.int .u16 (O.getD j (0, 0)).2) := by
  rcases h.2 with ⟨_, hk⟩ | ⟨⟨b, off, spot⟩, cap, hv, hc⟩
  · rw [hk] at hO; simp at hO
  · obtain ⟨h1, h2, _⟩ := hc 0 hO
    obtain rfl : spot = none := h2
    exact ⟨b, off, cap, hv, h1, fun j hj => (hc j hj).2.2⟩
def cO (x : Int × Int) : List Value := [.int .u16 x.1, .int .u16 x.2]
def ownC (O : List (Int × Int)) : List Value := O.flatMap cO
theorem cO_len : ∀ x : Int × Int, (cO x).length = 2 := fun _ => rfl
theorem ownC_length (O : List (Int × Int)) : (ownC O).length = O.length * 2 := flat_length fun x _ => cO_len x
theorem ownC_append (O P : List (Int × Int)) : ownC (O ++ P) = ownC O ++ ownC P := List.flatMap_append
theorem ownC_get (O : List (Int × Int)) (j : Nat) (h : j < O.length) : (ownC O)[j * 2]? = some (.int .u16 (O.getD j (0, 0)).1) ∧ (ownC O)[j * 2 + 1]? = some (.int .u16 (O.getD j (0, 0)).2) := by
  have hg := flat_get (f := cO) (s := 2) (L := O) (fun x _ => cO_len x) j h
  have e : O.getD j (0, 0) = O[j] := by simp [List.getD_eq_getElem?_getD, h]
  rw [e]
  have h0 := congrArg (fun z => z[0]?) hg
  have h1 := congrArg (fun z => z[1]?) hg
  simp only [List.getElem?_take, List.getElem?_drop, Nat.add_zero] at h0 h1
  rw [if_pos (by omega)] at h0 h1
  exact ⟨h0, h1⟩
def OwR (w : World) (B : Nat) (v : Value) (O : List (Int × Int)) : Prop := OwB O ∧ w.ownsRow B 38 2 v O.length (ownC O)
theorem OwR.sl {w : World} {B : Nat} {v : Value} {O : List (Int × Int)} (h : OwR w B v O) : OwSl w v O := by
  refine ⟨h.1, ?_⟩
  rcases h.2.2 with ⟨hv, hl⟩ | ⟨g, cap, cur, hv, hg, hh, hnc, hcm, hcs, ht⟩
  · exact .inl ⟨hv, List.eq_nil_of_length_eq_zero hl⟩
  · refine .inr ⟨_, cap, hv, fun j hj => ⟨(Array.getElem?_eq_some_iff.1 hh).1, rfl, ?_⟩⟩
    obtain ⟨h1, h2⟩ := ownC_get O j hj
    rw [← ht, List.getElem?_take] at h1 h2
    rw [if_pos (by omega)] at h1 h2
    rw [Nat.zero_add, cell_of_row _ _ _ _ _ _ hh, cell_of_row _ _ _ _ _ _ hh]
    exact ⟨by simpa using h1, by simpa using h2⟩
theorem OwR.more {w : World} {B B' : Nat} {v : Value} {O : List (Int × Int)} (h : OwR w B v O) (hB : B' ≤ B) : OwR w B' v O := by
  refine ⟨h.1, h.2.1, ?_⟩
  rcases h.2.2 with h | ⟨g, cap, cur, hv, hg, r⟩
  · exact .inl h
  · exact .inr ⟨g, cap, cur, hv, Nat.le_trans hB hg, r⟩
theorem OwR.below {w w' : World} {B : Nat} {v : Value} {O : List (Int × Int)} (h : OwR w B v O) (hb : Below w.heap.size w w') : OwR w' B v O := by
  refine ⟨h.1, h.2.1, ?_⟩
  rcases h.2.2 with h | ⟨g, cap, cur, hv, hg, hh, r⟩
  · exact .inl h
  · exact .inr ⟨g, cap, cur, hv, hg, by rw [hb.block g (Array.getElem?_eq_some_iff.1 hh).1]; exact hh, r⟩
theorem OwR.of_row {w : World} {B g : Nat} {O : List (Int × Int)} (hb : OwB O) (hB : B ≤ g) (hg : w.heap[g]? = some (.cells (ownC O).toArray 38 (0, 0))) (hm : O.length ≤ maxLen) :
    OwR w B (.slice (some ⟨g, 0, none⟩) O.length O.length) O := by
  refine ⟨hb, ownC_length O, .inr ⟨g, O.length, _, rfl, hB, hg, Nat.le_refl _, hm, by simp [ownC_length], ?_⟩⟩
  rw [List.take_of_length_le (by simp [ownC_length])]
theorem infoOw : (Tryz.prog.info? 38).map (fun i => (i.zero, i.size, i.bytes)) = some (some (.agg #[.int .u16 0, .int .u16 0]), 2, 4) := by kernel_rfl
theorem made_ow (n : Nat) : madeCells (Value.agg #[.int .u16 0, .int .u16 0]).cells (n * 2) = (ownC (List.replicate n (0, 0))).toArray := by
  have e : ownC (List.replicate n (0, 0)) = List.replicate (n * 2) (.int .u16 0) := by
    apply List.ext_getElem?
    intro i
    by_cases h : i < n * 2
    · have h2 : i / 2 < (List.replicate n ((0 : Int), (0 : Int))).length := by simp; omega
      have hz : (List.replicate n ((0 : Int), (0 : Int))).getD (i / 2) (0, 0) = (0, 0) := by
        rw [List.getD_eq_getElem?_getD, List.getElem?_replicate]; split <;> rfl
      obtain ⟨h3, h4⟩ := ownC_get _ _ h2
      rw [hz] at h3 h4
      rw [List.getElem?_replicate, if_pos h]
      rcases Nat.mod_two_eq_zero_or_one i with e | e
      · rw [show i = i / 2 * 2 by omega]; exact h3
      · rw [show i = i / 2 * 2 + 1 by omega]; exact h4
    · rw [List.getElem?_eq_none (by rw [ownC_length]; simp; omega), List.getElem?_eq_none (by simp; omega)]
  rw [e]
  apply Array.ext
  · simp [size_madeCells]
  · intro i h1 h2
    simp only [madeCells, Value.cells, Array.getElem_map, Array.getElem_range]
    simp
    have : i % 2 = 0 ∨ i % 2 = 1 := by omega
    rcases this with e | e <;> rw [e] <;> rfl
theorem wpList_make_ow (w : World) {ops : Array Oper} {rest : List Oper} {o : Oper} {a : Act} {Q : Exit → Act → World → Prop}
    (hg : o.guard = none) (l c : Operand) (hop : o.op = Op.makeSlice 41 l c) (C : Int) (n : Nat) (hl : a.eval l = .int .i64 C) (hc : a.eval c = .int .i64 C) (hC : C = n) (hn : n ≤ 1000000)
    (hK : wpList Tryz.prog ops Q rest (a.put o.dst (.slice (some ⟨w.heap.size, 0, none⟩) n n)) (w.alloc (.cells (ownC (List.replicate n (0, 0))).toArray 38))) :
    wpList Tryz.prog ops Q (o :: rest) a w := by
  refine wpList_plain hg fun K hK' => ?_
  obtain ⟨i, h2, h3, h4, h5⟩ := info_parts infoOw
  subst hC
  have hrun := run_make (P := Tryz.prog) w 41 38 i (.agg #[.int .u16 0, .int .u16 0]) Tryz.underlying41 h2 h3 .i64 .i64 n n (by omega) (by omega) (by rw [h5]; omega) (by omega)
  unfold Oper.wp
  simp only [Int.toNat_natCast, h4, made_ow] at hrun
  simp [execOp, hop, hl, hc, hrun, Result.andThen]
  exact hK' _ _ hK
theorem wpList_store_ow {ops : Array Oper} {rest : List Oper} {op : Oper} {a : Act} {w : World} {Q : Exit → Act → World → Prop} (hgd : op.guard = none) (x y : Operand) (ho : op.op = .store 38 x y)
    (g k : Nat) (O : List (Int × Int)) (i j : Int) (hx : a.eval x = .pointer (some ⟨g, k * 2, none⟩)) (hy : a.eval y = .agg #[.int .u16 i, .int .u16 j])
    (hg : w.heap[g]? = some (.cells (ownC O).toArray 38 (0, 0))) (hk : k < O.length)
    (h : ∀ w', Wrote w w' g → w'.heap[g]? = some (.cells (ownC (O.set k (i, j))).toArray 38 (0, 0)) → wpList Tryz.prog ops Q rest (a.put op.dst undef) w') : wpList Tryz.prog ops Q (op :: rest) a w := by
  have hs : (Tryz.prog.info? 38).map (·.size) = some 2 := by kernel_rfl
  have hl : k * 2 + (cO (i, j)).length ≤ (ownC O).length := by rw [ownC_length, cO_len]; omega
  have h1 : ∀ v ∈ cO (i, j), v.oneCell' = true := fun v hv => by simp [cO] at hv; rcases hv with rfl | rfl <;> rfl
  refine wpList_store_mid hgd 38 x y ho g (k * 2) #[.int .u16 i, .int .u16 j] hx hy (there_row hg hl) (by rw [hs]; rfl) (all_oneCell_toArray (cs := cO (i, j)) h1) ?_
  have e := setCells_row hg hl h1
  rw [show (#[Value.int .u16 i, Value.int .u16 j] : Array Value).toList = cO (i, j) from rfl, e]
  refine h _ (Wrote.setRow _ _ _) ?_
  rw [setRow_heap _ _ _ _ _ _ hg, ownC, flat_set (f := cO) (s := 2) (fun x _ => cO_len x) k hk (i, j) (cO_len _)]
  rfl
theorem wpList_append_ow (w1 : World) (i j : Int) (hi : 0 ≤ i ∧ i ≤ 65535) (hj : 0 ≤ j ∧ j ≤ 65535) {ops : Array Oper} {rest : List Oper} {o : Oper} {a : Act} {Q : Exit → Act → World → Prop} (hgd : o.guard = none) (s y : Operand)
    (ho : o.op = .call { callee := .builtin .append, args := #[s, y], argTypes := #[41, 41] })
    (B : Nat) (v : Value) (O : List (Int × Int)) (hs : a.eval s = v) (hown : OwR w1 B v O) (hO : O.length ≤ 1000000) (hy : a.eval y = .slice (some ⟨w1.heap.size, 0, none⟩) 1 1) (hB : B ≤ w1.heap.size)
    (h : ∀ v' w', OwR w' B v' (O ++ [(i, j)]) → Below B w1 w' → wpList Tryz.prog ops Q rest (a.put o.dst v') w') : wpList Tryz.prog ops Q (o :: rest) a (w1.alloc (.cells #[.int .u16 i, .int .u16 j] 38)) := by
  obtain ⟨t, h2, h3, h4, h5⟩ := info_parts infoOw
  have hbel : Below w1.heap.size w1 (w1.alloc (.cells #[.int .u16 i, .int .u16 j] 38)) := below_box _ _
  have hnew : (w1.alloc (.cells #[.int .u16 i, .int .u16 j] 38)).heap[w1.heap.size]? = some (.cells #[.int .u16 i, .int .u16 j] 38 (0, 0)) := heap_alloc_new w1 _
  have hf := hown.below hbel
  refine wpList_append_own _ hgd s y 41 ho B 38 t _ 2 4 Tryz.underlying41 h2 h3 h4 h5 rfl (by decide) v O.length _ hs hf.2 ⟨w1.heap.size, 0, none⟩ 1 1 [.int .u16 i, .int .u16 j] hy rfl ?_ ?_ (by simp only [maxLen]; omega) (by omega) (by simp; omega) fun v' w' h6 h7 _ => ?_
  · intro m u hm
    have hm2 : m < 2 := by simpa using (List.getElem?_eq_some_iff.1 hm).1
    rw [Addr.add_lit, Nat.zero_add, cell_of_row _ _ _ _ _ _ hnew, ← hm]
    have : m = 0 ∨ m = 1 := by omega
    rcases this with rfl | rfl <;> rfl
  · intro u hu
    simp at hu
    rcases hu with rfl | rfl <;> rfl
  · refine h v' w' ⟨owB_of fun m hm => ?_, ?_⟩ ((hbel.mono hB).trans ((Below.refl _ _).grown h7 (by simp; omega) fun k hk => (World.ownsRow.lt hf.2 k hk).1))
    · by_cases e : m < O.length
      · have := hown.1 m
        rw [List.getD_eq_getElem?_getD, List.getElem?_append_left e, ← List.getD_eq_getElem?_getD]; exact this
      · have e2 : m = O.length := by simp at hm; omega
        subst e2
        rw [List.getD_eq_getElem?_getD, List.getElem?_append_right (Nat.le_refl _)]; simpa using ⟨hi, hj⟩
    · rw [List.length_append, ownC_append]; exact h6
theorem grPoss_yes (g : Int) (h1 : 0 ≤ g) (h2 : g < 12) (w : World) : Calls Tryz.prog 180 #[.int .i64 g] w fun e w' => e = .returned (.bool true) ∧ w = w' := by
  go_enter Tryz.func180, Tryz.ntmps180
  go_wp2
  go_ret
  exact ⟨rfl, rfl⟩
theorem grForm_any (i a : Int) (hi0 : 0 ≤ i) (hi : i ≤ 65535) (ha0 : 0 ≤ a) (ha : a ≤ 65535) (w : World) :
    Calls Tryz.prog 84 #[.agg #[.int .u16 i, .int .u16 a]] w fun e w' => e = .returned (.bool (frmO i a)) ∧ Below w.heap.size w w' := by
  have hob := below_box w (.cells #[.int .u16 i, .int .u16 a] 38)
  obtain ⟨B, hB⟩ : ∃ B, B = frmO i a := ⟨_, rfl⟩
  rw [← hB]
  unfold frmO at hB
  by_cases h0 : i = 0
  · rw [if_pos (.inl h0)] at hB
    subst h0
    cases hd : decide (a = 0)
    all_goals
      rw [hd] at hB
      have HB := Lib.hid hB
      have hda : (a == 0) = _ := hd
      clear hB hd
      go_enter Tryz.func84, Tryz.ntmps84
      go_wp2
      go_ret
      exact ⟨by rw [HB.out]; rfl, hob⟩
  · have e0 : (i == 0) = false := by simpa using h0
    by_cases h1 : i = 65535
    · rw [if_pos (.inr h1)] at hB
      subst h1
      cases hd : decide (a = 0)
      all_goals
        rw [hd] at hB
        have HB := Lib.hid hB
        have hda : (a == 0) = _ := hd
        clear hB hd h0
        go_enter Tryz.func84, Tryz.ntmps84
        go_wp2
        go_ret
        exact ⟨by rw [HB.out]; rfl, hob⟩
    · rw [if_neg (by omega)] at hB
      have e1 : (i == 65535) = false := by simpa using h1
      by_cases h2 : i = 65534
      · rw [if_pos h2] at hB
        subst h2
        cases hd : decide (a < 6)
        all_goals
          rw [hd] at hB
          have HB := Lib.hid hB
          clear hB h0 h1
          go_enter Tryz.func84, Tryz.ntmps84
          go_wp2
          go_ret
          exact ⟨by rw [HB.out]; rfl, hob⟩
      · rw [if_neg h2] at hB
        have e2 : (i == 65534) = false := by simpa using h2
        clear h0 h1 h2
        by_cases h3 : i < 48
        · by_cases h4 : a < 138
          · have HB : Hid (B = true) := Lib.hid (by rw [hB]; simp [h3, h4])
            clear hB
            go_enter Tryz.func84, Tryz.ntmps84
            go_wp2
            go_ret
            exact ⟨by rw [HB.out]; rfl, hob⟩
          · have hda : (a == 65535) = B := by rw [hB, decide_eq_true h3, decide_eq_false h4]; rfl
            have hb2 : B = true ∨ B = false := by cases B <;> simp
            clear hB
            rcases hb2 with rfl | rfl
            all_goals
              go_enter Tryz.func84, Tryz.ntmps84
              go_wp2
              go_ret
              exact ⟨rfl, hob⟩
        · have HB : Hid (B = false) := Lib.hid (by rw [hB]; simp [h3])
          clear hB
          go_enter Tryz.func84, Tryz.ntmps84
          go_wp2
          go_ret
          exact ⟨by rw [HB.out]; rfl, hob⟩
theorem grForm_is (i a : Int) (hi : 0 ≤ i ∧ i ≤ 65535) (ha : 0 ≤ a ∧ a ≤ 65535) (B : Bool) (h : frmO i a = B) (w : World) :
    Calls Tryz.prog 84 #[.agg #[.int .u16 i, .int .u16 a]] w fun e w' => e = .returned (.bool B) ∧ Below w.heap.size w w' := by
  rw [← h]; exact grForm_any i a hi.1 hi.2 ha.1 ha.2 w
theorem grAll_len {w : World} (ao : Option Addr) (len cap : Nat) (h : len ≠ 64) : Calls Tryz.prog 173 #[.slice ao len cap] w fun e w' => e = .returned (.bool false) ∧ w = w' := by
  have hne : ((len : Int) != 64) = true := by simp; omega
  go_enter Tryz.func173, Tryz.ntmps173
  go_wp2
  go_ret
  exact ⟨rfl, rfl⟩
theorem grAll_64 {w : World} {b off cap : Nat} {O : List (Int × Int)} (hO : O.length = 64) (hB : OwB O) (hb : b < w.heap.size)
    (hc : ∀ j, j < O.length → w.cell? ⟨b, off + j * 2, none⟩ = some (.int .u16 (O.getD j (0, 0)).1) ∧ w.cell? ⟨b, off + j * 2 + 1, none⟩ = some (.int .u16 (O.getD j (0, 0)).2)) :
    Calls Tryz.prog 173 #[.slice (some ⟨b, off, none⟩) 64 cap] w fun e w' => e = .returned (.bool (allO O)) ∧ Below w.heap.size w w' := by
  obtain ⟨R, hR⟩ : ∃ R, R = allO O := ⟨_, rfl⟩
  rw [← hR]
  have HC := Lib.hid hc
  have HO := Lib.hid hO
  have HBB := Lib.hid hB
  have hRR : R = frmK O 64 := by rw [hR, allO, hO]; rfl
  have HR := Lib.hid hRR
  clear hc hO hB hR hRR
  go_enter Tryz.func173, Tryz.ntmps173
  go_wp2
  go_loopw [10] (fun i wr => ∃ k : Nat, k ≤ 64 ∧ i = .int .i64 k ∧ Hid (frmK O k = true) ∧ Below w.heap.size w wr) (fun i _ => 64 - (intOf i).toNat)
  case atStart => exact ⟨0, by omega, rfl, rfl, Below.refl _ _⟩
  case round =>
    obtain ⟨k, hk, rfl, HK, hbr⟩ := hrel
    by_cases hlt : k < 64
    · have hck := HC.out k (by rw [HO.out]; exact hlt)
      have hbd := HBB.out k
      have hj : frmJ O k = frmO (O.getD k (0, 0)).1 (O.getD k (0, 0)).2 := rfl
      obtain ⟨x, hx⟩ : ∃ x, x = (O.getD k (0, 0)).1 := ⟨_, rfl⟩
      obtain ⟨y, hy⟩ : ∃ y, y = (O.getD k (0, 0)).2 := ⟨_, rfl⟩
      rw [← hx, ← hy] at hck hbd hj
      have c1 := (hbr.cell (p := ⟨b, off + k * 2, none⟩) hb).trans hck.1
      have c2 := (hbr.cell (p := ⟨b, off + k * 2 + 1, none⟩) hb).trans hck.2
      have ek : (k : Int) < 64 := by omega
      clear hx hy hck
      cases hf : frmO x y
      · have HF := Lib.hid hf
        rw [hf] at hj
        have HJ := Lib.hid hj
        clear hf hj
        go_wp2_with (go_at_call 84; refine (grForm_is x y hbd.1 hbd.2 false HF.out _).mono ?_; rintro e w2 ⟨rfl, hb2⟩)
        go_ret
        exact ⟨ret_bool (by rw [HR.out, frmK_no HJ.out hlt]), (hbr.trans ((below_box _ _).mono hbr.size)).trans (hb2.mono (by have := hbr.size; simp; omega))⟩
      · have HF := Lib.hid hf
        rw [hf] at hj
        have HJ := Lib.hid hj
        clear hf hj
        go_wp2_with (go_at_call 84; refine (grForm_is x y hbd.1 hbd.2 true HF.out _).mono ?_; rintro e w2 ⟨rfl, hb2⟩)
        go_roundw
        case rel => exact ⟨k + 1, by omega, by go_num, by show frmK O (k + 1) = true; rw [frmK, HK.out, HJ.out]; rfl, (hbr.trans ((below_box _ _).mono hbr.size)).trans (hb2.mono (by have := hbr.size; simp; omega))⟩
        case measure => simp [intOf]; omega
    · obtain rfl : k = 64 := by omega
      go_wp2
      go_ret
      exact ⟨ret_bool (by rw [HR.out, HK.out]), hbr⟩
theorem grAll_any {w : World} {v : Value} {O : List (Int × Int)} (hs : OwSl w v O) : Calls Tryz.prog 173 #[v] w fun e w' => e = .returned (.bool (allO O)) ∧ Below w.heap.size w w' := by
  by_cases h : O.length = 64
  · obtain ⟨b, off, cap, rfl, hb, hc⟩ := hs.at (by omega)
    rw [h]
    exact grAll_64 h hs.1 hb hc
  · obtain ⟨ao, cap, rfl⟩ := hs.shape
    refine (grAll_len ao _ cap h).mono fun e w' ⟨he, hw⟩ => ⟨?_, by rw [← hw]; exact Below.refl _ _⟩
    rw [he, allO, decide_eq_false h]; rfl
end Go.Proofs.YtekeoljfdnfbgaaGreat
namespace Go.Proofs.YtekeoljfdnfbgaaGreat
set_option maxRecDepth 100000
open Go.RowKit
theorem rFormed_any (b : Int) (hm : b ≤ 9223372036854775807) (w : World) : Calls Tryz.prog 69 #[.int .i64 b] w fun e w' => e = .returned (.bool (frmB b)) ∧ w = w' := by
  by_cases h1 : 64 ≤ b
  · by_cases h3 : b ≤ 768
    · have h0 : 0 ≤ b := by omega
      by_cases h2 : b % 64 = 0
      · have hr : frmB b = true := decide_eq_true (by omega)
        rw [hr]
        have h2' : (b % 64 == 0) = true := by simp [h2]
        clear hr h2
        go_enter Tryz.func69, Tryz.ntmps69
        go_wp2
        go_ret
        exact ⟨rfl, rfl⟩
      · have hr : frmB b = false := decide_eq_false (by omega)
        rw [hr]
        have h2' : (b % 64 == 0) = false := by simp [h2]
        clear hr h2
        go_enter Tryz.func69, Tryz.ntmps69
        go_wp2
        go_ret
        exact ⟨rfl, rfl⟩
    · have hr : frmB b = false := decide_eq_false (by omega)
      rw [hr]
      clear hr
      go_enter Tryz.func69, Tryz.ntmps69
      go_wp2
      go_ret
      exact ⟨rfl, rfl⟩
  · have hr : frmB b = false := decide_eq_false (by omega)
    rw [hr]
    clear hr
    go_enter Tryz.func69, Tryz.ntmps69
    go_wp2
    go_ret
    exact ⟨rfl, rfl⟩
theorem rFormed_yes (k : Nat) (h1 : 1 ≤ k) (h2 : k ≤ 12) (w : World) : Calls Tryz.prog 69 #[.int .i64 (64 * (k : Int))] w fun e w' => e = .returned (.bool true) ∧ w = w' := by
  have := rFormed_any (64 * (k : Int)) (by omega) w
  rw [frm_mk k h1 h2] at this; exact this
theorem rFormed_no (b : Int) (hm : b ≤ 9223372036854775807) (h : frmB b = false) (w : World) : Calls Tryz.prog 69 #[.int .i64 b] w fun e w' => e = .returned (.bool false) ∧ w = w' := by
  have := rFormed_any b hm w
  rw [h] at this; exact this
theorem rGroups_any (b : Int) (hm : b ≤ 9223372036854775807) (w : World) : Calls Tryz.prog 53 #[.int .i64 b] w fun e w' => e = .returned (.int .i64 (grsI b)) ∧ w = w' := by
  cases hb : frmB b
  · have hr : grsI b = 0 := by unfold grsI; rw [if_neg (by simp [hb])]
    rw [hr]
    have HB := Lib.hid hb
    clear hb hr
    go_enter Tryz.func53, Tryz.ntmps53
    go_wp2_with (go_at_call 69; refine (rFormed_no b hm HB.out _).mono ?_; rintro e w' ⟨rfl, rfl⟩)
    go_ret
    exact ⟨rfl, rfl⟩
  · obtain ⟨k, h1, h2, rfl⟩ := frm_yes hb
    have hr : grsI (64 * (k : Int)) = k := by unfold grsI; rw [if_pos hb]; omega
    rw [hr]
    clear hr hb hm
    go_enter Tryz.func53, Tryz.ntmps53
    go_wp2_with (go_at_call 69; refine (rFormed_yes k h1 h2 _).mono ?_; rintro e w' ⟨rfl, rfl⟩)
    go_ret
    exact ⟨ret_i (by omega), rfl⟩
theorem rDesc_any (g : Int) (w : World) : Calls Tryz.prog 57 #[.int .i64 g] w fun e w' => e = .returned (.int .i64 (dscI g)) ∧ w = w' := by
  by_cases h1 : g < 0
  · have hr : dscI g = -1 := if_neg (by omega)
    rw [hr]; clear hr
    go_enter Tryz.func57, Tryz.ntmps57
    go_wp2
    go_ret
    exact ⟨rfl, rfl⟩
  · by_cases h2 : 11 < g
    · have hr : dscI g = -1 := if_neg (by omega)
      rw [hr]; clear hr
      go_enter Tryz.func57, Tryz.ntmps57
      go_wp2
      go_ret
      exact ⟨rfl, rfl⟩
    · by_cases h3 : g = 0
      · subst h3
        rw [show dscI 0 = 1 from rfl]
        clear h1 h2
        go_enter Tryz.func57, Tryz.ntmps57
        go_wp2
        go_ret
        exact ⟨rfl, rfl⟩
      · have hr : dscI g = g * 64 := by unfold dscI; rw [if_pos ⟨by omega, by omega⟩, if_neg h3]
        rw [hr]
        have h3' : (g == 0) = false := by simp [h3]
        have h4 : 0 ≤ g := by omega
        have h5 : g ≤ 11 := by omega
        clear hr h3
        go_enter Tryz.func57, Tryz.ntmps57
        go_wp2
        go_ret
        exact ⟨ret_i (by omega), rfl⟩
theorem rOwners_any (g : Int) (w : World) : Calls Tryz.prog 58 #[.int .i64 g] w fun e w' => e = .returned (.int .i64 (ownI g)) ∧ w = w' := by
  by_cases h : 0 ≤ g ∧ g < 12
  · have hr : ownI g = dscI g + 1 := if_pos h
    rw [hr]
    obtain ⟨h1, h2⟩ := h
    obtain ⟨d1, d2⟩ := dsc_bd g h1 h2
    clear hr
    go_enter Tryz.func58, Tryz.ntmps58
    go_wp2_with (go_at_call 57; refine (rDesc_any g _).mono ?_; rintro e w' ⟨rfl, rfl⟩)
    go_ret
    exact ⟨rfl, rfl⟩
  · have hr : ownI g = -1 := if_neg h
    have hd : dscI g = -1 := if_neg h
    rw [hr]
    have HD : ∀ w, Calls Tryz.prog 57 #[.int .i64 g] w fun e w' => e = .returned (.int .i64 (-1)) ∧ w = w' := fun w => by
      have := rDesc_any g w; rw [hd] at this; exact this
    clear hr h hd
    go_enter Tryz.func58, Tryz.ntmps58
    go_wp2_with (go_at_call 57; refine (HD _).mono ?_; rintro e w' ⟨rfl, rfl⟩)
    go_ret
    exact ⟨rfl, rfl⟩
theorem rFixed_any (n : Int) (hm : n ≤ 9223372036854775807) (w : World) : Calls Tryz.prog 74 #[.int .i64 n] w fun e w' => e = .returned (.bool (fixB n)) ∧ w = w' := by
  by_cases h1 : n < 0
  · have hr : fixB n = false := decide_eq_false (by omega)
    rw [hr]; clear hr
    go_enter Tryz.func74, Tryz.ntmps74
    go_wp2
    go_ret
    exact ⟨rfl, rfl⟩
  · by_cases h2 : 768 ≤ n
    · have hr : fixB n = false := decide_eq_false (by omega)
      rw [hr]; clear hr
      go_enter Tryz.func74, Tryz.ntmps74
      go_wp2
      go_ret
      exact ⟨rfl, rfl⟩
    · by_cases h3 : n < 64
      · by_cases h4 : n < 43
        · have hr : fixB n = true := decide_eq_true (by omega)
          rw [hr]; clear hr
          go_enter Tryz.func74, Tryz.ntmps74
          go_wp2
          go_ret
          exact ⟨rfl, rfl⟩
        · have hr : fixB n = (n == 63) := by rw [Bool.eq_iff_iff]; unfold fixB; simp only [decide_eq_true_eq, beq_iff_eq]; omega
          rw [hr]; clear hr
          go_enter Tryz.func74, Tryz.ntmps74
          go_wp2
          go_ret
          exact ⟨by simp, rfl⟩
      · have h0 : 0 ≤ n := by omega
        have hr : fixB n = decide (n % 64 < 2) := by rw [Bool.eq_iff_iff]; unfold fixB; simp only [decide_eq_true_eq]; omega
        rw [hr]; clear hr
        go_enter Tryz.func74, Tryz.ntmps74
        go_wp2
        go_ret
        exact ⟨by simp, rfl⟩
theorem rOpnB_yes (k : Nat) (h1 : 1 ≤ k) (h2 : k ≤ 12) (w : World) : Calls Tryz.prog 72 #[.int .i64 (64 * (k : Int))] w fun e w' => e = .returned (.int .i64 (62 * (k : Int) - 42)) ∧ w = w' := by
  have hfin := cntO_mul k h1 h2
  obtain ⟨N, hN⟩ : ∃ N, N = 64 * k := ⟨_, rfl⟩
  have hN1 : N ≤ 768 := by omega
  have hNI : 64 * (k : Int) = (N : Int) := by omega
  have HF : Calls Tryz.prog 69 #[.int .i64 (N : Int)] w fun e w' => e = .returned (.bool true) ∧ w = w' := by
    rw [← hNI]; exact rFormed_yes k h1 h2 w
  rw [← hN] at hfin
  rw [hNI]
  have HFIN := Lib.hid hfin
  clear hN hNI hfin h1 h2
  go_enter Tryz.func72, Tryz.ntmps72
  go_wp2_with (go_at_call 69; refine HF.mono ?_; rintro e w' ⟨rfl, rfl⟩)
  go_loop [3, 9] (fun c i => ∃ j : Nat, j ≤ N ∧ i = .int .i64 j ∧ c = .int .i64 (cntO j)) (fun _ i => N - (intOf i).toNat)
  case atStart => exact ⟨0, by omega, rfl, rfl⟩
  case round =>
    obtain ⟨j, hj, rfl, rfl⟩ := hrel
    have hle := cntO_le j
    by_cases hlt : j < N
    · rcases hfx : fixB (j : Int) with _ | _
      · have hs : cntO (j + 1) = cntO j + 1 := by rw [cntO, if_neg (by simp [hfx])]
        have HX := rFixed_any (j : Int) (by omega) w
        rw [hfx] at HX
        have HS := Lib.hid hs
        clear hs hfx
        go_wp2_with (go_at_call 74; refine HX.mono ?_; rintro e w' ⟨rfl, rfl⟩)
        go_round
        case rel => exact ⟨j + 1, by omega, by go_num, by rw [HS.out]; go_num⟩
        case measure => simp [intOf]; omega
      · have hs : cntO (j + 1) = cntO j := by rw [cntO, if_pos hfx]
        have HX := rFixed_any (j : Int) (by omega) w
        rw [hfx] at HX
        have HS := Lib.hid hs
        clear hs hfx
        go_wp2_with (go_at_call 74; refine HX.mono ?_; rintro e w' ⟨rfl, rfl⟩)
        go_round
        case rel => exact ⟨j + 1, by omega, by go_num, by rw [HS.out]⟩
        case measure => simp [intOf]; omega
    · go_wp2
      go_ret
      obtain rfl : j = N := by omega
      have := HFIN.out
      exact ⟨ret_i (by omega), rfl⟩
theorem rFixed_is (n : Int) (hm : n ≤ 9223372036854775807) (B : Bool) (h : fixB n = B) (w : World) : Calls Tryz.prog 74 #[.int .i64 n] w fun e w' => e = .returned (.bool B) ∧ w = w' := by
  rw [← h]; exact rFixed_any n hm w
def freeJ (O : List (Int × Int)) (j : Nat) : Bool := decide ((O.getD j (0, 0)).1 = 0)
def cntU (O : List (Int × Int)) : Nat → Nat
  | 0 => 0
  | k + 1 => cntU O k + (if fixB (k : Int) = false ∧ freeJ O k = false then 1 else 0)
theorem cntU_le (O : List (Int × Int)) : ∀ k, cntU O k ≤ k
  | 0 => Nat.le_refl _
  | k + 1 => by have := cntU_le O k; unfold cntU; split <;> omega
def findS (O : List (Int × Int)) (L g : Nat) : Int :=
  match (List.range L).find? (fun k => freeJ O ((g + k) % L)) with
  | some k => (((g + k) % L : Nat) : Int)
  | none => -1
theorem findS_hit {O : List (Int × Int)} {L g k : Nat} (hk : k < L) (h : freeJ O ((g + k) % L) = true) (hn : ∀ j, j < k → freeJ O ((g + j) % L) = false) : findS O L g = (((g + k) % L : Nat) : Int) := by
  have e : (List.range L).find? (fun k => freeJ O ((g + k) % L)) = some k := by
    rw [List.find?_eq_some_iff_append]
    refine ⟨h, List.range k, (List.range (L - k - 1)).map (k + 1 + ·), ?_, fun a ha => by simp [hn a (List.mem_range.1 ha)]⟩
    have e1 : L = k + (1 + (L - k - 1)) := by omega
    conv => lhs; rw [e1, List.range_add, List.range_add]
    simp [Nat.add_assoc]
  unfold findS
  rw [e]
theorem findS_none {O : List (Int × Int)} {L g : Nat} (hn : ∀ j, j < L → freeJ O ((g + j) % L) = false) : findS O L g = -1 := by
  have e : (List.range L).find? (fun k => freeJ O ((g + k) % L)) = none := by
    rw [List.find?_eq_none]
    intro x hx
    simp [hn x (List.mem_range.1 hx)]
  unfold findS
  rw [e]
def RSp (w : World) (M : Nat → Prop) (p : Value) (n : Int) (O : List (Int × Int)) : Prop :=
  ∃ b v, p = .pointer (some ⟨b, 0, none⟩) ∧ w.heap[b]? = some (.cells #[.int .i64 n, v] 43 (0, 0)) ∧ OwR w 0 v O ∧ (∀ k, M k ↔ k = b ∨ v.ownBlock = some k)
theorem RSp.lt {w : World} {M : Nat → Prop} {p : Value} {n : Int} {O : List (Int × Int)} (h : RSp w M p n O) {k : Nat} (hk : M k) : k < w.heap.size := by
  obtain ⟨b, v, _, hb, ho, hM⟩ := h
  rcases (hM k).1 hk with rfl | hk
  · exact (Array.getElem?_eq_some_iff.1 hb).1
  · exact (ho.2.lt k hk).2
section
variable {w : World} {M : Nat → Prop} {p : Value} {n : Int} {O : List (Int × Int)}
theorem RSp.cells (h : RSp w M p n O) (h0 : 0 < O.length) : ∃ b g off cap, p = .pointer (some ⟨b, 0, none⟩) ∧ w.cell? ⟨b, 0, none⟩ = some (.int .i64 n) ∧ w.cell? ⟨b, 1, none⟩ = some (.slice (some ⟨g, off, none⟩) O.length cap) ∧
    ∀ j, j < O.length → w.cell? ⟨g, off + j * 2, none⟩ = some (.int .u16 (O.getD j (0, 0)).1) ∧ w.cell? ⟨g, off + j * 2 + 1, none⟩ = some (.int .u16 (O.getD j (0, 0)).2) := by
  obtain ⟨b, v, rfl, hb, ho, _⟩ := h
  obtain ⟨g, off, cap, rfl, _, hc⟩ := ho.sl.at h0
  refine ⟨b, g, off, cap, rfl, ?_, ?_, fun j hj => ?_⟩
  · rw [cell_of_row _ _ _ _ _ _ hb]; rfl
  · rw [cell_of_row _ _ _ _ _ _ hb]; rfl
  · exact hc j hj
theorem rSpUsed_yes (h : RSp w M p n O) {L : Nat} (hf : frmB (L : Int) = true) (hL : L ≤ O.length) (hO : O.length ≤ 100000) (h0 : 0 < L) : Calls Tryz.prog 71 #[p, .int .i64 L] w fun e w' => e = .returned (.tuple #[.int .i64 (cntU O L), .int .i64 0]) ∧ w = w' := by
  have KF := Lib.hid (rFormed_any (L : Int) (by omega) w)
  rw [hf] at KF
  obtain ⟨bp, g, off, cap, rfl, c0, c1, hc⟩ := h.cells (by omega)
  have HC := Lib.hid hc
  have HLE := Lib.hid (cntU_le O)
  have KX := Lib.hid (fun (k : Nat) (hk : k < L) => rFixed_any (k : Int) (by omega) w)
  obtain ⟨m, hm⟩ : ∃ m, m = O.length := ⟨_, rfl⟩
  have HM := Lib.hid hm
  have hmin : min (L : Int) (m : Int) = (L : Int) := by omega
  have HL := Lib.hid hL
  have HO := Lib.hid hO
  rw [← hm] at c1 hL hO
  clear hm hc h hf
  go_enter Tryz.func71, Tryz.ntmps71
  go_wp2_with (go_at_call 69; (with_reducible refine KF.out.mono ?_); rintro e w' ⟨rfl, rfl⟩)
  go_loopw [6, 18] (fun c i wr => wr = w ∧ ∃ k : Nat, i = .int .i64 k ∧ c = .int .i64 (cntU O k) ∧ k ≤ L) (fun c i _ => L - (intOf i).toNat)
  case atStart => exact ⟨rfl, 0, rfl, rfl, Nat.zero_le _⟩
  case round =>
    obtain ⟨rfl, k, rfl, rfl, hkL⟩ := hrel
    by_cases hlt : k < L
    · have ek : (k : Int) < (L : Int) := by omega
      obtain ⟨d0, d1⟩ := HC.out k (by have := HL.out; omega)
      have KX1 := Lib.hid (KX.out k hlt)
      have hck := HLE.out k
      have HS : Hid (cntU O (k + 1) = cntU O k + (if fixB (k : Int) = false ∧ freeJ O k = false then 1 else 0)) := Lib.hid rfl
      obtain ⟨c, hcc⟩ : ∃ c, c = cntU O k := ⟨_, rfl⟩
      rw [← hcc] at HS hck ⊢
      obtain ⟨x, hx⟩ : ∃ x, x = (O.getD k (0, 0)).1 := ⟨_, rfl⟩
      have HF : Hid (freeJ O k = decide (x = 0)) := Lib.hid (by unfold freeJ; rw [hx])
      rw [← hx] at d0
      rw [HF.out] at HS
      clear hcc hx HF
      cases hfx : fixB (k : Int)
      · rw [hfx] at KX1 HS
        by_cases hfr : x = 0
        · subst hfr
          have HS2 : Hid (cntU O (k + 1) = c) := Lib.hid (by rw [HS.out]; simp)
          clear HS hfx
          go_wp2_with (go_at_call 74; (with_reducible refine KX1.out.mono ?_); rintro e w' ⟨rfl, rfl⟩)
          go_roundw
          case rel => exact ⟨trivial, k + 1, by go_num, by rw [HS2.out], by omega⟩
          case measure => simp [intOf]; omega
        · have e1 : (x != 0) = true := by simp [hfr]
          have HS2 : Hid (cntU O (k + 1) = c + 1) := Lib.hid (by rw [HS.out]; simp [hfr])
          clear HS hfx
          go_wp2_with (go_at_call 74; (with_reducible refine KX1.out.mono ?_); rintro e w' ⟨rfl, rfl⟩)
          go_roundw
          case rel => exact ⟨trivial, k + 1, by go_num, by rw [HS2.out]; go_num, by omega⟩
          case measure => simp [intOf]; omega
      · rw [hfx] at KX1 HS
        have HS2 : Hid (cntU O (k + 1) = c) := Lib.hid (by rw [HS.out]; simp)
        clear HS hfx
        go_wp2_with (go_at_call 74; (with_reducible refine KX1.out.mono ?_); rintro e w' ⟨rfl, rfl⟩)
        go_roundw
        case rel => exact ⟨trivial, k + 1, by go_num, by rw [HS2.out], by omega⟩
        case measure => simp [intOf]; omega
    · obtain rfl : k = L := by omega
      go_wp2
      go_ret2
      exact ⟨rfl, rfl⟩
end
end Go.Proofs.YtekeoljfdnfbgaaGreat
