/- Contracts of package geom: each call computes the plain function, and leaves memory as it was. -/
import Derived.Test.YtflkggoknmgbnaaGeomM
namespace Go.Proofs.Ytflkggoknmgbnaa
open Go.RowKit
set_option linter.unusedVariables false

theorem gGroup_any (n : Int) (hm : n ≤ 9223372036854775807) (w : World) : Calls Try.prog 56 #[.int .i64 n] w fun e w' => e = .returned (.int .i64 (grpI n)) ∧ w = w' := by
  by_cases h : n < 0
  · have hr : grpI n = -1 := if_pos h
    rw [hr]; clear hr
    go_enter Try.func56, Try.ntmps56
    go_wp2
    go_ret
    exact ⟨rfl, rfl⟩
  · have hr : grpI n = n / 64 := if_neg h
    rw [hr]; clear hr
    have h0 : 0 ≤ n := by omega
    go_enter Try.func56, Try.ntmps56
    go_wp2
    go_ret
    exact ⟨rfl, rfl⟩
theorem gPossible_yes (g : Int) (h1 : 0 ≤ g) (h2 : g < 12) (w : World) : Calls Try.prog 57 #[.int .i64 g] w fun e w' => e = .returned (.bool true) ∧ w = w' := by
  go_enter Try.func57, Try.ntmps57
  go_wp2
  go_ret
  exact ⟨rfl, rfl⟩
theorem gPossible_no (g : Int) (h : ¬ (0 ≤ g ∧ g < 12)) (w : World) : Calls Try.prog 57 #[.int .i64 g] w fun e w' => e = .returned (.bool false) ∧ w = w' := by
  by_cases h0 : 0 ≤ g
  · have h1 : ¬ g < 12 := fun h2 => h ⟨h0, h2⟩
    go_enter Try.func57, Try.ntmps57
    go_wp2
    go_ret
    exact ⟨rfl, rfl⟩
  · go_enter Try.func57, Try.ntmps57
    go_wp2
    go_ret
    exact ⟨rfl, rfl⟩
theorem gDesc_any (g : Int) (w : World) : Calls Try.prog 58 #[.int .i64 g] w fun e w' => e = .returned (.int .i64 (dscI g)) ∧ w = w' := by
  by_cases h : 0 ≤ g ∧ g < 12
  · obtain ⟨h1, h2⟩ := h
    by_cases h3 : g = 0
    · subst h3
      rw [show dscI 0 = 1 from rfl]
      go_enter Try.func58, Try.ntmps58
      go_wp2_with (go_at_call 57; refine (gPossible_yes 0 (by decide) (by decide) _).mono ?_; rintro e w' ⟨rfl, rfl⟩)
      go_ret
      exact ⟨rfl, rfl⟩
    · have hr : dscI g = g * 64 := by unfold dscI; rw [if_pos ⟨h1, h2⟩, if_neg h3]
      rw [hr]
      have h3' : (g == 0) = false := by simp [h3]
      clear hr h3
      go_enter Try.func58, Try.ntmps58
      go_wp2_with (go_at_call 57; refine (gPossible_yes g h1 h2 _).mono ?_; rintro e w' ⟨rfl, rfl⟩)
      go_ret
      exact ⟨rfl, rfl⟩
  · have hr : dscI g = -1 := if_neg h
    rw [hr]
    have H := Lib.hid h
    clear hr h
    go_enter Try.func58, Try.ntmps58
    go_wp2_with (go_at_call 57; refine (gPossible_no g H.out _).mono ?_; rintro e w' ⟨rfl, rfl⟩)
    go_ret
    exact ⟨rfl, rfl⟩
theorem dsc_bd (g : Int) (h1 : 0 ≤ g) (h2 : g < 12) : 0 ≤ dscI g ∧ dscI g ≤ 704 := by
  unfold dscI; rw [if_pos ⟨h1, h2⟩]; split <;> omega
theorem gOwners_any (g : Int) (w : World) : Calls Try.prog 59 #[.int .i64 g] w fun e w' => e = .returned (.int .i64 (ownI g)) ∧ w = w' := by
  by_cases h : 0 ≤ g ∧ g < 12
  · have hr : ownI g = dscI g + 1 := if_pos h
    rw [hr]
    obtain ⟨h1, h2⟩ := h
    obtain ⟨d1, d2⟩ := dsc_bd g h1 h2
    clear hr
    go_enter Try.func59, Try.ntmps59
    go_wp2_with (first
      | (go_at_call 57; refine (gPossible_yes g h1 h2 _).mono ?_; rintro e w' ⟨rfl, rfl⟩)
      | (go_at_call 58; refine (gDesc_any g _).mono ?_; rintro e w' ⟨rfl, rfl⟩))
    go_ret
    exact ⟨rfl, rfl⟩
  · have hr : ownI g = -1 := if_neg h
    rw [hr]
    have H := Lib.hid h
    clear hr h
    go_enter Try.func59, Try.ntmps59
    go_wp2_with (go_at_call 57; refine (gPossible_no g H.out _).mono ?_; rintro e w' ⟨rfl, rfl⟩)
    go_ret
    exact ⟨rfl, rfl⟩
theorem gCopy_any (w : World) : Calls Try.prog 61 #[] w fun e w' => e = .returned (.int .i64 63) ∧ w = w' := by
  go_enter Try.func61, Try.ntmps61
  go_wp2
  go_ret
  exact ⟨rfl, rfl⟩
def jrnB (n : Int) : Bool := decide (3 ≤ n ∧ n < 43)
theorem gJournal_any (n : Int) (w : World) : Calls Try.prog 60 #[.int .i64 n] w fun e w' => e = .returned (.bool (jrnB n)) ∧ w = w' := by
  by_cases h0 : 3 ≤ n
  · by_cases h1 : n < 43
    · rw [show jrnB n = true from decide_eq_true ⟨h0, h1⟩]
      go_enter Try.func60, Try.ntmps60
      go_wp2
      go_ret
      exact ⟨rfl, rfl⟩
    · rw [show jrnB n = false from decide_eq_false (by omega)]
      go_enter Try.func60, Try.ntmps60
      go_wp2
      go_ret
      exact ⟨rfl, rfl⟩
  · rw [show jrnB n = false from decide_eq_false (by omega)]
    go_enter Try.func60, Try.ntmps60
    go_wp2
    go_ret
    exact ⟨rfl, rfl⟩
theorem opn_mk (k : Nat) (h1 : 1 ≤ k) (h2 : k ≤ 12) : opnI (64 * (k : Int)) = 62 * (k : Int) - 42 := by
  unfold opnI; rw [if_pos (frm_mk k h1 h2)]; omega
theorem rom_mk (k : Nat) (h1 : 1 ≤ k) (h2 : k ≤ 12) : romI (64 * (k : Int)) = 62 * (k : Int) - 48 := by
  unfold romI; rw [if_pos (frm_mk k h1 h2)]; omega
/-- Fixed: out of all groups; else the four tests decide. -/
theorem gFixed_no (n : Int) (hm : n ≤ 9223372036854775807) (h : ¬ (0 ≤ grpI n ∧ grpI n < 12)) (w : World) : Calls Try.prog 44 #[.int .i64 n] w fun e w' => e = .returned (.bool (fixB n)) ∧ w = w' := by
  have hr : fixB n = false := by
    unfold fixB; refine decide_eq_false ?_
    unfold grpI at h; split at h <;> omega
  rw [hr]
  have H := Lib.hid h
  clear hr h
  go_enter Try.func44, Try.ntmps44
  go_wp2_with (first
    | (go_at_call 56; refine (gGroup_any n hm _).mono ?_; rintro e w' ⟨rfl, rfl⟩)
    | (go_at_call 57; refine (gPossible_no _ H.out _).mono ?_; rintro e w' ⟨rfl, rfl⟩))
  go_ret
  exact ⟨rfl, rfl⟩
theorem fix_is (n : Int) (h1 : 0 ≤ grpI n) (h2 : grpI n < 12) : fixB n = (((((n == 0) || (n == dscI (grpI n))) || (n == ownI (grpI n))) || jrnB n) || (n == 63)) := by
  have hn : 0 ≤ n := by unfold grpI at h1; split at h1 <;> omega
  have hg : grpI n = n / 64 := by unfold grpI; rw [if_neg (by omega)]
  rw [hg] at h1 h2 ⊢
  rw [Bool.eq_iff_iff]
  unfold fixB jrnB ownI dscI
  have hc : 0 ≤ n / 64 ∧ n / 64 < 12 := ⟨h1, h2⟩
  simp only [if_pos hc, decide_eq_true_eq, Bool.or_eq_true, beq_iff_eq]
  by_cases h0 : n / 64 = 0
  · simp only [if_pos h0]; omega
  · simp only [if_neg h0]; omega
theorem gFixed_yes (n : Int) (hm : n ≤ 9223372036854775807) (h1 : 0 ≤ grpI n) (h2 : grpI n < 12) (w : World) : Calls Try.prog 44 #[.int .i64 n] w fun e w' => e = .returned (.bool (fixB n)) ∧ w = w' := by
  rw [fix_is n h1 h2]
  obtain ⟨G, hG⟩ : ∃ G, G = grpI n := ⟨_, rfl⟩
  have HGG : Calls Try.prog 56 #[.int .i64 n] w fun e w' => e = .returned (.int .i64 G) ∧ w = w' := by rw [hG]; exact gGroup_any n hm w
  rw [← hG] at h1 h2 ⊢
  clear hG
  obtain ⟨D, hD⟩ : ∃ D, D = dscI G := ⟨_, rfl⟩
  have HDD : Calls Try.prog 58 #[.int .i64 G] w fun e w' => e = .returned (.int .i64 D) ∧ w = w' := by rw [hD]; exact gDesc_any G w
  rw [← hD]
  clear hD
  obtain ⟨O, hO⟩ : ∃ O, O = ownI G := ⟨_, rfl⟩
  have HOO : Calls Try.prog 59 #[.int .i64 G] w fun e w' => e = .returned (.int .i64 O) ∧ w = w' := by rw [hO]; exact gOwners_any G w
  rw [← hO]
  clear hO
  obtain ⟨J, hJ⟩ : ∃ J, J = jrnB n := ⟨_, rfl⟩
  have HJJ : Calls Try.prog 60 #[.int .i64 n] w fun e w' => e = .returned (.bool J) ∧ w = w' := by rw [hJ]; exact gJournal_any n w
  rw [← hJ]
  clear hJ
  rcases hb0 : (n == 0) with _ | _
  · rcases hb1 : (n == D) with _ | _
    · rcases hb2 : (n == O) with _ | _
      · cases J
        · go_enter Try.func44, Try.ntmps44
          go_wp2_with (first
            | (go_at_call 56; refine HGG.mono ?_; rintro e w' ⟨rfl, rfl⟩)
            | (go_at_call 57; refine (gPossible_yes G h1 h2 _).mono ?_; rintro e w' ⟨rfl, rfl⟩)
            | (go_at_call 58; refine HDD.mono ?_; rintro e w' ⟨rfl, rfl⟩)
            | (go_at_call 59; refine HOO.mono ?_; rintro e w' ⟨rfl, rfl⟩)
            | (go_at_call 60; refine HJJ.mono ?_; rintro e w' ⟨rfl, rfl⟩)
            | (go_at_call 61; refine (gCopy_any _).mono ?_; rintro e w' ⟨rfl, rfl⟩))
          go_ret
          exact ⟨by simp, rfl⟩
        · go_enter Try.func44, Try.ntmps44
          go_wp2_with (first
            | (go_at_call 56; refine HGG.mono ?_; rintro e w' ⟨rfl, rfl⟩)
            | (go_at_call 57; refine (gPossible_yes G h1 h2 _).mono ?_; rintro e w' ⟨rfl, rfl⟩)
            | (go_at_call 58; refine HDD.mono ?_; rintro e w' ⟨rfl, rfl⟩)
            | (go_at_call 59; refine HOO.mono ?_; rintro e w' ⟨rfl, rfl⟩)
            | (go_at_call 60; refine HJJ.mono ?_; rintro e w' ⟨rfl, rfl⟩))
          go_ret
          exact ⟨rfl, rfl⟩
      · go_enter Try.func44, Try.ntmps44
        go_wp2_with (first
          | (go_at_call 56; refine HGG.mono ?_; rintro e w' ⟨rfl, rfl⟩)
          | (go_at_call 57; refine (gPossible_yes G h1 h2 _).mono ?_; rintro e w' ⟨rfl, rfl⟩)
          | (go_at_call 58; refine HDD.mono ?_; rintro e w' ⟨rfl, rfl⟩)
          | (go_at_call 59; refine HOO.mono ?_; rintro e w' ⟨rfl, rfl⟩))
        go_ret
        exact ⟨rfl, rfl⟩
    · go_enter Try.func44, Try.ntmps44
      go_wp2_with (first
        | (go_at_call 56; refine HGG.mono ?_; rintro e w' ⟨rfl, rfl⟩)
        | (go_at_call 57; refine (gPossible_yes G h1 h2 _).mono ?_; rintro e w' ⟨rfl, rfl⟩)
        | (go_at_call 58; refine HDD.mono ?_; rintro e w' ⟨rfl, rfl⟩))
      go_ret
      exact ⟨rfl, rfl⟩
  · go_enter Try.func44, Try.ntmps44
    go_wp2_with (first
      | (go_at_call 56; refine HGG.mono ?_; rintro e w' ⟨rfl, rfl⟩)
      | (go_at_call 57; refine (gPossible_yes G h1 h2 _).mono ?_; rintro e w' ⟨rfl, rfl⟩))
    go_ret
    exact ⟨rfl, rfl⟩
theorem gFixed_any (n : Int) (hm : n ≤ 9223372036854775807) (w : World) : Calls Try.prog 44 #[.int .i64 n] w fun e w' => e = .returned (.bool (fixB n)) ∧ w = w' := by
  by_cases h : 0 ≤ grpI n ∧ grpI n < 12
  · exact gFixed_yes n hm h.1 h.2 w
  · exact gFixed_no n hm h w
theorem gFixed_is (n : Int) (hm : n ≤ 9223372036854775807) (B : Bool) (h : fixB n = B) (w : World) : Calls Try.prog 44 #[.int .i64 n] w fun e w' => e = .returned (.bool B) ∧ w = w' := by
  rw [← h]; exact gFixed_any n hm w

end Go.Proofs.Ytflkggoknmgbnaa
