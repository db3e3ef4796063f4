/- Contracts of the reference's layout: the same plain functions. -/
import Derived.Test.YtnpngbnpaengmaaGeomA
namespace Go.Proofs.Ytnpngbnpaengmaa
open Go.RowKit
set_option linter.unusedVariables false

theorem rFormed_any (b : Int) (hm : b ≤ 9223372036854775807) (w : World) : Calls Try.prog 7 #[.int .i64 b] w fun e w' => e = .returned (.bool (frmB b)) ∧ w = w' := by
  by_cases h1 : 64 ≤ b
  · by_cases h3 : b ≤ 768
    · have h0 : 0 ≤ b := by omega
      by_cases h2 : b % 64 = 0
      · have hr : frmB b = true := decide_eq_true (by omega)
        rw [hr]
        have h2' : (b % 64 == 0) = true := by simp [h2]
        clear hr h2
        go_enter Try.func7, Try.ntmps7
        go_wp2
        go_ret
        exact ⟨rfl, rfl⟩
      · have hr : frmB b = false := decide_eq_false (by omega)
        rw [hr]
        have h2' : (b % 64 == 0) = false := by simp [h2]
        clear hr h2
        go_enter Try.func7, Try.ntmps7
        go_wp2
        go_ret
        exact ⟨rfl, rfl⟩
    · have hr : frmB b = false := decide_eq_false (by omega)
      rw [hr]
      clear hr
      go_enter Try.func7, Try.ntmps7
      go_wp2
      go_ret
      exact ⟨rfl, rfl⟩
  · have hr : frmB b = false := decide_eq_false (by omega)
    rw [hr]
    clear hr
    go_enter Try.func7, Try.ntmps7
    go_wp2
    go_ret
    exact ⟨rfl, rfl⟩
theorem rFormed_yes (k : Nat) (h1 : 1 ≤ k) (h2 : k ≤ 12) (w : World) : Calls Try.prog 7 #[.int .i64 (64 * (k : Int))] w fun e w' => e = .returned (.bool true) ∧ w = w' := by
  have := rFormed_any (64 * (k : Int)) (by omega) w
  rw [frm_mk k h1 h2] at this; exact this
theorem rFormed_no (b : Int) (hm : b ≤ 9223372036854775807) (h : frmB b = false) (w : World) : Calls Try.prog 7 #[.int .i64 b] w fun e w' => e = .returned (.bool false) ∧ w = w' := by
  have := rFormed_any b hm w
  rw [h] at this; exact this
theorem rGroups_any (b : Int) (hm : b ≤ 9223372036854775807) (w : World) : Calls Try.prog 9 #[.int .i64 b] w fun e w' => e = .returned (.int .i64 (grsI b)) ∧ w = w' := by
  cases hb : frmB b
  · have hr : grsI b = 0 := by unfold grsI; rw [if_neg (by simp [hb])]
    rw [hr]
    have HB := Lib.hid hb
    clear hb hr
    go_enter Try.func9, Try.ntmps9
    go_wp2_with (go_at_call 7; refine (rFormed_no b hm HB.out _).mono ?_; rintro e w' ⟨rfl, rfl⟩)
    go_ret
    exact ⟨rfl, rfl⟩
  · obtain ⟨k, h1, h2, rfl⟩ := frm_yes hb
    have hr : grsI (64 * (k : Int)) = k := by unfold grsI; rw [if_pos hb]; omega
    rw [hr]
    clear hr hb hm
    go_enter Try.func9, Try.ntmps9
    go_wp2_with (go_at_call 7; refine (rFormed_yes k h1 h2 _).mono ?_; rintro e w' ⟨rfl, rfl⟩)
    go_ret
    exact ⟨ret_i (by omega), rfl⟩
theorem rGroup_any (n : Int) (hm : n ≤ 9223372036854775807) (w : World) : Calls Try.prog 15 #[.int .i64 n] w fun e w' => e = .returned (.int .i64 (grpI n)) ∧ w = w' := by
  by_cases h : n < 0
  · have hr : grpI n = -1 := if_pos h
    rw [hr]; clear hr
    go_enter Try.func15, Try.ntmps15
    go_wp2
    go_ret
    exact ⟨rfl, rfl⟩
  · have hr : grpI n = n / 64 := if_neg h
    rw [hr]; clear hr
    have h0 : 0 ≤ n := by omega
    go_enter Try.func15, Try.ntmps15
    go_wp2
    go_ret
    exact ⟨rfl, rfl⟩
theorem rDesc_any (g : Int) (w : World) : Calls Try.prog 19 #[.int .i64 g] w fun e w' => e = .returned (.int .i64 (dscI g)) ∧ w = w' := by
  by_cases h1 : g < 0
  · have hr : dscI g = -1 := if_neg (by omega)
    rw [hr]; clear hr
    go_enter Try.func19, Try.ntmps19
    go_wp2
    go_ret
    exact ⟨rfl, rfl⟩
  · by_cases h2 : 11 < g
    · have hr : dscI g = -1 := if_neg (by omega)
      rw [hr]; clear hr
      go_enter Try.func19, Try.ntmps19
      go_wp2
      go_ret
      exact ⟨rfl, rfl⟩
    · by_cases h3 : g = 0
      · subst h3
        rw [show dscI 0 = 1 from rfl]
        clear h1 h2
        go_enter Try.func19, Try.ntmps19
        go_wp2
        go_ret
        exact ⟨rfl, rfl⟩
      · have hr : dscI g = g * 64 := by unfold dscI; rw [if_pos ⟨by omega, by omega⟩, if_neg h3]
        rw [hr]
        have h3' : (g == 0) = false := by simp [h3]
        have h4 : 0 ≤ g := by omega
        have h5 : g ≤ 11 := by omega
        clear hr h3
        go_enter Try.func19, Try.ntmps19
        go_wp2
        go_ret
        exact ⟨ret_i (by omega), rfl⟩
theorem rOwners_any (g : Int) (w : World) : Calls Try.prog 21 #[.int .i64 g] w fun e w' => e = .returned (.int .i64 (ownI g)) ∧ w = w' := by
  by_cases h : 0 ≤ g ∧ g < 12
  · have hr : ownI g = dscI g + 1 := if_pos h
    rw [hr]
    obtain ⟨h1, h2⟩ := h
    obtain ⟨d1, d2⟩ := dsc_bd g h1 h2
    clear hr
    go_enter Try.func21, Try.ntmps21
    go_wp2_with (go_at_call 19; refine (rDesc_any g _).mono ?_; rintro e w' ⟨rfl, rfl⟩)
    go_ret
    exact ⟨rfl, rfl⟩
  · have hr : ownI g = -1 := if_neg h
    have hd : dscI g = -1 := if_neg h
    rw [hr]
    have HD : ∀ w, Calls Try.prog 19 #[.int .i64 g] w fun e w' => e = .returned (.int .i64 (-1)) ∧ w = w' := fun w => by
      have := rDesc_any g w; rw [hd] at this; exact this
    clear hr h hd
    go_enter Try.func21, Try.ntmps21
    go_wp2_with (go_at_call 19; refine (HD _).mono ?_; rintro e w' ⟨rfl, rfl⟩)
    go_ret
    exact ⟨rfl, rfl⟩
theorem rFixed_any (n : Int) (hm : n ≤ 9223372036854775807) (w : World) : Calls Try.prog 17 #[.int .i64 n] w fun e w' => e = .returned (.bool (fixB n)) ∧ w = w' := by
  by_cases h1 : n < 0
  · have hr : fixB n = false := decide_eq_false (by omega)
    rw [hr]; clear hr
    go_enter Try.func17, Try.ntmps17
    go_wp2
    go_ret
    exact ⟨rfl, rfl⟩
  · by_cases h2 : 768 ≤ n
    · have hr : fixB n = false := decide_eq_false (by omega)
      rw [hr]; clear hr
      go_enter Try.func17, Try.ntmps17
      go_wp2
      go_ret
      exact ⟨rfl, rfl⟩
    · by_cases h3 : n < 64
      · by_cases h4 : n < 43
        · have hr : fixB n = true := decide_eq_true (by omega)
          rw [hr]; clear hr
          go_enter Try.func17, Try.ntmps17
          go_wp2
          go_ret
          exact ⟨rfl, rfl⟩
        · have hr : fixB n = (n == 63) := by rw [Bool.eq_iff_iff]; unfold fixB; simp only [decide_eq_true_eq, beq_iff_eq]; omega
          rw [hr]; clear hr
          go_enter Try.func17, Try.ntmps17
          go_wp2
          go_ret
          exact ⟨by simp, rfl⟩
      · have h0 : 0 ≤ n := by omega
        have hr : fixB n = decide (n % 64 < 2) := by rw [Bool.eq_iff_iff]; unfold fixB; simp only [decide_eq_true_eq]; omega
        rw [hr]; clear hr
        go_enter Try.func17, Try.ntmps17
        go_wp2
        go_ret
        exact ⟨by simp, rfl⟩
theorem rOpen_no (b : Int) (hm : b ≤ 9223372036854775807) (hb : frmB b = false) (w : World) : Calls Try.prog 11 #[.int .i64 b] w fun e w' => e = .returned (.int .i64 0) ∧ w = w' := by
  have HB := Lib.hid hb
  clear hb
  go_enter Try.func11, Try.ntmps11
  go_wp2_with (go_at_call 7; refine (rFormed_no b hm HB.out _).mono ?_; rintro e w' ⟨rfl, rfl⟩)
  go_ret
  exact ⟨rfl, rfl⟩
theorem rOpen_yes (k : Nat) (h1 : 1 ≤ k) (h2 : k ≤ 12) (w : World) : Calls Try.prog 11 #[.int .i64 (64 * (k : Int))] w fun e w' => e = .returned (.int .i64 (62 * (k : Int) - 42)) ∧ w = w' := by
  have hfin := cntO_mul k h1 h2
  obtain ⟨N, hN⟩ : ∃ N, N = 64 * k := ⟨_, rfl⟩
  have hN1 : N ≤ 768 := by omega
  have hNI : 64 * (k : Int) = (N : Int) := by omega
  have HF : Calls Try.prog 7 #[.int .i64 (N : Int)] w fun e w' => e = .returned (.bool true) ∧ w = w' := by
    rw [← hNI]; exact rFormed_yes k h1 h2 w
  rw [← hN] at hfin
  rw [hNI]
  have HFIN := Lib.hid hfin
  clear hN hNI hfin h1 h2
  go_enter Try.func11, Try.ntmps11
  go_wp2_with (go_at_call 7; refine HF.mono ?_; rintro e w' ⟨rfl, rfl⟩)
  go_loop [3, 9] (fun c i => ∃ j : Nat, j ≤ N ∧ i = .int .i64 j ∧ c = .int .i64 (cntO j)) (fun _ i => N - (intOf i).toNat)
  case atStart => exact ⟨0, by omega, rfl, rfl⟩
  case round =>
    obtain ⟨j, hj, rfl, rfl⟩ := hrel
    have hle := cntO_le j
    by_cases hlt : j < N
    · rcases hfx : fixB (j : Int) with _ | _
      · have hs : cntO (j + 1) = cntO j + 1 := by rw [cntO, if_neg (by simp [hfx])]
        have HX := rFixed_any (j : Int) (by omega) w
        rw [hfx] at HX
        have HS := Lib.hid hs
        clear hs hfx
        go_wp2_with (go_at_call 17; refine HX.mono ?_; rintro e w' ⟨rfl, rfl⟩)
        go_round
        case rel => exact ⟨j + 1, by omega, by go_num, by rw [HS.out]; go_num⟩
        case measure => simp [intOf]; omega
      · have hs : cntO (j + 1) = cntO j := by rw [cntO, if_pos hfx]
        have HX := rFixed_any (j : Int) (by omega) w
        rw [hfx] at HX
        have HS := Lib.hid hs
        clear hs hfx
        go_wp2_with (go_at_call 17; refine HX.mono ?_; rintro e w' ⟨rfl, rfl⟩)
        go_round
        case rel => exact ⟨j + 1, by omega, by go_num, by rw [HS.out]⟩
        case measure => simp [intOf]; omega
    · go_wp2
      go_ret
      obtain rfl : j = N := by omega
      have := HFIN.out
      exact ⟨ret_i (by omega), rfl⟩
theorem rOpen_any (b : Int) (hm : b ≤ 9223372036854775807) (w : World) : Calls Try.prog 11 #[.int .i64 b] w fun e w' => e = .returned (.int .i64 (opnI b)) ∧ w = w' := by
  cases hb : frmB b
  · have hr : opnI b = 0 := by unfold opnI; rw [if_neg (by simp [hb])]
    rw [hr]
    exact rOpen_no b hm hb w
  · obtain ⟨k, h1, h2, rfl⟩ := frm_yes hb
    rw [opn_mk k h1 h2]
    exact rOpen_yes k h1 h2 w
theorem rRoom_any (b : Int) (hm : b ≤ 9223372036854775807) (w : World) : Calls Try.prog 13 #[.int .i64 b] w fun e w' => e = .returned (.int .i64 (romI b)) ∧ w = w' := by
  cases hb : frmB b
  · have hr : romI b = 0 := by unfold romI; rw [if_neg (by simp [hb])]
    rw [hr]
    have HO := rOpen_no b hm hb w
    clear hb hr
    go_enter Try.func13, Try.ntmps13
    go_wp2_with (go_at_call 11; refine HO.mono ?_; rintro e w' ⟨rfl, rfl⟩)
    go_ret
    exact ⟨rfl, rfl⟩
  · obtain ⟨k, h1, h2, rfl⟩ := frm_yes hb
    rw [rom_mk k h1 h2]
    have HO := rOpen_yes k h1 h2 w
    clear hb hm
    go_enter Try.func13, Try.ntmps13
    go_wp2_with (go_at_call 11; refine HO.mono ?_; rintro e w' ⟨rfl, rfl⟩)
    go_ret
    exact ⟨ret_i (by omega), rfl⟩
end Go.Proofs.Ytnpngbnpaengmaa
