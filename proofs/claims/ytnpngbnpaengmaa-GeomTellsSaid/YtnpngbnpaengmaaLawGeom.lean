/- Layer 4's laws: awake, GeomTells, GeomParts. -/
import Derived.Test.YtnpngbnpaengmaaGeomR
namespace Go.Proofs.Ytnpngbnpaengmaa
open Go.RowKit
set_option linter.unusedVariables false

theorem awake4_any (w : World) : Calls Try.prog 5 #[] w fun e w' => e = .returned (.bool true) ∧ w = w' := by
  have HF : Calls Try.prog 6 #[.int .i64 64] w fun e w' => e = .returned (.bool true) ∧ w = w' := gFormed_yes 1 (by decide) (by decide) w
  have HO : Calls Try.prog 10 #[.int .i64 64] w fun e w' => e = .returned (.int .i64 20) ∧ w = w' := gOpen_yes 1 (by decide) (by decide) w
  go_enter Try.func5, Try.ntmps5
  go_wp2_with (first
    | (go_at_call 6; refine HF.mono ?_; rintro e w' ⟨rfl, rfl⟩)
    | (go_at_call 10; refine HO.mono ?_; rintro e w' ⟨rfl, rfl⟩)
    | (go_at_call 22; refine (gCopy_any _).mono ?_; rintro e w' ⟨rfl, rfl⟩))
  go_ret
  exact ⟨rfl, rfl⟩

theorem lTells_any (b n g : Int) (hb : b ≤ 9223372036854775807) (hn : n ≤ 9223372036854775807) (w : World) :
    Calls Try.prog 3 #[.int .i64 b, .int .i64 n, .int .i64 g] w fun e w' => e = .returned (.bool true) ∧ w = w' := by
  have a1 := gFormed_any b hb w
  have a2 := rFormed_any b hb w
  have b1 := gGroups_any b hb w
  have b2 := rGroups_any b hb w
  have c1 := gOpen_any b hb w
  have c2 := rOpen_any b hb w
  have d1 := gRoom_any b hb w
  have d2 := rRoom_any b hb w
  have e1 := gGroup_any n hn w
  have e2 := rGroup_any n hn w
  have f1 := gFixed_any n hn w
  have f2 := rFixed_any n hn w
  have g1 := gDesc_any g w
  have g2 := rDesc_any g w
  have o1 := gOwners_any g w
  have o2 := rOwners_any g w
  generalize frmB b = B at a1 a2
  generalize grsI b = C at b1 b2
  generalize opnI b = D at c1 c2
  generalize romI b = E at d1 d2
  generalize grpI n = F at e1 e2
  generalize fixB n = G at f1 f2
  generalize dscI g = H at g1 g2
  generalize ownI g = I at o1 o2
  clear hb hn
  go_enter Try.func3, Try.ntmps3
  go_wp2_with (first
    | (go_at_call 5; refine (awake4_any _).mono ?_; rintro e w' ⟨rfl, rfl⟩)
    | (go_at_call 6; refine a1.mono ?_; rintro e w' ⟨rfl, rfl⟩)
    | (go_at_call 7; refine a2.mono ?_; rintro e w' ⟨rfl, rfl⟩)
    | (go_at_call 8; refine b1.mono ?_; rintro e w' ⟨rfl, rfl⟩)
    | (go_at_call 9; refine b2.mono ?_; rintro e w' ⟨rfl, rfl⟩)
    | (go_at_call 10; refine c1.mono ?_; rintro e w' ⟨rfl, rfl⟩)
    | (go_at_call 11; refine c2.mono ?_; rintro e w' ⟨rfl, rfl⟩)
    | (go_at_call 12; refine d1.mono ?_; rintro e w' ⟨rfl, rfl⟩)
    | (go_at_call 13; refine d2.mono ?_; rintro e w' ⟨rfl, rfl⟩)
    | (go_at_call 14; refine e1.mono ?_; rintro e w' ⟨rfl, rfl⟩)
    | (go_at_call 15; refine e2.mono ?_; rintro e w' ⟨rfl, rfl⟩)
    | (go_at_call 16; refine f1.mono ?_; rintro e w' ⟨rfl, rfl⟩)
    | (go_at_call 17; refine f2.mono ?_; rintro e w' ⟨rfl, rfl⟩)
    | (go_at_call 18; refine g1.mono ?_; rintro e w' ⟨rfl, rfl⟩)
    | (go_at_call 19; refine g2.mono ?_; rintro e w' ⟨rfl, rfl⟩)
    | (go_at_call 20; refine o1.mono ?_; rintro e w' ⟨rfl, rfl⟩)
    | (go_at_call 21; refine o2.mono ?_; rintro e w' ⟨rfl, rfl⟩))
  go_ret
  exact ⟨rfl, rfl⟩

/-- What the second loop's tests ask of a group. -/
theorem part_facts (j k : Nat) (h1 : j < k) (h2 : k ≤ 12) : (dscI (j : Int) == ownI (j : Int)) = false ∧ fixB (dscI (j : Int)) = true ∧ fixB (ownI (j : Int)) = true ∧ grpI (dscI (j : Int)) = (j : Int) ∧ grpI (ownI (j : Int)) = (j : Int) ∧ dscI (j : Int) ≤ 768 ∧ ownI (j : Int) ≤ 768 := by
  have hc : 0 ≤ (j : Int) ∧ (j : Int) < 12 := by omega
  unfold ownI fixB grpI dscI
  simp only [if_pos hc, beq_eq_false_iff_ne, ne_eq, decide_eq_true_eq]
  by_cases h0 : (j : Int) = 0
  · simp only [if_pos h0]; omega
  · simp only [if_neg h0]; refine ⟨by omega, by omega, by omega, ?_, ?_, by omega, by omega⟩ <;> (rw [if_neg (by omega)]; omega)

theorem lParts_any (x : Int) (hx0 : 0 ≤ x) (hx : x ≤ 255) (w : World) :
    Calls Try.prog 4 #[.int .u8 x] w fun e w' => e = .returned (.bool true) ∧ w = w' := by
  obtain ⟨k, hk⟩ : ∃ k : Nat, (k : Int) = 1 + x % 12 := ⟨(1 + x % 12).toNat, by omega⟩
  have hk1 : 1 ≤ k := by omega
  have hk2 : k ≤ 12 := by omega
  have hfin := cntO_mul k hk1 hk2
  have hall := cnt_all (64 * k)
  have hxx : 1 + x % 12 = (k : Int) := hk.symm
  have HXX := Lib.hid hxx
  clear hk
  have g1 := gGroups_yes k hk1 hk2 w
  have g2 := gOpen_yes k hk1 hk2 w
  have g3 := gRoom_yes k hk1 hk2 w
  have g4 : Calls Try.prog 16 #[.int .i64 63] w fun e w' => e = .returned (.bool true) ∧ w = w' := gFixed_any 63 (by decide) w
  have g5 : Calls Try.prog 16 #[.int .i64 0] w fun e w' => e = .returned (.bool true) ∧ w = w' := gFixed_any 0 (by decide) w
  have HFIN := Lib.hid hfin
  have HALL := Lib.hid hall
  clear hfin hall
  go_enter Try.func4, Try.ntmps4
  go_wp2_with (first
    | (go_at_call 5; refine (awake4_any _).mono ?_; rintro e w' ⟨rfl, rfl⟩))
  go_loop [4, 17] (fun c i => ∃ j : Nat, j ≤ 64 * k ∧ i = .int .i64 j ∧ c = .int .i64 (cntF j)) (fun _ i => 64 * k - (intOf i).toNat)
  case atStart => exact ⟨0, by omega, rfl, rfl⟩
  case round =>
    obtain ⟨j, hj, rfl, rfl⟩ := hrel
    have hle := cntF_le j
    by_cases hlt : (j : Int) < 64 * (k : Int)
    · rcases hfx : fixB (j : Int) with _ | _
      · have hs : cntF (j + 1) = cntF j := by rw [cntF, if_neg (by simp [hfx])]
        have HX := gFixed_any (j : Int) (by omega) w
        rw [hfx] at HX
        have HS := Lib.hid hs
        clear hs hfx
        go_wp2_with (go_at_call 16; refine HX.mono ?_; rintro e w' ⟨rfl, rfl⟩)
        go_round
        case rel => exact ⟨j + 1, by omega, by go_num, by rw [HS.out]⟩
        case measure => simp [intOf]; omega
      · have hs : cntF (j + 1) = cntF j + 1 := by rw [cntF, if_pos hfx]
        have HX := gFixed_any (j : Int) (by omega) w
        rw [hfx] at HX
        have HS := Lib.hid hs
        clear hs hfx
        go_wp2_with (go_at_call 16; refine HX.mono ?_; rintro e w' ⟨rfl, rfl⟩)
        go_round
        case rel => exact ⟨j + 1, by omega, by go_num, by rw [HS.out]; go_num⟩
        case measure => simp [intOf]; omega
    · have hjk : j = 64 * k := by omega
      have HJ := Lib.hid hjk
      obtain ⟨F, hF⟩ : ∃ F : Nat, F = cntF j := ⟨_, rfl⟩
      rw [← hF] at hle ⊢
      have HF : Hid (F + (62 * k - 42) = 64 * k) := by
        have e1 := HFIN.out; have e2 := HALL.out
        show _ = _
        rw [hF, HJ.out]; omega
      clear hjk hF
      go_wp2
      go_loop [26] (fun i => ∃ j : Nat, j ≤ k ∧ i = .int .i64 j) (fun i => k - (intOf i).toNat)
      case atStart => exact ⟨0, by omega, rfl⟩
      case round =>
        obtain ⟨j, hj, rfl⟩ := hrel
        by_cases hlt : j < k
        · obtain ⟨p1, p2, p3, p4, p5, p6, p7⟩ := part_facts j k hlt hk2
          have a1 := gDesc_any (j : Int) w
          have a2 := gOwners_any (j : Int) w
          have a3 := gFixed_any (dscI (j : Int)) (by omega) w
          have a4 := gFixed_any (ownI (j : Int)) (by omega) w
          have a5 := gGroup_any (dscI (j : Int)) (by omega) w
          have a6 := gGroup_any (ownI (j : Int)) (by omega) w
          rw [p2] at a3
          rw [p3] at a4
          rw [p4] at a5
          rw [p5] at a6
          clear p2 p3 p4 p5 p6 p7
          generalize dscI (j : Int) = D at *
          generalize ownI (j : Int) = O at *
          have TF : True := trivial
          have TG : True := trivial
          go_wp2_with (first
            | (go_at_call 18; refine a1.mono ?_; rintro e w' ⟨rfl, rfl⟩)
            | (go_at_call 20; refine a2.mono ?_; rintro e w' ⟨rfl, rfl⟩)
            | (go_at_call 16; have _t := TF; refine a3.mono ?_; rintro e w' ⟨rfl, rfl⟩; clear TF)
            | (go_at_call 16; refine a4.mono ?_; rintro e w' ⟨rfl, rfl⟩)
            | (go_at_call 14; have _t := TG; refine a5.mono ?_; rintro e w' ⟨rfl, rfl⟩; clear TG)
            | (go_at_call 14; refine a6.mono ?_; rintro e w' ⟨rfl, rfl⟩))
          go_round
          case rel => exact ⟨j + 1, by omega, by go_num⟩
          case measure => simp [intOf]; omega
        · have HF1 : (62 * (k : Int) - 42 + (F : Int) == 64 * (k : Int)) = true := by
            have := HF.out
            simp only [beq_iff_eq]; omega
          have HF2 : 0 ≤ (F : Int) := by omega
          have HF3 : (F : Int) ≤ 768 := by have := HF.out; omega
          have TF : True := trivial
          clear HF HJ
          go_wp2_with (first
            | (go_at_call 8; refine g1.mono ?_; rintro e w' ⟨rfl, rfl⟩)
            | (go_at_call 10; refine g2.mono ?_; rintro e w' ⟨rfl, rfl⟩)
            | (go_at_call 22; refine (gCopy_any _).mono ?_; rintro e w' ⟨rfl, rfl⟩)
            | (go_at_call 16; have _t := TF; refine g4.mono ?_; rintro e w' ⟨rfl, rfl⟩; clear TF)
            | (go_at_call 16; refine g5.mono ?_; rintro e w' ⟨rfl, rfl⟩)
            | (go_at_call 12; refine g3.mono ?_; rintro e w' ⟨rfl, rfl⟩))
          go_ret
          exact ⟨by simp; omega, rfl⟩
theorem lTells_b (b n g : Int) (hb : b ≤ 9223372036854775807) (hn : n ≤ 9223372036854775807) (w : World) :
    Calls Try.prog 3 #[.int .i64 b, .int .i64 n, .int .i64 g] w fun e w' => e = .returned (.bool true) ∧ Below w.heap.size w w' :=
  (lTells_any b n g hb hn w).mono fun _ _ ⟨he, hw⟩ => ⟨he, hw ▸ Below.refl _ _⟩
theorem lParts_b (x : Int) (hx0 : 0 ≤ x) (hx : x ≤ 255) (w : World) :
    Calls Try.prog 4 #[.int .u8 x] w fun e w' => e = .returned (.bool true) ∧ Below w.heap.size w w' :=
  (lParts_any x hx0 hx w).mono fun _ _ ⟨he, hw⟩ => ⟨he, hw ▸ Below.refl _ _⟩
end Go.Proofs.Ytnpngbnpaengmaa
