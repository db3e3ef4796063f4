/- InodeTables: the walk of the law itself. -/
import Derived.Test.YtbikbglkecbgjaaInoQ
import Derived.Test.YtbikbglkecbgjaaLawMaps
import Derived.Deep.RegionHeld3
namespace Go.Proofs.Ytbikbglkecbgjaa
open Go.RowKit
set_option linter.unusedVariables false

theorem lTables_long (g : Int) (v2 : Value) (ao : Option Addr) (len cap : Nat) (w : World) (h : 50 < len) :
    Calls Try.prog 3 #[.slice ao len cap, v2, .int .i64 g] w fun e w' => e = .returned (.bool true) ∧ Below w.heap.size w w' := by
  have hb00 : Below w.heap.size w w := Below.refl _ _
  go_enter Try.func3, Try.ntmps3
  go_wp2_with (go_at_call 5; refine (awake7_from (by assumption)).mono ?_; rintro e w1 ⟨rfl, hb⟩)
  go_ret
  exact ⟨rfl, hb⟩
theorem place_both (g : Int) : (∃ a b : Int, ¬ (1 ≤ g ∧ g ≤ 47) ∧ a = -1 ∧ b = -1 ∧ ∀ W, Calls Try.prog 15 #[.int .i64 g] W fun e w' => e = .returned (.tuple #[.int .i64 a, .int .i64 b]) ∧ W = w') ∨
    (1 ≤ g ∧ g ≤ 47 ∧ ∀ W, Calls Try.prog 15 #[.int .i64 g] W fun e w' => e = .returned (.tuple #[.int .i64 (g / 8), .int .i64 (g % 8)]) ∧ W = w') := by
  by_cases h : 1 ≤ g ∧ g ≤ 47
  · exact .inr ⟨h.1, h.2, fun W => iPlace_yes g h.1 h.2 W⟩
  · exact .inl ⟨-1, -1, h, rfl, rfl, fun W => iPlace_no g (by omega) W⟩
set_option maxHeartbeats 8000000 in
theorem lTables_any (g : Int) {w : World} {v1 v2 : Value} {O : List (List Int)} {b : List Int} (h1 : NSl w v1 O) (h2 : BSl w v2 b) (hO : O.length ≤ 50) :
    Calls Try.prog 3 #[v1, v2, .int .i64 g] w fun e w' => e = .returned (.bool true) ∧ Below w.heap.size w w' := by
  obtain ⟨x, E, hx, hE, P1, P2⟩ := encT_both O h1.1
  obtain ⟨Y, G, hY, _, Q1, Q2⟩ := decT_both b
  obtain ⟨Z, N, hZ, hzx, Z1, _⟩ := decT_both x
  have hfin : E = 0 ∧ N = 0 ∧ Z = O ∨ E = 1 := by
    rcases hE with ⟨h0, hh, hr⟩ | h1
    · obtain ⟨hn, hzz⟩ := hzx hh
      exact .inl ⟨h0, hn, by rw [hzz, hr]⟩
    · exact .inr h1
  have HFIN := Lib.hid hfin
  have HTH := Lib.hid (fun W v (hs : NSl W v O) => theirs7_any (by omega) hs)
  have HO1 := Lib.hid h1
  have HO2 := Lib.hid h2
  have HP1 := Lib.hid P1
  have HP2 := Lib.hid P2
  have HQ1 := Lib.hid Q1
  have HQ2 := Lib.hid Q2
  have HZ1 := Lib.hid Z1
  have HY : Hid (Y.length ≤ 1000) := Lib.hid (by omega)
  have HLO : Hid (O.length ≤ 1000) := Lib.hid (by omega)
  have HG := Lib.hid (fun k hk => len14_get h1.1 k hk)
  obtain ⟨ao, cap, rfl, hc⟩ := h1.open'
  obtain ⟨n, hn⟩ : ∃ n, n = O.length := ⟨_, rfl⟩
  have hdl : decide ((50 : Int) < (n : Int)) = false := by simp; omega
  rw [← hn] at hO HO1 hc HG ⊢
  have HC := Lib.hid hc
  clear h1 h2 P1 P2 Q1 Q2 Z1 hx hE hY hZ hzx hn hfin hc
  go_enter Try.func3, Try.ntmps3
  go_wp2_with (first
    | (go_at_call 5; refine (awake7_any _).mono ?_; rintro e w2 ⟨rfl, hb2⟩)
    | (go_at_call 7; refine (HTH.out _ _ (HO1.out.below hb2)).mono ?_; rintro e wt ⟨ut, rfl, hst, hbt⟩; have hb0t := hb2.trans (hbt.mono hb2.size))
    | (go_at_call 6; refine (HP1.out _ _ hst).mono ?_; rintro e w3 ⟨u3, rfl, hs3, hb3⟩; have hb03 := hb0t.trans (hb3.mono hb0t.size))
    | (go_at_call 8; refine (HP2.out _ _ (HO1.out.below hb03)).mono ?_; rintro e w4 ⟨u4, rfl, hs4, hb4⟩; have hb04 := hb03.trans (hb4.mono hb03.size))
    | (go_at_call 9; (with_reducible refine (HQ1.out _ _ (HO2.out.below hb04)).mono ?_); rintro e w5 ⟨u5, rfl, ho5, hb5⟩; have hb05 := hb04.trans (hb5.mono hb04.size))
    | (go_at_call 10; refine (HQ2.out _ _ (HO2.out.below hb05)).mono ?_; rintro e w6 ⟨u6, rfl, ho6, hb6⟩; have hb06 := hb05.trans (hb6.mono hb05.size)
       have hc4 := conv_bsl ((hs4.below hb5).below hb6)
       have hs36 := ((hs3.below hb4).below hb5).below hb6
       have hc3 := conv_bsl hs36
       generalize strOfNums x = T at hc4 hc3
       have HS3 := Lib.hid hs36
       have HO5 := Lib.hid (ho5.below hb6)
       have HO6 := Lib.hid ho6
       clear hs3 hs4 hb3 hb4 hb5 hb6 ho5 ho6 hb03 hb04 hb05 hs36 hb2 hbt hb0t hst)
    | (go_at_call 11; (with_reducible refine (same7_any HY.out HO5.out HO6.out).mono ?_); rintro e w7 ⟨rfl, m7, rfl⟩))
  have hb08 : Below w.heap.size w (w6.drewN m7) := below_drewN' hb06 m7
  have HS8 := Lib.hid (HS3.out.drewN m7)
  clear hc3 hc4 hb06 HP1 HP2 HQ1 HQ2 HO5 HO6 HY HO2 HTH HS3
  generalize w6.drewN m7 = w8 at hb08 HS8 ⊢
  have hb88 : Below w8.heap.size w8 w8 := Below.refl _ _
  go_loopw [72] (fun i wr => ∃ k : Nat, k ≤ n ∧ i = .int .i64 k ∧ Below w8.heap.size w8 wr) (fun i _ => n - (intOf i).toNat)
  case atStart => exact ⟨0, by omega, rfl, hb88⟩
  case round =>
    obtain ⟨k, hk, rfl, hbr⟩ := hrel
    clear hb88
    by_cases hlt : k < n
    · obtain ⟨b1, o1, rfl, hbl, hcc⟩ := HC.out (by omega)
      have hbw := hb08.trans (hbr.mono hb08.size)
      have r0 := range_low (hcc k hlt) hbw hbl
      have h14 := HG.out k hlt
      obtain ⟨kd, ln, sz, d0, d1, d2, d3, d4, d5, d6, d7, d8, d9, mp, hx⟩ := list14_ex h14
      rw [hx] at r0
      obtain ⟨B, hf⟩ : ∃ B, frmI [kd, ln, sz, d0, d1, d2, d3, d4, d5, d6, d7, d8, d9, mp] = B := ⟨_, rfl⟩
      have KT := Lib.hid (Theirs7_at kd ln sz d0 d1 d2 d3 d4 d5 d6 d7 d8 d9 mp)
      have KF : Hid (∀ w, Calls Try.prog 12 #[.agg #[.int .i64 kd, .int .i64 ln, .int .i64 sz, .int .i64 d0, .int .i64 d1, .int .i64 d2, .int .i64 d3, .int .i64 d4, .int .i64 d5, .int .i64 d6, .int .i64 d7, .int .i64 d8, .int .i64 d9, .int .i64 mp]] w fun e w' => e = .returned (.bool B) ∧ Below w.heap.size w w') := Lib.hid (iForm_is (L := [kd, ln, sz, d0, d1, d2, d3, d4, d5, d6, d7, d8, d9, mp]) rfl B hf)
      have KR : Hid (∀ w, Calls Try.prog 14 #[.agg #[.int .i64 kd, .int .i64 ln, .int .i64 sz, .int .i64 d0, .int .i64 d1, .int .i64 d2, .int .i64 d3, .int .i64 d4, .int .i64 d5, .int .i64 d6, .int .i64 d7, .int .i64 d8, .int .i64 d9, .int .i64 mp]] w fun e w' => e = .returned (.bool B) ∧ Below w.heap.size w w') := Lib.hid (rForm_is (L := [kd, ln, sz, d0, d1, d2, d3, d4, d5, d6, d7, d8, d9, mp]) rfl B hf)
      have ek : (k : Int) < (n : Int) := by omega
      have rd : wr.drew.rangeAt b1 (o1 + k * 14) (iC [kd, ln, sz, d0, d1, d2, d3, d4, d5, d6, d7, d8, d9, mp]) := r0
      have tb : Below w8.heap.size w8 wr.drew := hbr.drew
      have hbl1 : b1 < wr.drew.heap.size := Nat.lt_of_lt_of_le hbl hbw.size
      clear hcc r0 h14 hx hf hbw hbr
      go_wp2
      go_region_held3 (fun W => (W.cell? ⟨b1, o1 + k * 14, none⟩ = some (.int .i64 kd) ∧ W.cell? ⟨b1, o1 + k * 14 + 1, none⟩ = some (.int .i64 ln) ∧ W.cell? ⟨b1, o1 + k * 14 + 2, none⟩ = some (.int .i64 sz) ∧ W.cell? ⟨b1, o1 + k * 14 + 3, none⟩ = some (.int .i64 d0)) ∧ (W.cell? ⟨b1, o1 + k * 14 + 4, none⟩ = some (.int .i64 d1) ∧ W.cell? ⟨b1, o1 + k * 14 + 5, none⟩ = some (.int .i64 d2) ∧ W.cell? ⟨b1, o1 + k * 14 + 6, none⟩ = some (.int .i64 d3) ∧ W.cell? ⟨b1, o1 + k * 14 + 7, none⟩ = some (.int .i64 d4)) ∧ (W.cell? ⟨b1, o1 + k * 14 + 8, none⟩ = some (.int .i64 d5) ∧ W.cell? ⟨b1, o1 + k * 14 + 9, none⟩ = some (.int .i64 d6) ∧ W.cell? ⟨b1, o1 + k * 14 + 10, none⟩ = some (.int .i64 d7) ∧ W.cell? ⟨b1, o1 + k * 14 + 11, none⟩ = some (.int .i64 d8)) ∧ W.cell? ⟨b1, o1 + k * 14 + 12, none⟩ = some (.int .i64 d9) ∧ W.cell? ⟨b1, o1 + k * 14 + 13, none⟩ = some (.int .i64 mp)) (first | exact ino_cells r3 | exact ino_cells r2 | exact ino_cells r1 | exact ino_cells rd) (first
        | (go_at_call 13; (with_reducible refine (KT.out _).mono ?_); rintro e y1 ⟨rfl, hy1⟩
           have r1 := range_low rd hy1 hbl1
           have hbl2 := Nat.lt_of_lt_of_le hbl1 hy1.size
           have t1 := tb.trans (hy1.mono tb.size))
        | (go_at_call 12; (with_reducible refine (KF.out _).mono ?_); rintro e y2 ⟨rfl, hy2⟩
           have r2 := range_low r1 hy2 hbl2
           have hbl3 := Nat.lt_of_lt_of_le hbl2 hy2.size
           have t2 := t1.trans (hy2.mono t1.size))
        | (go_at_call 14; (with_reducible refine (KR.out _).mono ?_); rintro e y3 ⟨rfl, hy3⟩
           have r3 := range_low r2 hy3 hbl3
           have t3 := t2.trans (hy3.mono t2.size)))
      cases B
      case false =>
        go_wp2_with fail
        go_roundw
        case rel => first | exact ⟨k + 1, by omega, by go_num, t3⟩ | ((repeat apply Exists.intro); refine ⟨?_, rfl⟩; exact ⟨k + 1, by omega, by go_num, t3⟩)
        case measure => simp [intOf]; omega
      case true =>
        go_wp2_with fail
        go_roundw
        case rel => first | exact ⟨k + 1, by omega, by go_num, t3⟩ | ((repeat apply Exists.intro); refine ⟨?_, rfl⟩; exact ⟨k + 1, by omega, by go_num, t3⟩)
        case measure => simp [intOf]; omega
    · have hbw := hb08.trans (hbr.mono hb08.size)
      have HBW := Lib.hid hbw
      have HSR := Lib.hid (HS8.out.below hbr)
      clear hbw hb08 hbr HS8 HG
      obtain rfl : k = n := by omega
      by_cases hg : 1 ≤ g ∧ g ≤ 47
      · have hp := fun W => iPlace_yes g hg.1 hg.2 W
        obtain ⟨g1, g2⟩ := hg
        have hpq : 8 * (g / 8) + g % 8 = g := by omega
        have hq8 : g % 8 < 8 := by omega
        have hq0 : 0 ≤ g % 8 := by omega
        have hp0 : 0 ≤ g / 8 := by omega
        have hp5 : g / 8 ≤ 5 := by omega
        obtain ⟨p, hpe⟩ : ∃ p, p = g / 8 := ⟨_, rfl⟩
        obtain ⟨q, hqe⟩ : ∃ p, p = g % 8 := ⟨_, rfl⟩
        rw [← hpe, ← hqe] at hp hpq
        rw [← hpe] at hp0 hp5
        rw [← hqe] at hq8 hq0
        have KP := Lib.hid hp
        have hpb : (8 * p + q == g) = true := by simp [hpq]
        have HPQ := Lib.hid hpq
        clear hp hpe hqe hpq
        rcases HFIN.out with ⟨rfl, rfl, rfl⟩ | rfl
        ·
          go_wp2_with (first
            | (go_at_call 9; (with_reducible refine (HZ1.out _ _ HSR.out).mono ?_); rintro e w9 ⟨u9, rfl, ho9, hb9⟩
               have hb09 := HBW.out.trans (hb9.mono HBW.out.size)
               have HN9 := Lib.hid (HO1.out.below hb09))
            | (go_at_call 11; (with_reducible refine (same7_any HLO.out ho9 HN9.out).mono ?_); rintro e w10 ⟨rfl, m10, rfl⟩)
            | (go_at_call 15; (with_reducible refine (KP.out _).mono ?_); rintro e w' ⟨rfl, rfl⟩))
          go_ret
          first
            | exact ⟨rfl, below_drewN' hb09 m10⟩
            | exact ⟨rfl, HBW.out⟩
        ·
          go_wp2_with (first
            | (go_at_call 9; (with_reducible refine (HZ1.out _ _ HSR.out).mono ?_); rintro e w9 ⟨u9, rfl, ho9, hb9⟩
               have hb09 := HBW.out.trans (hb9.mono HBW.out.size)
               have HN9 := Lib.hid (HO1.out.below hb09))
            | (go_at_call 11; (with_reducible refine (same7_any HLO.out ho9 HN9.out).mono ?_); rintro e w10 ⟨rfl, m10, rfl⟩)
            | (go_at_call 15; (with_reducible refine (KP.out _).mono ?_); rintro e w' ⟨rfl, rfl⟩))
          go_ret
          first
            | exact ⟨rfl, below_drewN' hb09 m10⟩
            | exact ⟨rfl, HBW.out⟩
      · by_cases hg1 : g < 1
        · have KP := Lib.hid (fun W => iPlace_no g (.inl hg1) W)
          clear hg
          rcases HFIN.out with ⟨rfl, rfl, rfl⟩ | rfl
          ·
            go_wp2_with (first
              | (go_at_call 9; (with_reducible refine (HZ1.out _ _ HSR.out).mono ?_); rintro e w9 ⟨u9, rfl, ho9, hb9⟩
                 have hb09 := HBW.out.trans (hb9.mono HBW.out.size)
                 have HN9 := Lib.hid (HO1.out.below hb09))
              | (go_at_call 11; (with_reducible refine (same7_any HLO.out ho9 HN9.out).mono ?_); rintro e w10 ⟨rfl, m10, rfl⟩)
              | (go_at_call 15; (with_reducible refine (KP.out _).mono ?_); rintro e w' ⟨rfl, rfl⟩))
            go_ret
            first
              | exact ⟨rfl, below_drewN' hb09 m10⟩
              | exact ⟨rfl, HBW.out⟩
          ·
            go_wp2_with (first
              | (go_at_call 9; (with_reducible refine (HZ1.out _ _ HSR.out).mono ?_); rintro e w9 ⟨u9, rfl, ho9, hb9⟩
                 have hb09 := HBW.out.trans (hb9.mono HBW.out.size)
                 have HN9 := Lib.hid (HO1.out.below hb09))
              | (go_at_call 11; (with_reducible refine (same7_any HLO.out ho9 HN9.out).mono ?_); rintro e w10 ⟨rfl, m10, rfl⟩)
              | (go_at_call 15; (with_reducible refine (KP.out _).mono ?_); rintro e w' ⟨rfl, rfl⟩))
            go_ret
            first
              | exact ⟨rfl, below_drewN' hb09 m10⟩
              | exact ⟨rfl, HBW.out⟩
        · have hg2 : 47 < g := by omega
          have KP := Lib.hid (fun W => iPlace_no g (.inr hg2) W)
          clear hg
          rcases HFIN.out with ⟨rfl, rfl, rfl⟩ | rfl
          ·
            go_wp2_with (first
              | (go_at_call 9; (with_reducible refine (HZ1.out _ _ HSR.out).mono ?_); rintro e w9 ⟨u9, rfl, ho9, hb9⟩
                 have hb09 := HBW.out.trans (hb9.mono HBW.out.size)
                 have HN9 := Lib.hid (HO1.out.below hb09))
              | (go_at_call 11; (with_reducible refine (same7_any HLO.out ho9 HN9.out).mono ?_); rintro e w10 ⟨rfl, m10, rfl⟩)
              | (go_at_call 15; (with_reducible refine (KP.out _).mono ?_); rintro e w' ⟨rfl, rfl⟩))
            go_ret
            first
              | exact ⟨rfl, below_drewN' hb09 m10⟩
              | exact ⟨rfl, HBW.out⟩
          ·
            go_wp2_with (first
              | (go_at_call 9; (with_reducible refine (HZ1.out _ _ HSR.out).mono ?_); rintro e w9 ⟨u9, rfl, ho9, hb9⟩
                 have hb09 := HBW.out.trans (hb9.mono HBW.out.size)
                 have HN9 := Lib.hid (HO1.out.below hb09))
              | (go_at_call 11; (with_reducible refine (same7_any HLO.out ho9 HN9.out).mono ?_); rintro e w10 ⟨rfl, m10, rfl⟩)
              | (go_at_call 15; (with_reducible refine (KP.out _).mono ?_); rintro e w' ⟨rfl, rfl⟩))
            go_ret
            first
              | exact ⟨rfl, below_drewN' hb09 m10⟩
              | exact ⟨rfl, HBW.out⟩
theorem lTables_of (g : Int) {w : World} {v1 v2 : Value} (h1 : ∃ O, NSl w v1 O) (h2 : ∃ b, BSl w v2 b) : Calls Try.prog 3 #[v1, v2, .int .i64 g] w fun e w' => e = .returned (.bool true) ∧ Below w.heap.size w w' := by
  obtain ⟨O, h1⟩ := h1
  obtain ⟨b, h2⟩ := h2
  by_cases h : O.length ≤ 50
  · exact lTables_any g h1 h2 h
  · obtain ⟨ao, cap, rfl⟩ := h1.shape
    exact lTables_long g v2 ao _ cap w (by omega)
end Go.Proofs.Ytbikbglkecbgjaa
