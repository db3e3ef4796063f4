/- DirentEncodes: the walk of the law itself. -/
import Derived.Test.YteemjhnlnjkjcaaDirJ
namespace Go.Proofs.Yteemjhnlnjkjcaa
open Go.RowKit
set_option linter.unusedVariables false

theorem lEnc8_long (ao : Option Addr) (len cap : Nat) (w : World) (h : 50 < len) : Calls Try.prog 3 #[.slice ao len cap] w fun e w' => e = .returned (.bool true) ∧ Below w.heap.size w w' := by
  have h50 : (50 : Int) < (len : Int) := by omega
  have hb00 : Below w.heap.size w w := Below.refl _ _
  go_enter Try.func3, Try.ntmps3
  go_wp2_with (first
    | (go_at_call 6; with_reducible refine (awake8_any w).mono ?_; rintro e w1 ⟨rfl, hb1⟩)
    | (go_at_call 6; with_reducible refine (awake8_any w1).mono ?_; rintro e w2 ⟨rfl, hb2⟩))
  go_ret
  exact ⟨rfl, hb1.trans (hb2.mono hb1.size)⟩
set_option maxHeartbeats 4000000 in
theorem lEnc8_few {w : World} {v : Value} {O : List (Int × ByteArray)} (h : ESl w v O) (hO : O.length ≤ 50) : Calls Try.prog 3 #[v] w fun e w' => e = .returned (.bool true) ∧ Below w.heap.size w w' := by
  obtain ⟨x, E, hx, hE, P1, P2⟩ := enc_both8 O
  obtain ⟨Z, N, hZ, hN, Z1, _⟩ := dec_both8 x
  have hfin : E = 0 ∧ N = 0 ∧ Z = O ∨ E = 1 := by
    rcases hE with ⟨h0, hh⟩ | h1
    · rcases hN with ⟨hn, hz⟩ | ⟨_, hz⟩
      · exact .inl ⟨h0, hn, isBlk_one hz hh⟩
      · exact absurd hh (hz O)
    · exact .inr h1.1
  have HFIN := Lib.hid hfin
  have P1' : ∀ (W : World) (v : Value), ESl W v O → Calls Try.prog 7 #[v] W fun e w' => ∃ u, e = .returned (.tuple #[u, .int .i64 E]) ∧ BSl w' u x ∧ Below W.heap.size W w' := fun W v hs =>
    (P1 W v hs).mono fun e w' ⟨u, he, ho, hb⟩ => ⟨u, he, ho.elim (fun h => h.bsl) (fun h => by rw [h.1, h.2]; exact bsl_nil _), hb⟩
  have HTH := Lib.hid (fun W v (hs : ESl W v O) => theirs8_any (by omega) hs)
  have HO1 := Lib.hid h
  have HP1 := Lib.hid P1'
  have HP2 := Lib.hid P2
  have HZ1 := Lib.hid Z1
  have HLO : Hid (O.length ≤ 1000) := Lib.hid (by omega)
  obtain ⟨ao, cap, rfl, hc⟩ := h.open'
  obtain ⟨n, hn⟩ : ∃ n, n = O.length := ⟨_, rfl⟩
  have hdl : decide ((50 : Int) < (n : Int)) = false := by simp; omega
  rw [← hn] at hO HO1 hc ⊢
  have HC := Lib.hid hc
  clear h P1 P1' P2 Z1 hx hE hZ hN hn hfin hc
  go_enter Try.func3, Try.ntmps3
  go_wp2_with (first
    | (go_at_call 6; refine (awake8_any _).mono ?_; rintro e w2 ⟨rfl, hb2⟩)
    | (go_at_call 8; (with_reducible refine (HTH.out _ _ (HO1.out.below hb2)).mono ?_); rintro e wt ⟨ut, rfl, hst, hbt⟩; have hb0t := hb2.trans (hbt.mono hb2.size))
    | (go_at_call 7; (with_reducible refine (HP1.out _ _ hst).mono ?_); rintro e w3 ⟨u3, rfl, hs3, hb3⟩; have hb03 := hb0t.trans (hb3.mono hb0t.size))
    | (go_at_call 9; (with_reducible refine (HP2.out _ _ (HO1.out.below hb03)).mono ?_); rintro e w4 ⟨u4, rfl, hs4, hb4⟩; have hb04 := hb03.trans (hb4.mono hb03.size)
       have hc4 := conv_bsl hs4
       have hs34 := hs3.below hb4
       have hc3 := conv_bsl hs34
       generalize strOfNums x = T at hc4 hc3
       have HS3 := Lib.hid hs34
       have HB04 := Lib.hid hb04
       clear hs3 hs4 hb3 hb4 hb03 hs34 hb2 hbt hb0t hst hb04))
  have hb44 : Below w4.heap.size w4 w4 := Below.refl _ _
  go_loopw [41] (fun i wr => ∃ k : Nat, k ≤ n ∧ i = .int .i64 k ∧ Below w4.heap.size w4 wr) (fun i _ => n - (intOf i).toNat)
  case atStart => exact ⟨0, by omega, rfl, hb44⟩
  case round =>
    obtain ⟨k, hk, rfl, hbr⟩ := hrel
    clear hb44 hc3 hc4
    by_cases hlt : k < n
    · obtain ⟨b1, o1, rfl, hbl, hcc⟩ := HC.out (by omega)
      have hbw := HB04.out.trans (hbr.mono HB04.out.size)
      have hck := hcc k hlt
      obtain ⟨⟨x1, y1⟩, hx⟩ : ∃ x, x = O.getD k default := ⟨_, rfl⟩
      rw [← hx] at hck
      have d1 : wr.drew.cell? ⟨b1, o1 + k * 2, none⟩ = some (.int .i64 x1) := (hbw.cell (p := ⟨b1, o1 + k * 2, none⟩) hbl).trans hck.1
      have d2 : wr.drew.cell? ⟨b1, o1 + k * 2 + 1, none⟩ = some (.string y1) := (hbw.cell (p := ⟨b1, o1 + k * 2 + 1, none⟩) hbl).trans hck.2
      obtain ⟨B, hf⟩ : ∃ B, frmE (x1, y1) = B := ⟨_, rfl⟩
      obtain ⟨C, hg⟩ : ∃ C, nameS y1 = C := ⟨_, rfl⟩
      have KF := Lib.hid (fun W => eForm_is x1 y1 B hf W)
      have KR := Lib.hid (fun W => rFormE_is x1 y1 B hf W)
      have KN := Lib.hid (fun W => eName_is y1 C hg W)
      have KM := Lib.hid (fun W => rName_is y1 C hg W)
      have ek : (k : Int) < (n : Int) := by omega
      have tb : Below w4.heap.size w4 wr.drew := hbr.drew
      have hbl1 : b1 < wr.drew.heap.size := Nat.lt_of_lt_of_le hbl hbw.size
      clear hcc hck hx hf hg hbw hbr hbl
      go_wp2
      go_region_held3 (fun W => W.cell? ⟨b1, o1 + k * 2, none⟩ = some (.int .i64 x1) ∧ W.cell? ⟨b1, o1 + k * 2 + 1, none⟩ = some (.string y1)) (first | exact ⟨f1, f2⟩ | exact ⟨e1, e2⟩ | exact ⟨d1, d2⟩) (first
        | (go_at_call 10; (with_reducible refine (KF.out _).mono ?_); rintro e z1 ⟨rfl, hz1⟩
           have e1 := (hz1.cell (p := ⟨b1, o1 + k * 2, none⟩) hbl1).trans d1
           have e2 := (hz1.cell (p := ⟨b1, o1 + k * 2 + 1, none⟩) hbl1).trans d2
           have hbl2 := Nat.lt_of_lt_of_le hbl1 hz1.size
           have t1 := tb.trans (hz1.mono tb.size))
        | (go_at_call 11; (with_reducible refine (KR.out _).mono ?_); rintro e z2 ⟨rfl, hz2⟩
           have f1 := (hz2.cell (p := ⟨b1, o1 + k * 2, none⟩) hbl2).trans e1
           have f2 := (hz2.cell (p := ⟨b1, o1 + k * 2 + 1, none⟩) hbl2).trans e2
           have t2 := t1.trans (hz2.mono t1.size))
        | (go_at_call 12; (with_reducible refine (KN.out _).mono ?_); rintro e z3 ⟨rfl, rfl⟩)
        | (go_at_call 13; (with_reducible refine (KM.out _).mono ?_); rintro e z4 ⟨rfl, rfl⟩))
      cases B <;> cases C
      case false.false =>
        go_wp2_with fail
        go_roundw
        case rel => first | exact ⟨k + 1, by omega, by go_num, t2⟩ | ((repeat apply Exists.intro); refine ⟨?_, rfl⟩; exact ⟨k + 1, by omega, by go_num, t2⟩)
        case measure => simp [intOf]; omega
      case false.true =>
        go_wp2_with fail
        go_roundw
        case rel => first | exact ⟨k + 1, by omega, by go_num, t2⟩ | ((repeat apply Exists.intro); refine ⟨?_, rfl⟩; exact ⟨k + 1, by omega, by go_num, t2⟩)
        case measure => simp [intOf]; omega
      case true.false =>
        go_wp2_with fail
        go_roundw
        case rel => first | exact ⟨k + 1, by omega, by go_num, t2⟩ | ((repeat apply Exists.intro); refine ⟨?_, rfl⟩; exact ⟨k + 1, by omega, by go_num, t2⟩)
        case measure => simp [intOf]; omega
      case true.true =>
        go_wp2_with fail
        go_roundw
        case rel => first | exact ⟨k + 1, by omega, by go_num, t2⟩ | ((repeat apply Exists.intro); refine ⟨?_, rfl⟩; exact ⟨k + 1, by omega, by go_num, t2⟩)
        case measure => simp [intOf]; omega
    · have hbw := HB04.out.trans (hbr.mono HB04.out.size)
      have HBW := Lib.hid hbw
      have HSR := Lib.hid (HS3.out.below hbr)
      clear hbw hbr
      obtain rfl : k = n := by omega
      rcases HFIN.out with ⟨rfl, rfl, rfl⟩ | rfl
      · go_wp2_with (first
          | (go_at_call 14; (with_reducible refine (HZ1.out _ _ HSR.out).mono ?_); rintro e w9 ⟨u9, rfl, ho9, hb9⟩
             have hb09 := HBW.out.trans (hb9.mono HBW.out.size)
             have HN9 := Lib.hid (HO1.out.below hb09))
          | (go_at_call 16; (with_reducible refine (ours8_any HLO.out ho9).mono ?_); rintro e w10 ⟨u10, rfl, ho10, hb10⟩
             have hb010 := hb09.trans (hb10.mono hb09.size)
             have HN10 := Lib.hid (HN9.out.below hb10))
          | (go_at_call 15; (with_reducible refine (rSameE_any HLO.out ho10 HN10.out).mono ?_); rintro e w11 ⟨rfl, m11, rfl⟩))
        go_ret
        exact ⟨rfl, below_drewN' hb010 m11⟩
      · go_wp2_with (first
          | (go_at_call 14; (with_reducible refine (HZ1.out _ _ HSR.out).mono ?_); rintro e w9 ⟨u9, rfl, ho9, hb9⟩
             have hb09 := HBW.out.trans (hb9.mono HBW.out.size)))
        go_ret
        exact ⟨rfl, hb09⟩
theorem lEnc8_any {w : World} {v : Value} (h : ∃ O, ESl w v O) : Calls Try.prog 3 #[v] w fun e w' => e = .returned (.bool true) ∧ Below w.heap.size w w' := by
  obtain ⟨O, h⟩ := h
  by_cases hO : O.length ≤ 50
  · exact lEnc8_few h hO
  · obtain ⟨ao, cap, rfl⟩ := h.shape
    exact lEnc8_long ao _ cap w (by omega)
end Go.Proofs.Yteemjhnlnjkjcaa
