/- The reference's FormedTxn. -/
import Derived.Test.YtmjndpmpeidhaaaTxnH
namespace Go.Proofs.Ytmjndpmpeidhaaa
open Go.RowKit
set_option linter.unusedVariables false

theorem rFormT_long {w : World} {v : Value} {q : Int} {N : List Int} {D : List (List Int)} (h : TxV w v q N D) (hl : 37 < N.length) : Calls Try.prog 11 #[v] w fun e w' => e = .returned (.bool false) ∧ Below w.heap.size w w' := by
  obtain ⟨no, nc, ao, dc, rfl, hN, hD⟩ := h
  obtain ⟨n, hn⟩ : ∃ n, n = N.length := ⟨_, rfl⟩
  obtain ⟨m, hm⟩ : ∃ m, m = D.length := ⟨_, rfl⟩
  rw [← hn] at hl ⊢
  rw [← hm]
  have hbx := below_box w (.cells #[.int .u32 q, .slice no n nc, .slice ao m dc] 26)
  have hnx := heap_alloc_new w (.cells #[.int .u32 q, .slice no n nc, .slice ao m dc] 26)
  have hli : (37 : Int) < (n : Int) := by omega
  clear hN hD hn hm
  go_enter Try.func11, Try.ntmps11
  go_upto_region 1 with (fail)
  generalize w.alloc (.cells #[.int .u32 q, .slice no n nc, .slice ao m dc] 26) = u at hbx hnx ⊢
  have d1 : u.cell? ⟨w.heap.size, 1, none⟩ = some (.slice no n nc) := by rw [cell_of_row _ _ _ _ _ _ hnx]; rfl
  clear hnx
  go_wp2
  go_ret
  exact ⟨rfl, hbx⟩
theorem rFormT_len {w : World} {v : Value} {q : Int} {N : List Int} {D : List (List Int)} (h : TxV w v q N D) (hl : ¬ 37 < N.length) (hd : D.length ≠ N.length) : Calls Try.prog 11 #[v] w fun e w' => e = .returned (.bool false) ∧ Below w.heap.size w w' := by
  obtain ⟨no, nc, ao, dc, rfl, hN, hD⟩ := h
  obtain ⟨n, hn⟩ : ∃ n, n = N.length := ⟨_, rfl⟩
  obtain ⟨m, hm⟩ : ∃ m, m = D.length := ⟨_, rfl⟩
  rw [← hn] at hl hd ⊢
  rw [← hm] at hd ⊢
  have hbx := below_box w (.cells #[.int .u32 q, .slice no n nc, .slice ao m dc] 26)
  have hnx := heap_alloc_new w (.cells #[.int .u32 q, .slice no n nc, .slice ao m dc] 26)
  have hli : ¬ (37 : Int) < (n : Int) := by omega
  have hne : ¬ (m : Int) = (n : Int) := by omega
  have hne2 : ((m : Int) != (n : Int)) = true := by simpa using hne
  clear hN hD hn hm
  go_enter Try.func11, Try.ntmps11
  go_upto_region 1 with (fail)
  generalize w.alloc (.cells #[.int .u32 q, .slice no n nc, .slice ao m dc] 26) = u at hbx hnx ⊢
  have d1 : u.cell? ⟨w.heap.size, 1, none⟩ = some (.slice no n nc) := by rw [cell_of_row _ _ _ _ _ _ hnx]; rfl
  have d2 : u.cell? ⟨w.heap.size, 2, none⟩ = some (.slice ao m dc) := by rw [cell_of_row _ _ _ _ _ _ hnx]; rfl
  clear hnx
  go_wp2
  go_ret
  exact ⟨rfl, hbx⟩
set_option maxHeartbeats 1000000 in
theorem rFormT_few {w : World} {v : Value} {q : Int} {N : List Int} {D : List (List Int)} (h : TxV w v q N D) (hl : N.length ≤ 37) (hd : D.length = N.length) (B : Bool) (hB : frmT N D = B) : Calls Try.prog 11 #[v] w fun e w' => e = .returned (.bool B) ∧ Below w.heap.size w w' := by
  obtain ⟨no, nc, ao, dc, rfl, hN, hD⟩ := h
  have HNO := Lib.hid (fun k hk h => frmT_no (N := N) (D := D) k hk h)
  have HYE := Lib.hid (fun h => frmT_yes (N := N) (D := D) hl hd ((frmTK_iff N D _).2 h))
  have HNT := Lib.hid (fun k hk => newT_iff N k hk)
  rw [hB] at HNO HYE
  obtain ⟨no', nc', hv1, hn1⟩ := hN.1.open'
  obtain ⟨rfl, rfl⟩ : no = no' ∧ nc = nc' := ⟨(Value.slice.inj hv1).1, (Value.slice.inj hv1).2.2⟩
  obtain ⟨ao', dc', hv2, _, hd1⟩ := hD.open'
  obtain ⟨rfl, rfl⟩ : ao = ao' ∧ dc = dc' := ⟨(Value.slice.inj hv2).1, (Value.slice.inj hv2).2.2⟩
  rw [hd] at hd1 ⊢
  obtain ⟨n, hn⟩ : ∃ n, n = N.length := ⟨_, rfl⟩
  rw [← hn] at hl HNO HYE HNT hn1 hd1 ⊢
  have HN1 := Lib.hid hn1
  have HD1 := Lib.hid hd1
  have hbx := below_box w (.cells #[.int .u32 q, .slice no n nc, .slice ao n dc] 26)
  have hnx := heap_alloc_new w (.cells #[.int .u32 q, .slice no n nc, .slice ao n dc] 26)
  have hli : ¬ (37 : Int) < (n : Int) := by omega
  clear hN hD hn hv1 hv2 hn1 hd1 hd hB
  go_enter Try.func11, Try.ntmps11
  go_upto_region 1 with (fail)
  have hzu : w.heap.size < (w.alloc (.cells #[.int .u32 q, .slice no n nc, .slice ao n dc] 26)).heap.size := by simp
  generalize w.alloc (.cells #[.int .u32 q, .slice no n nc, .slice ao n dc] 26) = u at hbx hnx hzu ⊢
  have d1 : u.cell? ⟨w.heap.size, 1, none⟩ = some (.slice no n nc) := by rw [cell_of_row _ _ _ _ _ _ hnx]; rfl
  have d2 : u.cell? ⟨w.heap.size, 2, none⟩ = some (.slice ao n dc) := by rw [cell_of_row _ _ _ _ _ _ hnx]; rfl
  obtain ⟨d, hdd⟩ : ∃ d, d = w.heap.size := ⟨_, rfl⟩
  rw [← hdd] at d1 d2 hzu ⊢
  have HD0 := Lib.hid hdd
  have HBX := Lib.hid hbx
  have D1 := Lib.hid d1
  have D2 := Lib.hid d2
  have HZU := Lib.hid hzu
  clear hnx hdd hbx
  go_wp2
  clear d1 d2 hzu
  have hbu : Below u.heap.size u u := Below.refl _ _
  go_loopw [21] (fun i wr => ∃ k : Nat, k ≤ n ∧ i = .int .i64 k ∧ Hid (∀ j, j < k → okT9 N D j = true) ∧ Below u.heap.size u wr) (fun i _ => n - (intOf i).toNat)
  case atStart => exact ⟨0, by omega, rfl, fun j hj => absurd hj (Nat.not_lt_zero _), hbu⟩
  case round =>
    obtain ⟨k, hk, rfl, HK, hbr⟩ := hrel
    clear hbu
    have d1 := (hbr.cell (p := ⟨d, 1, none⟩) HZU.out).trans D1.out
    have d2 := (hbr.cell (p := ⟨d, 2, none⟩) HZU.out).trans D2.out
    have HBR := Lib.hid hbr
    have HB0 := Lib.hid (HBX.out.trans (hbr.mono HBX.out.size))
    clear hbr
    by_cases hlt : k < n
    · obtain ⟨b, off, rfl, hb, hcc⟩ := HN1.out (by omega)
      obtain ⟨b', off', rfl, hb', hcc'⟩ := HD1.out (by omega)
      obtain ⟨uk, hck', huk⟩ := hcc' k hlt
      obtain ⟨uo, uc, rfl, _⟩ := huk.shape
      have ck := (HB0.out.cell (p := ⟨b, off + k, none⟩) hb).trans (hcc k hlt)
      have ck' := (HB0.out.cell (p := ⟨b', off' + k, none⟩) hb').trans hck'
      have HCC := Lib.hid hcc
      have hno := HNO.out k hlt
      have hnt := HNT.out k hlt
      have hok : okT9 N D k = (inP9 (N.getD k 0) && (decide ((D.getD k []).length = 256) && newT N k)) := rfl
      obtain ⟨x, hx⟩ : ∃ x, x = N.getD k 0 := ⟨_, rfl⟩
      obtain ⟨y, hy⟩ : ∃ y, y = (D.getD k []).length := ⟨_, rfl⟩
      rw [← hx] at ck hok hnt
      rw [← hy] at ck' hok
      have HNO1 := Lib.hid hno
      have HOK := Lib.hid hok
      have HNT1 := Lib.hid hnt
      have HXX := Lib.hid hx
      have ek : (k : Int) < (n : Int) := by omega
      have HBL := Lib.hid hb
      clear hcc hcc' hck' huk hno hnt hok hx hy hb hb'
      cases hf : inB x
      · have hin : inP9 x = false := hf
        have hR := HNO1.out (by rw [HOK.out, hin]; rfl)
        subst hR
        have KP := Lib.hid (fun W => rPlace_is x false hf W)
        clear hf hin
        go_wp2_with (go_at_call 23; (with_reducible refine (KP.out _).mono ?_); rintro e w2 ⟨rfl, rfl⟩)
        go_ret
        exact ⟨rfl, HB0.out⟩
      · have hin : inP9 x = true := hf
        have KP := Lib.hid (fun W => rPlace_is x true hf W)
        have HIN := Lib.hid hin
        clear hf hin
        by_cases hy : y = 256
        · subst hy
          have HOK2 : Hid (okT9 N D k = newT N k) := Lib.hid (by rw [HOK.out, HIN.out]; simp)
          go_wp2_with (go_at_call 23; (with_reducible refine (KP.out _).mono ?_); rintro e w2 ⟨rfl, rfl⟩)
          clear d1 d2 ck ck'
          have hbu : Below u.heap.size u wr := HBR.out
          go_loopw [41] (fun i wi => ∃ j : Nat, j ≤ k ∧ i = .int .i64 j ∧ Hid (∀ i, i < j → N.getD i 0 ≠ x) ∧ Below u.heap.size u wi) (fun i _ => k - (intOf i).toNat)
          case atStart => exact ⟨0, by omega, rfl, fun j hj => absurd hj (Nat.not_lt_zero _), hbu⟩
          case round =>
            obtain ⟨j, hj, rfl, HJ, hbi⟩ := hrel
            clear hbu
            by_cases hlj : j < k
            · have HBI := Lib.hid hbi
              have hb0 := HBX.out.trans (hbi.mono HBX.out.size)
              have d1 : wr.cell? ⟨d, 1, none⟩ = some (.slice (some ⟨b, off, none⟩) n nc) := (hbi.cell (p := ⟨d, 1, none⟩) HZU.out).trans D1.out
              have cj : wr.cell? ⟨b, off + j, none⟩ = some (.int .i64 (N.getD j 0)) := (hb0.cell (p := ⟨b, off + j, none⟩) HBL.out).trans (HCC.out j (by omega))
              have ck : wr.cell? ⟨b, off + k, none⟩ = some (.int .i64 x) := by rw [HXX.out]; exact (hb0.cell (p := ⟨b, off + k, none⟩) HBL.out).trans (HCC.out k hlt)
              obtain ⟨z, hz⟩ : ∃ z, z = N.getD j 0 := ⟨_, rfl⟩
              rw [← hz] at cj
              have HZ := Lib.hid hz
              have HB00 := Lib.hid hb0
              have ejk : (j : Int) < (k : Int) := by omega
              have ejn : (j : Int) < (n : Int) := by omega
              have ejn2 : j < n := by omega
              clear hz hbi hb0
              by_cases e : z = x
              · have hR := HNO1.out (by rw [HOK2.out]; cases hq : newT N k; rfl; exact absurd (HZ.out.symm.trans e) (HNT1.out.1 hq j hlj))
                subst hR
                have e1 : decide (z = x) = true := decide_eq_true e
                go_wp2
                go_quiet (fail)
                go_wp2
                go_ret
                exact ⟨rfl, below_drewN' HB00.out nq⟩
              · have e1 : decide (z = x) = false := decide_eq_false e
                have HE := Lib.hid e
                go_wp2
                go_quiet (fail)
                go_wp2
                go_roundw
                case rel =>
                  refine ⟨j + 1, by omega, by go_num, fun i hi => ?_, below_drewN' HBI.out nq⟩
                  by_cases ei : i = j
                  · subst ei; rw [← HZ.out]; exact HE.out
                  · exact HJ.out i (by omega)
                case measure => simp [intOf]; omega
            · obtain rfl : j = k := by omega
              go_wp2
              go_roundw
              case rel =>
                refine ⟨j + 1, by omega, by go_num, fun i hi => ?_, hbi⟩
                by_cases ei : i = j
                · subst ei
                  rw [HOK2.out]
                  exact HNT1.out.2 HJ.out
                · exact HK.out i (by omega)
              case measure => simp [intOf]; omega
        · have hR := HNO1.out (by rw [HOK.out, decide_eq_false hy, Bool.false_and, Bool.and_false])
          subst hR
          have hyi : ¬ (y : Int) = 256 := by omega
          have hyn : ((y : Int) != 256) = true := by simpa using hyi
          go_wp2_with (go_at_call 23; (with_reducible refine (KP.out _).mono ?_); rintro e w2 ⟨rfl, rfl⟩)
          go_ret
          exact ⟨rfl, HB0.out⟩
    · obtain rfl : k = n := by omega
      have hR := HYE.out HK.out
      subst hR
      go_wp2
      go_ret
      exact ⟨rfl, HB0.out⟩
end Go.Proofs.Ytmjndpmpeidhaaa
