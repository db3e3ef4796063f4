/- The reference's Pack. -/
import Derived.Test.YtmjndpmpeidhaaaTxnI
import Derived.Deep.RegionHeld
import Derived.OrdersHeld
namespace Go.Proofs.Ytmjndpmpeidhaaa
open Go.RowKit
set_option linter.unusedVariables false

theorem rFormT_is {w : World} {v : Value} {q : Int} {N : List Int} {D : List (List Int)} (h : TxV w v q N D) (B : Bool) (hB : frmT N D = B) : Calls Try.prog 11 #[v] w fun e w' => e = .returned (.bool B) ∧ Below w.heap.size w w' := by
  by_cases h37 : 37 < N.length
  · rw [frmT_long h37] at hB
    subst hB
    exact rFormT_long h h37
  · by_cases hd : D.length = N.length
    · exact rFormT_few h (by omega) hd B hB
    · rw [frmT_len hd] at hB
      subst hB
      exact rFormT_len h h37 hd
theorem rPackT_no {w : World} {v : Value} {q : Int} {N : List Int} {D : List (List Int)} (h : TxV w v q N D) (hf : frmT N D = false) :
    Calls Try.prog 9 #[v] w fun e w' => e = .returned (.tuple #[.slice none 0 0, .int .i64 1]) ∧ Below w.heap.size w w' := by
  have h' := h
  obtain ⟨no, nc, ao, dc, rfl, hN, hD⟩ := h
  obtain ⟨n, hn⟩ : ∃ n, n = N.length := ⟨_, rfl⟩
  obtain ⟨m, hm⟩ : ∃ m, m = D.length := ⟨_, rfl⟩
  rw [← hn, ← hm] at h' ⊢
  have hbx := below_box w (.cells #[.int .u32 q, .slice no n nc, .slice ao m dc] 26)
  have hnx := heap_alloc_new w (.cells #[.int .u32 q, .slice no n nc, .slice ao m dc] 26)
  have KF := Lib.hid (rFormT_is (h'.below hbx) false hf)
  clear hN hD hn hm h' hf
  go_enter Try.func9, Try.ntmps9
  go_upto_region 1 with (fail)
  generalize w.alloc (.cells #[.int .u32 q, .slice no n nc, .slice ao m dc] 26) = u at hbx hnx KF ⊢
  have d0 : u.cell? ⟨w.heap.size, 0, none⟩ = some (.int .u32 q) := by rw [cell_of_row _ _ _ _ _ _ hnx]; rfl
  have d1 : u.cell? ⟨w.heap.size, 1, none⟩ = some (.slice no n nc) := by rw [cell_of_row _ _ _ _ _ _ hnx]; rfl
  have d2 : u.cell? ⟨w.heap.size, 2, none⟩ = some (.slice ao m dc) := by rw [cell_of_row _ _ _ _ _ _ hnx]; rfl
  clear hnx
  go_wp2_with (go_at_call 11; (with_reducible refine KF.out.mono ?_); rintro e w2 ⟨rfl, hb2⟩)
  go_ret2
  exact ⟨rfl, hbx.trans (hb2.mono hbx.size)⟩
set_option maxHeartbeats 1000000 in
theorem rPackT_yes {w : World} {v : Value} {q : Int} {N : List Int} {D : List (List Int)} (h : TxV w v q N D) (hf : frmT N D = true) (q0 : 0 ≤ q) (q1 : q < 4294967296) :
    Calls Try.prog 9 #[v] w fun e w' => ∃ u, e = .returned (.tuple #[u, .int .i64 0]) ∧ BBSl w' u (packT q N D) ∧ Below w.heap.size w w' := by
  have h' := h
  obtain ⟨no, nc, ao, dc, rfl, hN, hD⟩ := h
  obtain ⟨f1, f2, f3⟩ := frmT_of hf
  obtain ⟨no', nc', hv1, hn1⟩ := hN.1.open'
  obtain ⟨rfl, rfl⟩ : no = no' ∧ nc = nc' := ⟨(Value.slice.inj hv1).1, (Value.slice.inj hv1).2.2⟩
  obtain ⟨ao', dc', hv2, _, hd1⟩ := hD.open'
  obtain ⟨rfl, rfl⟩ : ao = ao' ∧ dc = dc' := ⟨(Value.slice.inj hv2).1, (Value.slice.inj hv2).2.2⟩
  have HX := Lib.hid (fun i hi => (f3 i hi).1)
  have HD256 := Lib.hid (fun i hi => (f3 i hi).2.1)
  have HZ := Lib.hid (headK_zero q N)
  have HS := Lib.hid (headK_succ q N)
  have HF := Lib.hid (headK_full q N)
  have HLN := Lib.hid (headK_length q N)
  have HQ : Hid (0 ≤ q ∧ q < 4294967296) := Lib.hid ⟨q0, q1⟩
  have HPK : Hid (packT q N D = ([sealS (headL q N)] ++ D) ++ [sealS (endL q)]) := Lib.hid rfl
  obtain ⟨n, hn⟩ : ∃ n, n = N.length := ⟨_, rfl⟩
  have HL1 := Lib.hid (sealS_length (headL q N) (by rw [headL_length]; omega))
  obtain ⟨EB, hEB⟩ : ∃ EB, EB = sealS (endL q) := ⟨_, rfl⟩
  have HL2 : Hid (EB.length = 256) := Lib.hid (by rw [hEB]; exact sealS_length (endL q) (by rw [endL_length]; omega))
  rw [← hEB] at HPK
  have HEB := Lib.hid hEB
  clear hEB
  rw [f2] at h' hd1 ⊢
  rw [← hn] at h' hn1 hd1 HX HD256 HZ HS HF f1 f2 ⊢
  have HL := Lib.hid f2
  have HNC := Lib.hid hn1
  have HDC := Lib.hid hd1
  have hbx := below_box w (.cells #[.int .u32 q, .slice no n nc, .slice ao n dc] 26)
  have hnx := heap_alloc_new w (.cells #[.int .u32 q, .slice no n nc, .slice ao n dc] 26)
  have KF := Lib.hid (rFormT_is (h'.below hbx) true hf)
  have hwq : IntKind.u64.wrap q = q := IntWalk.u64_in _ (by omega)
  have hwn : IntKind.u64.wrap (n : Int) = (n : Int) := IntWalk.u64_in _ (by omega)
  have K1 := Lib.hid (fun W v (hv : BSl W v jrnl) => rPut_at hv (by decide) q 4 4 (by omega) (by omega) rfl q0 (by omega))
  have K2 := Lib.hid (fun W v (hv : BSl W v (jrnl ++ lowB q 4)) => rPut_at hv (by rw [List.length_append, lowB_length]; decide) (n : Int) 2 2 (by omega) (by omega) rfl (by omega) (by omega))
  have kc := fun (w : World) (C : Array Value) (n c : Nat) => Lib.run_convert_bytes_const (P := Try.prog) w 40 5 C n c Try.underlying40 Try.underlying5
  have KE1 := Lib.hid (fun W v (hv : BSl W v done9) => rPut_at hv (by decide) q 4 4 (by omega) (by omega) rfl q0 (by omega))
  have KE2 := Lib.hid (fun W v (hv : BSl W v (done9 ++ lowB q 4)) => rSeal_yes hv (by rw [List.length_append, lowB_length]; decide))
  have HKC := Lib.hid kc
  have HTK := Lib.hid (fun k => List.length_take (i := k) (l := D))
  clear hN hD hn h' hf f2 f3 q0 q1 hv1 hv2 hn1 hd1
  go_enter Try.func9, Try.ntmps9
  go_upto_region 1 with (fail)
  have hzu : w.heap.size < (w.alloc (.cells #[.int .u32 q, .slice no n nc, .slice ao n dc] 26)).heap.size := by simp
  generalize w.alloc (.cells #[.int .u32 q, .slice no n nc, .slice ao n dc] 26) = u at hbx hnx KF hzu ⊢
  have d0 : u.cell? ⟨w.heap.size, 0, none⟩ = some (.int .u32 q) := by rw [cell_of_row _ _ _ _ _ _ hnx]; rfl
  have d1 : u.cell? ⟨w.heap.size, 1, none⟩ = some (.slice no n nc) := by rw [cell_of_row _ _ _ _ _ _ hnx]; rfl
  have d2 : u.cell? ⟨w.heap.size, 2, none⟩ = some (.slice ao n dc) := by rw [cell_of_row _ _ _ _ _ _ hnx]; rfl
  clear hnx
  go_wp2_with (go_at_call 11; (with_reducible refine KF.out.mono ?_); rintro e w2 ⟨rfl, hb2⟩)
  have HB2 : Hid (Below w.heap.size w w2.drew) := Lib.hid (below_drewN' (hbx.trans (hb2.mono hbx.size)) 1)
  have e0 : w2.drew.cell? ⟨w.heap.size, 0, none⟩ = some (.int .u32 q) := (hb2.cell (p := ⟨w.heap.size, 0, none⟩) hzu).trans d0
  have e1 : w2.drew.cell? ⟨w.heap.size, 1, none⟩ = some (.slice no n nc) := (hb2.cell (p := ⟨w.heap.size, 1, none⟩) hzu).trans d1
  have e2 : w2.drew.cell? ⟨w.heap.size, 2, none⟩ = some (.slice ao n dc) := (hb2.cell (p := ⟨w.heap.size, 2, none⟩) hzu).trans d2
  have hz2 : w.heap.size < w2.drew.heap.size := Nat.lt_of_lt_of_le hzu hb2.size
  obtain ⟨d, hd⟩ : ∃ d, d = w.heap.size := ⟨_, rfl⟩
  rw [← hd] at HB2 e0 e1 e2 hz2 ⊢
  have HD0 := Lib.hid hd
  clear d0 d1 d2 hbx hb2 hzu KF hd
  have kc2 : (convert 40 40 (.slice (some ⟨w2.heap.size, 0, none⟩) 4 4)).run Try.prog (w2.alloc (.cells #[.int .u8 106, .int .u8 114, .int .u8 110, .int .u8 108] 5)).drew = .ok (.slice (some ⟨w2.heap.size, 0, none⟩) 4 4) (w2.alloc (.cells #[.int .u8 106, .int .u8 114, .int .u8 110, .int .u8 108] 5 (4, 5))).drew := kc w2.drew #[.int .u8 106, .int .u8 114, .int .u8 110, .int .u8 108] 4 4
  have hb0 : Below w2.drew.heap.size w2.drew (w2.alloc (.cells #[.int .u8 106, .int .u8 114, .int .u8 110, .int .u8 108] 5)).drew := below_box w2.drew (.cells #[.int .u8 106, .int .u8 114, .int .u8 110, .int .u8 108] 5)
  have hb1 : Below w2.drew.heap.size w2.drew (w2.alloc (.cells #[.int .u8 106, .int .u8 114, .int .u8 110, .int .u8 108] 5 (4, 5))).drew := below_box w2.drew (.cells #[.int .u8 106, .int .u8 114, .int .u8 110, .int .u8 108] 5 (4, 5))
  have hbj : BSl (w2.alloc (.cells #[.int .u8 106, .int .u8 114, .int .u8 110, .int .u8 108] 5 (4, 5))).drew (.slice (some ⟨w2.heap.size, 0, none⟩) 4 4) jrnl := bsl_jrnl w2.drew
  have hza : d < (w2.alloc (.cells #[.int .u8 106, .int .u8 114, .int .u8 110, .int .u8 108] 5 (4, 5))).drew.heap.size := Nat.lt_of_lt_of_le hz2 hb1.size
  have a0 := (hb0.cell (p := ⟨d, 0, none⟩) hz2).trans e0
  have a1 := (hb0.cell (p := ⟨d, 1, none⟩) hz2).trans e1
  have b0 := (hb1.cell (p := ⟨d, 0, none⟩) hz2).trans e0
  have b1 := (hb1.cell (p := ⟨d, 1, none⟩) hz2).trans e1
  clear kc
  refine wp_region_held_drew (S := fun W => W.cell? ⟨d, 0, none⟩ = some (.int .u32 q) ∧ W.cell? ⟨d, 1, none⟩ = some (.slice no n nc)) (by kernel_rfl) ⟨e0, e1⟩ (fun hHeld => ?_)
  refine wpAnyH_take (i := 2) (v := .pointer (some ⟨d, 0, none⟩)) rfl (by kernel_rfl) (by kernel_rfl) (by kernel_rfl) (fun _ _ _ h => h) (Or.inl ⟨by rfl, ?_⟩) (by assumption) ?_
  · intro W hSw
    obtain ⟨s0, s1⟩ := hSw
    go_simp
  simp only [Act.put, List.setIfInBounds_toArray, List.set_cons_zero, List.set_cons_succ, List.getElem_toArray, List.getElem_cons_zero, List.getElem_cons_succ]
  refine wpAnyH_take (i := 3) (v := .int .u32 q) rfl (by kernel_rfl) (by kernel_rfl) (by kernel_rfl) (fun _ _ _ h => h) (Or.inl ⟨by rfl, ?_⟩) (by assumption) ?_
  · intro W hSw
    obtain ⟨s0, s1⟩ := hSw
    go_simp
  simp only [Act.put, List.setIfInBounds_toArray, List.set_cons_zero, List.set_cons_succ, List.getElem_toArray, List.getElem_cons_zero, List.getElem_cons_succ]
  refine wpAnyH_take (i := 4) (v := .int .u64 q) rfl (by kernel_rfl) (by kernel_rfl) (by kernel_rfl) (fun _ _ _ h => h) (Or.inl ⟨by rfl, ?_⟩) (by assumption) ?_
  · intro W hSw
    obtain ⟨s0, s1⟩ := hSw
    go_simp
  simp only [Act.put, List.setIfInBounds_toArray, List.set_cons_zero, List.set_cons_succ, List.getElem_toArray, List.getElem_cons_zero, List.getElem_cons_succ]
  refine wpAnyH_take (i := 6) (v := .pointer (some ⟨d, 1, none⟩)) rfl (by kernel_rfl) (by kernel_rfl) (by kernel_rfl) (fun _ _ _ h => h) (Or.inl ⟨by rfl, ?_⟩) (by assumption) ?_
  · intro W hSw
    obtain ⟨s0, s1⟩ := hSw
    go_simp
  simp only [Act.put, List.setIfInBounds_toArray, List.set_cons_zero, List.set_cons_succ, List.getElem_toArray, List.getElem_cons_zero, List.getElem_cons_succ]
  refine wpAnyH_take (i := 7) (v := .slice no n nc) rfl (by kernel_rfl) (by kernel_rfl) (by kernel_rfl) (fun _ _ _ h => h) (Or.inl ⟨by rfl, ?_⟩) (by assumption) ?_
  · intro W hSw
    obtain ⟨s0, s1⟩ := hSw
    go_simp
  simp only [Act.put, List.setIfInBounds_toArray, List.set_cons_zero, List.set_cons_succ, List.getElem_toArray, List.getElem_cons_zero, List.getElem_cons_succ]
  refine wpAnyH_take (i := 8) (v := .int .i64 (n : Int)) rfl (by kernel_rfl) (by kernel_rfl) (by kernel_rfl) (fun _ _ _ h => h) (Or.inl ⟨by rfl, ?_⟩) (by assumption) ?_
  · intro W hSw
    obtain ⟨s0, s1⟩ := hSw
    go_simp
  simp only [Act.put, List.setIfInBounds_toArray, List.set_cons_zero, List.set_cons_succ, List.getElem_toArray, List.getElem_cons_zero, List.getElem_cons_succ]
  refine wpAnyH_take (i := 9) (v := .int .u64 (n : Int)) rfl (by kernel_rfl) (by kernel_rfl) (by kernel_rfl) (fun _ _ _ h => h) (Or.inl ⟨by rfl, ?_⟩) (by assumption) ?_
  · intro W hSw
    obtain ⟨s0, s1⟩ := hSw
    go_simp
  simp only [Act.put, List.setIfInBounds_toArray, List.set_cons_zero, List.set_cons_succ, List.getElem_toArray, List.getElem_cons_zero, List.getElem_cons_succ]
  refine wpAnyH_ready (rs := [0]) (by kernel_rfl) (by simp) (AllReadyH.cons rfl (fun K hK => ?_) AllReadyH.nil)
  go_simp
  refine hK.out _ _ ⟨a0, a1⟩ (fun hHeld => ?_)
  clear hK K
  refine wpAnyH_ready (rs := [1]) (by kernel_rfl) (by simp) (AllReadyH.cons rfl (fun K hK => ?_) AllReadyH.nil)
  go_simp
  refine hK.out _ _ ⟨b0, b1⟩ (fun hHeld => ?_)
  clear hK K
  refine wpAnyH_ready (rs := [5]) (by kernel_rfl) (by simp) (AllReadyH.cons rfl (fun K hK => ?_) AllReadyH.nil)
  go_simp
  go_at_call 19
  refine (K1.out _ _ hbj).mono ?_
  rintro e w3 ⟨v3, rfl, hob3, hb3⟩
  have c0 := (hb3.cell (p := ⟨d, 0, none⟩) hza).trans b0
  have c1 := (hb3.cell (p := ⟨d, 1, none⟩) hza).trans b1
  have c2 := (hb3.cell (p := ⟨d, 2, none⟩) hza).trans ((hb1.cell (p := ⟨d, 2, none⟩) hz2).trans e2)
  have hz3 := Nat.lt_of_lt_of_le hza hb3.size
  have HB3 := Lib.hid (HB2.out.trans ((hb1.trans (hb3.mono hb1.size)).mono (Nat.le_of_lt hz2)))
  have HV3 := Lib.hid hob3.bsl
  refine hK.out _ _ ⟨c0, c1⟩ (fun hHeld => ?_)
  clear hK K
  refine wpAnyH_ready (rs := [10]) (by kernel_rfl) (by simp) (AllReadyH.cons rfl (fun K hK => ?_) AllReadyH.nil)
  go_simp
  go_at_call 19
  refine (K2.out _ _ HV3.out).mono ?_
  rintro e w4 ⟨v4, rfl, hob4, hb4⟩
  have g0 := (hb4.cell (p := ⟨d, 0, none⟩) hz3).trans c0
  have g1 := (hb4.cell (p := ⟨d, 1, none⟩) hz3).trans c1
  have g2 := (hb4.cell (p := ⟨d, 2, none⟩) hz3).trans c2
  have hz4 := Nat.lt_of_lt_of_le hz3 hb4.size
  have HB4 := Lib.hid (HB3.out.trans (hb4.mono (Nat.le_of_lt hz3)))
  have HV4 : Hid (BSl w4 v4 (headK q N 0)) := Lib.hid (by rw [HZ.out]; exact hob4.bsl)
  refine hK.out _ _ ⟨g0, g1⟩ (fun hHeld => ?_)
  clear hK K
  refine wpAnyH_take (i := 11) (v := v4) rfl (by kernel_rfl) (by kernel_rfl) (by kernel_rfl) (fun _ _ _ h => h) (Or.inl ⟨by rfl, ?_⟩) (by assumption) ?_
  · intro W hSw
    obtain ⟨s0, s1⟩ := hSw
    go_simp
  simp only [Act.put, List.setIfInBounds_toArray, List.set_cons_zero, List.set_cons_succ, List.getElem_toArray, List.getElem_cons_zero, List.getElem_cons_succ]
  refine wpAnyH_done (by kernel_rfl) ?_ _
  clear kc2 hb0 hb1 hbj hza a0 a1 b0 b1 e0 e1 e2 hz2 hHeld c0 c1 c2 hb3 hb4 hob3 hob4 hz3 HB3 HV3
  go_wp2
  have G0 := Lib.hid g0
  have G1 := Lib.hid g1
  have G2 := Lib.hid g2
  have hb44 : Below w4.heap.size w4 w4 := Below.refl _ _
  clear g0 g1 g2
  go_loopw [4, 29] (fun u i wr => ∃ k : Nat, k ≤ n ∧ i = .int .i64 k ∧ Hid (BSl wr u (headK q N k)) ∧ Hid (Below w4.heap.size w4 wr)) (fun _ i _ => n - (intOf i).toNat)
  case atStart => exact ⟨0, by omega, rfl, HV4, hb44⟩
  case round =>
    obtain ⟨k, hk, rfl, HV, HB⟩ := hrel
    clear HV4 hb44
    have r1 := (HB.out.cell (p := ⟨d, 1, none⟩) hz4).trans G1.out
    have HB0 := Lib.hid (HB4.out.trans (HB.out.mono (Nat.le_of_lt hz4)))
    by_cases hlt : k < n
    · obtain ⟨b, off, rfl, hb, hcc⟩ := HNC.out (by omega)
      have hck := (HB0.out.cell (p := ⟨b, off + k, none⟩) (by rw [HD0.out]; exact hb)).trans (hcc k hlt)
      obtain ⟨x0, x1⟩ := HX.out k hlt
      have hs1 := HS.out k hlt
      obtain ⟨x, hxx⟩ : ∃ x, x = N.getD k 0 := ⟨_, rfl⟩
      rw [← hxx] at hck x0 x1 hs1
      have HS1 := Lib.hid hs1
      have ek : (k : Int) < (n : Int) := by omega
      have hwx : IntKind.u64.wrap x = x := IntWalk.u64_in _ (by omega)
      have KP := Lib.hid (rPut_at HV.out (by have := HLN.out k (by omega); omega) x 2 2 (by omega) (by omega) rfl x0 (by omega))
      clear hcc hb hxx hs1
      go_wp2_with (go_at_call 19; (with_reducible refine KP.out.mono ?_); rintro e w5 ⟨v5, rfl, hob5, hb5⟩)
      go_roundw
      case rel => exact ⟨k + 1, by omega, by go_num, by show BSl _ _ _; rw [← HS1.out]; exact hob5.bsl, HB.out.trans (hb5.mono HB.out.size)⟩
      case measure => simp [intOf]; omega
    · obtain rfl : k = n := by omega
      have KS := Lib.hid (rSeal_yes HV.out (HLN.out k (by omega)))
      rw [HF.out] at KS
      have hzr := Nat.lt_of_lt_of_le hz4 HB.out.size
      have R0 := Lib.hid ((HB.out.cell (p := ⟨d, 0, none⟩) hz4).trans G0.out)
      have r2 := (HB.out.cell (p := ⟨d, 2, none⟩) hz4).trans G2.out
      have R2 := Lib.hid r2
      clear r1
      go_wp2_with (go_at_call 20; (with_reducible refine KS.out.mono ?_); rintro e w5 ⟨v5, rfl, hob5, hb5⟩
                   obtain ⟨ho, hc, rfl, _⟩ := hob5.bsl.shape
                   have r2o := (hb5.cell (p := ⟨d, 2, none⟩) hzr).trans R2.out
                   have hz5 := Nat.lt_of_lt_of_le hzr hb5.size
                   have r2 := fun o => ((below_box w5 o).cell (p := ⟨d, 2, none⟩) hz5).trans r2o
                   have HO5 := Lib.hid (hob5.elt (B := d + 1))
                   rw [HL1.out] at HO5 ⊢)
      have r0o := (hb5.cell (p := ⟨d, 0, none⟩) hzr).trans R0.out
      have hbx := below_box w5 (.cells #[.slice ho 256 hc] 40)
      have ho6 := bbr_one HO5.out hz5
      have HB05 := HB0.out.trans (hb5.mono (Nat.le_of_lt hzr))
      have HZ6 := Lib.hid (Nat.lt_of_lt_of_le hz5 hbx.size)
      have HBX := Lib.hid (HB05.trans (hbx.mono (Nat.le_of_lt hz5)))
      have R06 := Lib.hid ((hbx.cell (p := ⟨d, 0, none⟩) hz5).trans r0o)
      have R26 := Lib.hid (r2 (.cells #[.slice ho 256 hc] 40))
      clear r2 r2o r0o hbx HB05 hb5 hob5 KS HV
      generalize w5.alloc (.cells #[.slice ho 256 hc] 40) = w6 at ho6 HZ6 HBX R06 R26 ⊢
      obtain ⟨p, hp⟩ : ∃ p, p = d + 1 := ⟨_, rfl⟩
      rw [← hp] at ho6
      have HDP : Hid (d < p) := Lib.hid (by omega)
      have HPZ : Hid (p ≤ w6.heap.size) := Lib.hid (by have := HZ6.out; omega)
      have HO6 : Hid (BBR w6 p (.slice (some ⟨w5.heap.size, 0, none⟩) 1 1) ([sealS (headL q N)] ++ D.take 0)) := Lib.hid (by rw [List.take_zero, List.append_nil]; exact ho6)
      have hb66 : Hid (Below p w6 w6) := Lib.hid (Below.refl _ _)
      obtain ⟨e5, he5⟩ : ∃ e5, e5 = w5.heap.size := ⟨_, rfl⟩
      rw [← he5] at HO6 ⊢
      clear ho6 he5 HO5 hz5 hp
      go_loopw [8, 51] (fun u i wr => ∃ j : Nat, j ≤ k ∧ i = .int .i64 j ∧ Hid (BBR wr p u ([sealS (headL q N)] ++ D.take j)) ∧ Hid (Below p w6 wr)) (fun _ i _ => k - (intOf i).toNat)
      case atStart => exact ⟨0, by omega, rfl, HO6, hb66⟩
      case round =>
        obtain ⟨j, hj, rfl, HU, HBJ⟩ := hrel
        clear HO6 hb66
        have HB0J := Lib.hid (HBX.out.trans (HBJ.out.mono (Nat.le_of_lt HDP.out)))
        have hzj := Nat.lt_of_lt_of_le HZ6.out HBJ.out.size
        have HPJ := Lib.hid (Nat.le_trans HPZ.out HBJ.out.size)
        by_cases hlj : j < k
        · have r2 := (HBJ.out.cell (p := ⟨d, 2, none⟩) HDP.out).trans R26.out
          obtain ⟨b, off, rfl, hb, hcc⟩ := HDC.out (by omega)
          obtain ⟨uj, hcj, huj⟩ := hcc j hlj
          have r2' := fun o => ((below_box _ o).cell (p := ⟨d, 2, none⟩) hzj).trans r2
          have hbd : b < d := by rw [HD0.out]; exact hb
          have cj := (HB0J.out.cell (p := ⟨b, off + j, none⟩) hbd).trans hcj
          have hbr : b < wr.heap.size := Nat.lt_trans hbd hzj
          have cj' := fun o => ((below_box wr o).cell (p := ⟨b, off + j, none⟩) hbr).trans cj
          have HUJ := Lib.hid (huj.below (by have := HB0J.out; rw [HD0.out] at this; exact this))
          obtain ⟨xo, xc, rfl, _⟩ := huj.shape
          have h256 := HD256.out j hlj
          have htk : D.take (j + 1) = D.take j ++ [D.getD j []] := by
            have hjl : j < D.length := by rw [HL.out]; exact hlj
            rw [List.take_succ_eq_append_getElem hjl]
            simp [List.getD_eq_getElem?_getD, hjl]
          obtain ⟨y, hy⟩ : ∃ y, y = D.getD j [] := ⟨_, rfl⟩
          rw [← hy] at HUJ h256 htk cj cj'
          rw [h256] at HUJ cj cj'
          have HTJ := Lib.hid htk
          have HLY : Hid (([] : List Int).length + y.length ≤ 140737488355328) := Lib.hid (by rw [h256]; decide)
          have HY256 := Lib.hid h256
          have HLL : Hid (([sealS (headL q N)] ++ D.take j).length ≤ 100000) := Lib.hid (by rw [List.length_append, HTK.out]; simp; omega)
          have HEM := Lib.hid (ob_empty wr)
          have HKA := Lib.hid (fun (p : Addr) (hp : p.block < wr.heap.size) => World.cell?_alloc_lt wr (.cells #[] 5) p hp)
          have hsz : wr.heap.size ≤ (wr.alloc (.cells #[] 5)).heap.size := by simp
          have hb0 := below_box wr (.cells #[] 5)
          have ejk : (j : Int) < (k : Int) := by omega
          clear hcc hcj huj htk h256 hb hbd hy
          go_wp2_with (first
            | (at_builtin; refine wpList_append_bytes _ rfl (.tmp 55) (.tmp 60) rfl wr.heap.size _ [] rfl HEM.out wr _ y rfl HUJ.out HKA.out HLY.out hsz ?_
               intro v7 w7 hob7 hb7 _
               obtain ⟨yo, yc, rfl, _⟩ := hob7.bsl.shape
               have HY7 : Hid (BElt w7 p _ y) := Lib.hid hob7.elt
               rw [show (([] : List Int) ++ y).length = 256 from HY256.out] at HY7 ⊢
               have HB7 := Lib.hid (hb0.trans hb7)
               have HG7 := Lib.hid (Nat.le_trans HPJ.out HB7.out.size)
               have HU7 := Lib.hid (HU.out.below HB7.out)
               clear hob7 hb7)
            | (at_builtin; refine wpList_append_bb 24 Try.underlying24 w7 (.slice yo 256 yc) y rfl (.tmp 54) (.tmp 62) rfl p _ ([sealS (headL q N)] ++ D.take j) rfl HU7.out HY7.out w7.heap.size rfl rfl HLL.out HG7.out ?_
               intro v8 w8 hv8 hb8))
          go_roundw
          case rel =>
            refine ⟨j + 1, by omega, by go_num, ?_, ?_⟩
            · show BBR _ _ _ ([sealS (headL q N)] ++ D.take (j + 1))
              rw [HTJ.out, ← List.append_assoc]
              exact hv8
            · exact HBJ.out.trans ((HB7.out.mono HPJ.out).trans hb8)
          case measure => simp [intOf]; omega
        · obtain rfl : j = k := by omega
          have r0 := (HBJ.out.cell (p := ⟨d, 0, none⟩) HDP.out).trans R06.out
          have kc := HKC.out
          have hbe := below_boxF wr #[.int .u8 100, .int .u8 111, .int .u8 110, .int .u8 101] 5 (4, 5)
          have r0' := fun o => ((below_box wr o).cell (p := ⟨d, 0, none⟩) hzj).trans r0
          have HDJ := Lib.hid (show D.take j = D by rw [← HL.out, List.take_length])
          rw [HDJ.out] at HU
          have HLL : Hid (([sealS (headL q N)] ++ D).length ≤ 100000) := Lib.hid (by rw [List.length_append, HL.out]; simp; omega)
          go_wp2_with (first
            | (go_at_call 19; (with_reducible refine (KE1.out _ _ (bsl_done wr)).mono ?_); rintro e w7 ⟨v7, rfl, hob7, hb7⟩
               have HB7 := Lib.hid (hbe.trans (hb7.mono hbe.size)))
            | (go_at_call 20; (with_reducible refine (KE2.out _ _ hob7.bsl).mono ?_); rintro e w8 ⟨v8, rfl, hob8, hb8⟩
               replace hob8 : OB w8 w7.heap.size v8 EB := by rw [HEB.out]; exact hob8
               obtain ⟨yo, yc, rfl, _⟩ := hob8.bsl.shape
               have HY8 : Hid (BElt w8 p _ EB) := Lib.hid hob8.elt
               rw [HL2.out] at HY8 ⊢
               have HB8 := Lib.hid (HB7.out.trans (hb8.mono HB7.out.size))
               have HG8 := Lib.hid (Nat.le_trans HPJ.out HB8.out.size)
               have HU8 := Lib.hid (HU.out.below HB8.out)
               clear hob8 hb8)
            | (at_builtin; refine wpList_append_bb 24 Try.underlying24 w8 (.slice yo 256 yc) EB rfl (.tmp 75) (.tmp 77) rfl p _ ([sealS (headL q N)] ++ D) rfl HU8.out HY8.out w8.heap.size rfl rfl HLL.out HG8.out ?_
               intro v9 w9 hv9 hb9))
          go_ret2
          refine ⟨_, rfl, by rw [HPK.out]; exact hv9.sl, ?_⟩
          rw [← HD0.out]
          exact (HB0J.out.trans (HB8.out.mono (Nat.le_of_lt hzj))).trans (hb9.mono (Nat.le_of_lt HDP.out))
end Go.Proofs.Ytmjndpmpeidhaaa
