/- The reference's Pack. -/
import Derived.Deep.RegionHeld
import Derived.OrdersHeld
import Derived.Laws.Rows
import Derived.Test.YtpjmnmkdegkfcaaC10
namespace Go.Proofs.Ytpjmnmkdegkfcaa
set_option maxRecDepth 100000
open Go.RowKit
set_option linter.unusedVariables false

theorem rFormT_is {w : World} {v : Value} {q : Int} {N : List Int} {D : List (List Int)} (h : TxV w v q N D) (B : Bool) (hB : frmT N D = B) : Calls Try.prog 27 #[v] w fun e w' => e = .returned (.bool B) ∧ Below w.heap.size w w' := by
  by_cases h37 : 37 < N.length
  · rw [frmT_long h37] at hB
    subst hB
    exact rFormT_long h h37
  · by_cases hd : D.length = N.length
    · exact rFormT_few h (by omega) hd B hB
    · rw [frmT_len hd] at hB
      subst hB
      exact rFormT_len h h37 hd
theorem rPackT_no {w : World} {v : Value} {q : Int} {N : List Int} {D : List (List Int)} (h : TxV w v q N D) (hf : frmT N D = false) :
    Calls Try.prog 15 #[v] w fun e w' => e = .returned (.tuple #[.slice none 0 0, .int .i64 1]) ∧ Below w.heap.size w w' := by
  have h' := h
  obtain ⟨no, nc, ao, dc, rfl, hN, hD⟩ := h
  obtain ⟨n, hn⟩ : ∃ n, n = N.length := ⟨_, rfl⟩
  obtain ⟨m, hm⟩ : ∃ m, m = D.length := ⟨_, rfl⟩
  rw [← hn, ← hm] at h' ⊢
  have hbx := below_box w (.cells #[.int .u32 q, .slice no n nc, .slice ao m dc] 26)
  have hnx := heap_alloc_new w (.cells #[.int .u32 q, .slice no n nc, .slice ao m dc] 26)
  have KF := Lib.hid (rFormT_is (h'.below hbx) false hf)
  clear hN hD hn hm h' hf
  go_enter Try.func15, Try.ntmps15
  go_upto_region 1 with (fail)
  generalize w.alloc (.cells #[.int .u32 q, .slice no n nc, .slice ao m dc] 26) = u at hbx hnx KF ⊢
  have d0 : u.cell? ⟨w.heap.size, 0, none⟩ = some (.int .u32 q) := by rw [cell_of_row _ _ _ _ _ _ hnx]; rfl
  have d1 : u.cell? ⟨w.heap.size, 1, none⟩ = some (.slice no n nc) := by rw [cell_of_row _ _ _ _ _ _ hnx]; rfl
  have d2 : u.cell? ⟨w.heap.size, 2, none⟩ = some (.slice ao m dc) := by rw [cell_of_row _ _ _ _ _ _ hnx]; rfl
  clear hnx
  go_wp2_with (go_at_call 27; (with_reducible refine KF.out.mono ?_); rintro e w2 ⟨rfl, hb2⟩)
  go_ret2
  exact ⟨rfl, hbx.trans (hb2.mono hbx.size)⟩
set_option maxHeartbeats 1000000 in
theorem rPackT_yes {w : World} {v : Value} {q : Int} {N : List Int} {D : List (List Int)} (h : TxV w v q N D) (hf : frmT N D = true) (q0 : 0 ≤ q) (q1 : q < 4294967296) :
    Calls Try.prog 15 #[v] w fun e w' => ∃ u, e = .returned (.tuple #[u, .int .i64 0]) ∧ BBSl w' u (packT q N D) ∧ Below w.heap.size w w' := by
  have h' := h
  obtain ⟨no, nc, ao, dc, rfl, hN, hD⟩ := h
  obtain ⟨f1, f2, f3⟩ := frmT_of hf
  obtain ⟨no', nc', hv1, hn1⟩ := hN.1.open'
  obtain ⟨rfl, rfl⟩ : no = no' ∧ nc = nc' := ⟨(Value.slice.inj hv1).1, (Value.slice.inj hv1).2.2⟩
  obtain ⟨ao', dc', hv2, _, hd1⟩ := hD.open'
  obtain ⟨rfl, rfl⟩ : ao = ao' ∧ dc = dc' := ⟨(Value.slice.inj hv2).1, (Value.slice.inj hv2).2.2⟩
  have HX := Lib.hid (fun i hi => (f3 i hi).1)
  have HD256 := Lib.hid (fun i hi => (f3 i hi).2.1)
  have HZ := Lib.hid (headK_zero q N)
  have HS := Lib.hid (headK_succ q N)
  have HF := Lib.hid (headK_full q N)
  have HLN := Lib.hid (headK_length q N)
  have HQ : Hid (0 ≤ q ∧ q < 4294967296) := Lib.hid ⟨q0, q1⟩
  have HPK : Hid (packT q N D = ([sealS (headL q N)] ++ D) ++ [sealS (endL q)]) := Lib.hid rfl
  obtain ⟨n, hn⟩ : ∃ n, n = N.length := ⟨_, rfl⟩
  have HL1 := Lib.hid (sealS_length (headL q N) (by rw [headL_length]; omega))
  obtain ⟨EB, hEB⟩ : ∃ EB, EB = sealS (endL q) := ⟨_, rfl⟩
  have HL2 : Hid (EB.length = 256) := Lib.hid (by rw [hEB]; exact sealS_length (endL q) (by rw [endL_length]; omega))
  rw [← hEB] at HPK
  have HEB := Lib.hid hEB
  clear hEB
  rw [f2] at h' hd1 ⊢
  rw [← hn] at h' hn1 hd1 HX HD256 HZ HS HF f1 f2 ⊢
  have HL := Lib.hid f2
  have HNC := Lib.hid hn1
  have HDC := Lib.hid hd1
  have hbx := below_box w (.cells #[.int .u32 q, .slice no n nc, .slice ao n dc] 26)
  have hnx := heap_alloc_new w (.cells #[.int .u32 q, .slice no n nc, .slice ao n dc] 26)
  have KF := Lib.hid (rFormT_is (h'.below hbx) true hf)
  have hwq : IntKind.u64.wrap q = q := IntWalk.u64_in _ (by omega)
  have hwn : IntKind.u64.wrap (n : Int) = (n : Int) := IntWalk.u64_in _ (by omega)
  have K1 := Lib.hid (fun W v (hv : BSl W v jrnl) => rPut_at hv (by decide) q 4 4 (by omega) (by omega) rfl q0 (by omega))
  have K2 := Lib.hid (fun W v (hv : BSl W v (jrnl ++ lowB q 4)) => rPut_at hv (by rw [List.length_append, lowB_length]; decide) (n : Int) 2 2 (by omega) (by omega) rfl (by omega) (by omega))
  have kc := fun (w : World) (C : Array Value) (n c : Nat) => Lib.run_convert_bytes_const (P := Try.prog) w 40 5 C n c Try.underlying40 Try.underlying5
  have KE1 := Lib.hid (fun W v (hv : BSl W v done9) => rPut_at hv (by decide) q 4 4 (by omega) (by omega) rfl q0 (by omega))
  have KE2 := Lib.hid (fun W v (hv : BSl W v (done9 ++ lowB q 4)) => rSeal_yes hv (by rw [List.length_append, lowB_length]; decide))
  have HKC := Lib.hid kc
  have HTK := Lib.hid (fun k => List.length_take (i := k) (l := D))
  clear hN hD hn h' hf f2 f3 q0 q1 hv1 hv2 hn1 hd1
  go_enter Try.func15, Try.ntmps15
  go_upto_region 1 with (fail)
  have hzu : w.heap.size < (w.alloc (.cells #[.int .u32 q, .slice no n nc, .slice ao n dc] 26)).heap.size := by simp
  generalize w.alloc (.cells #[.int .u32 q, .slice no n nc, .slice ao n dc] 26) = u at hbx hnx KF hzu ⊢
  have d0 : u.cell? ⟨w.heap.size, 0, none⟩ = some (.int .u32 q) := by rw [cell_of_row _ _ _ _ _ _ hnx]; rfl
  have d1 : u.cell? ⟨w.heap.size, 1, none⟩ = some (.slice no n nc) := by rw [cell_of_row _ _ _ _ _ _ hnx]; rfl
  have d2 : u.cell? ⟨w.heap.size, 2, none⟩ = some (.slice ao n dc) := by rw [cell_of_row _ _ _ _ _ _ hnx]; rfl
  clear hnx
  go_wp2_with (go_at_call 27; (with_reducible refine KF.out.mono ?_); rintro e w2 ⟨rfl, hb2⟩)
  have HB2 : Hid (Below w.heap.size w w2.drew) := Lib.hid (below_drewN' (hbx.trans (hb2.mono hbx.size)) 1)
  have e0 : w2.drew.cell? ⟨w.heap.size, 0, none⟩ = some (.int .u32 q) := (hb2.cell (p := ⟨w.heap.size, 0, none⟩) hzu).trans d0
  have e1 : w2.drew.cell? ⟨w.heap.size, 1, none⟩ = some (.slice no n nc) := (hb2.cell (p := ⟨w.heap.size, 1, none⟩) hzu).trans d1
  have e2 : w2.drew.cell? ⟨w.heap.size, 2, none⟩ = some (.slice ao n dc) := (hb2.cell (p := ⟨w.heap.size, 2, none⟩) hzu).trans d2
  have hz2 : w.heap.size < w2.drew.heap.size := Nat.lt_of_lt_of_le hzu hb2.size
  obtain ⟨d, hd⟩ : ∃ d, d = w.heap.size := ⟨_, rfl⟩
  rw [← hd] at HB2 e0 e1 e2 hz2 ⊢
  have HD0 := Lib.hid hd
  clear d0 d1 d2 hbx hb2 hzu KF hd
  have kc2 : (convert 40 40 (.slice (some ⟨w2.heap.size, 0, none⟩) 4 4)).run Try.prog (w2.alloc (.cells #[.int .u8 106, .int .u8 114, .int .u8 110, .int .u8 108] 5)).drew = .ok (.slice (some ⟨w2.heap.size, 0, none⟩) 4 4) (w2.alloc (.cells #[.int .u8 106, .int .u8 114, .int .u8 110, .int .u8 108] 5 (4, 5))).drew := kc w2.drew #[.int .u8 106, .int .u8 114, .int .u8 110, .int .u8 108] 4 4
  have hb0 : Below w2.drew.heap.size w2.drew (w2.alloc (.cells #[.int .u8 106, .int .u8 114, .int .u8 110, .int .u8 108] 5)).drew := below_box w2.drew (.cells #[.int .u8 106, .int .u8 114, .int .u8 110, .int .u8 108] 5)
  have hb1 : Below w2.drew.heap.size w2.drew (w2.alloc (.cells #[.int .u8 106, .int .u8 114, .int .u8 110, .int .u8 108] 5 (4, 5))).drew := below_box w2.drew (.cells #[.int .u8 106, .int .u8 114, .int .u8 110, .int .u8 108] 5 (4, 5))
  have hbj : BSl (w2.alloc (.cells #[.int .u8 106, .int .u8 114, .int .u8 110, .int .u8 108] 5 (4, 5))).drew (.slice (some ⟨w2.heap.size, 0, none⟩) 4 4) jrnl := bsl_jrnl w2.drew
  have hza : d < (w2.alloc (.cells #[.int .u8 106, .int .u8 114, .int .u8 110, .int .u8 108] 5 (4, 5))).drew.heap.size := Nat.lt_of_lt_of_le hz2 hb1.size
  have a0 := (hb0.cell (p := ⟨d, 0, none⟩) hz2).trans e0
  have a1 := (hb0.cell (p := ⟨d, 1, none⟩) hz2).trans e1
  have b0 := (hb1.cell (p := ⟨d, 0, none⟩) hz2).trans e0
  have b1 := (hb1.cell (p := ⟨d, 1, none⟩) hz2).trans e1
  clear kc
  refine wp_region_held_drew (S := fun W => W.cell? ⟨d, 0, none⟩ = some (.int .u32 q) ∧ W.cell? ⟨d, 1, none⟩ = some (.slice no n nc)) (by kernel_rfl) ⟨e0, e1⟩ (fun hHeld => ?_)
  refine wpAnyH_take (i := 2) (v := .pointer (some ⟨d, 0, none⟩)) rfl (by kernel_rfl) (by kernel_rfl) (by kernel_rfl) (fun _ _ _ h => h) (Or.inl ⟨by rfl, ?_⟩) (by assumption) ?_
  · intro W hSw
    obtain ⟨s0, s1⟩ := hSw
    go_simp
  simp only [Act.put, List.setIfInBounds_toArray, List.set_cons_zero, List.set_cons_succ, List.getElem_toArray, List.getElem_cons_zero, List.getElem_cons_succ]
  refine wpAnyH_take (i := 3) (v := .int .u32 q) rfl (by kernel_rfl) (by kernel_rfl) (by kernel_rfl) (fun _ _ _ h => h) (Or.inl ⟨by rfl, ?_⟩) (by assumption) ?_
  · intro W hSw
    obtain ⟨s0, s1⟩ := hSw
    go_simp
  simp only [Act.put, List.setIfInBounds_toArray, List.set_cons_zero, List.set_cons_succ, List.getElem_toArray, List.getElem_cons_zero, List.getElem_cons_succ]
  refine wpAnyH_take (i := 4) (v := .int .u64 q) rfl (by kernel_rfl) (by kernel_rfl) (by kernel_rfl) (fun _ _ _ h => h) (Or.inl ⟨by rfl, ?_⟩) (by assumption) ?_
  · intro W hSw
    obtain ⟨s0, s1⟩ := hSw
    go_simp
  simp only [Act.put, List.setIfInBounds_toArray, List.set_cons_zero, List.set_cons_succ, List.getElem_toArray, List.getElem_cons_zero, List.getElem_cons_succ]
  refine wpAnyH_take (i := 6) (v := .pointer (some ⟨d, 1, none⟩)) rfl (by kernel_rfl) (by kernel_rfl) (by kernel_rfl) (fun _ _ _ h => h) (Or.inl ⟨by rfl, ?_⟩) (by assumption) ?_
  · intro W hSw
    obtain ⟨s0, s1⟩ := hSw
    go_simp
  simp only [Act.put, List.setIfInBounds_toArray, List.set_cons_zero, List.set_cons_succ, List.getElem_toArray, List.getElem_cons_zero, List.getElem_cons_succ]
  refine wpAnyH_take (i := 7) (v := .slice no n nc) rfl (by kernel_rfl) (by kernel_rfl) (by kernel_rfl) (fun _ _ _ h => h) (Or.inl ⟨by rfl, ?_⟩) (by assumption) ?_
  · intro W hSw
    obtain ⟨s0, s1⟩ := hSw
    go_simp
  simp only [Act.put, List.setIfInBounds_toArray, List.set_cons_zero, List.set_cons_succ, List.getElem_toArray, List.getElem_cons_zero, List.getElem_cons_succ]
  refine wpAnyH_take (i := 8) (v := .int .i64 (n : Int)) rfl (by kernel_rfl) (by kernel_rfl) (by kernel_rfl) (fun _ _ _ h => h) (Or.inl ⟨by rfl, ?_⟩) (by assumption) ?_
  · intro W hSw
    obtain ⟨s0, s1⟩ := hSw
    go_simp
  simp only [Act.put, List.setIfInBounds_toArray, List.set_cons_zero, List.set_cons_succ, List.getElem_toArray, List.getElem_cons_zero, List.getElem_cons_succ]
  refine wpAnyH_take (i := 9) (v := .int .u64 (n : Int)) rfl (by kernel_rfl) (by kernel_rfl) (by kernel_rfl) (fun _ _ _ h => h) (Or.inl ⟨by rfl, ?_⟩) (by assumption) ?_
  · intro W hSw
    obtain ⟨s0, s1⟩ := hSw
    go_simp
  simp only [Act.put, List.setIfInBounds_toArray, List.set_cons_zero, List.set_cons_succ, List.getElem_toArray, List.getElem_cons_zero, List.getElem_cons_succ]
  refine wpAnyH_ready (rs := [0]) (by kernel_rfl) (by simp) (AllReadyH.cons rfl (fun K hK => ?_) AllReadyH.nil)
  go_simp
  refine hK.out _ _ ⟨a0, a1⟩ (fun hHeld => ?_)
  clear hK K
  refine wpAnyH_ready (rs := [1]) (by kernel_rfl) (by simp) (AllReadyH.cons rfl (fun K hK => ?_) AllReadyH.nil)
  go_simp
  refine hK.out _ _ ⟨b0, b1⟩ (fun hHeld => ?_)
  clear hK K
  refine wpAnyH_ready (rs := [5]) (by kernel_rfl) (by simp) (AllReadyH.cons rfl (fun K hK => ?_) AllReadyH.nil)
  go_simp
  go_at_call 32
  refine (K1.out _ _ hbj).mono ?_
  rintro e w3 ⟨v3, rfl, hob3, hb3⟩
  have c0 := (hb3.cell (p := ⟨d, 0, none⟩) hza).trans b0
  have c1 := (hb3.cell (p := ⟨d, 1, none⟩) hza).trans b1
  have c2 := (hb3.cell (p := ⟨d, 2, none⟩) hza).trans ((hb1.cell (p := ⟨d, 2, none⟩) hz2).trans e2)
  have hz3 := Nat.lt_of_lt_of_le hza hb3.size
  have HB3 := Lib.hid (HB2.out.trans ((hb1.trans (hb3.mono hb1.size)).mono (Nat.le_of_lt hz2)))
  have HV3 := Lib.hid hob3.bsl
  refine hK.out _ _ ⟨c0, c1⟩ (fun hHeld => ?_)
  clear hK K
  refine wpAnyH_ready (rs := [10]) (by kernel_rfl) (by simp) (AllReadyH.cons rfl (fun K hK => ?_) AllReadyH.nil)
  go_simp
  go_at_call 32
  refine (K2.out _ _ HV3.out).mono ?_
  rintro e w4 ⟨v4, rfl, hob4, hb4⟩
  have g0 := (hb4.cell (p := ⟨d, 0, none⟩) hz3).trans c0
  have g1 := (hb4.cell (p := ⟨d, 1, none⟩) hz3).trans c1
  have g2 := (hb4.cell (p := ⟨d, 2, none⟩) hz3).trans c2
  have hz4 := Nat.lt_of_lt_of_le hz3 hb4.size
  have HB4 := Lib.hid (HB3.out.trans (hb4.mono (Nat.le_of_lt hz3)))
  have HV4 : Hid (BSl w4 v4 (headK q N 0)) := Lib.hid (by rw [HZ.out]; exact hob4.bsl)
  refine hK.out _ _ ⟨g0, g1⟩ (fun hHeld => ?_)
  clear hK K
  refine wpAnyH_take (i := 11) (v := v4) rfl (by kernel_rfl) (by kernel_rfl) (by kernel_rfl) (fun _ _ _ h => h) (Or.inl ⟨by rfl, ?_⟩) (by assumption) ?_
  · intro W hSw
    obtain ⟨s0, s1⟩ := hSw
    go_simp
  simp only [Act.put, List.setIfInBounds_toArray, List.set_cons_zero, List.set_cons_succ, List.getElem_toArray, List.getElem_cons_zero, List.getElem_cons_succ]
  refine wpAnyH_done (by kernel_rfl) ?_ _
  clear kc2 hb0 hb1 hbj hza a0 a1 b0 b1 e0 e1 e2 hz2 hHeld c0 c1 c2 hb3 hb4 hob3 hob4 hz3 HB3 HV3
  go_wp2
  have G0 := Lib.hid g0
  have G1 := Lib.hid g1
  have G2 := Lib.hid g2
  have hb44 : Below w4.heap.size w4 w4 := Below.refl _ _
  clear g0 g1 g2
  go_loopw [4, 29] (fun u i wr => ∃ k : Nat, k ≤ n ∧ i = .int .i64 k ∧ Hid (BSl wr u (headK q N k)) ∧ Hid (Below w4.heap.size w4 wr)) (fun _ i _ => n - (intOf i).toNat)
  case atStart => exact ⟨0, by omega, rfl, HV4, hb44⟩
  case round =>
    obtain ⟨k, hk, rfl, HV, HB⟩ := hrel
    clear HV4 hb44
    have r1 := (HB.out.cell (p := ⟨d, 1, none⟩) hz4).trans G1.out
    have HB0 := Lib.hid (HB4.out.trans (HB.out.mono (Nat.le_of_lt hz4)))
    by_cases hlt : k < n
    · obtain ⟨b, off, rfl, hb, hcc⟩ := HNC.out (by omega)
      have hck := (HB0.out.cell (p := ⟨b, off + k, none⟩) (by rw [HD0.out]; exact hb)).trans (hcc k hlt)
      obtain ⟨x0, x1⟩ := HX.out k hlt
      have hs1 := HS.out k hlt
      obtain ⟨x, hxx⟩ : ∃ x, x = N.getD k 0 := ⟨_, rfl⟩
      rw [← hxx] at hck x0 x1 hs1
      have HS1 := Lib.hid hs1
      have ek : (k : Int) < (n : Int) := by omega
      have hwx : IntKind.u64.wrap x = x := IntWalk.u64_in _ (by omega)
      have KP := Lib.hid (rPut_at HV.out (by have := HLN.out k (by omega); omega) x 2 2 (by omega) (by omega) rfl x0 (by omega))
      clear hcc hb hxx hs1
      go_wp2_with (go_at_call 32; (with_reducible refine KP.out.mono ?_); rintro e w5 ⟨v5, rfl, hob5, hb5⟩)
      go_roundw
      case rel => exact ⟨k + 1, by omega, by go_num, by show BSl _ _ _; rw [← HS1.out]; exact hob5.bsl, HB.out.trans (hb5.mono HB.out.size)⟩
      case measure => simp [intOf]; omega
    · obtain rfl : k = n := by omega
      have KS := Lib.hid (rSeal_yes HV.out (HLN.out k (by omega)))
      rw [HF.out] at KS
      have hzr := Nat.lt_of_lt_of_le hz4 HB.out.size
      have R0 := Lib.hid ((HB.out.cell (p := ⟨d, 0, none⟩) hz4).trans G0.out)
      have r2 := (HB.out.cell (p := ⟨d, 2, none⟩) hz4).trans G2.out
      have R2 := Lib.hid r2
      clear r1
      go_wp2_with (go_at_call 33; (with_reducible refine KS.out.mono ?_); rintro e w5 ⟨v5, rfl, hob5, hb5⟩
                   obtain ⟨ho, hc, rfl, _⟩ := hob5.bsl.shape
                   have r2o := (hb5.cell (p := ⟨d, 2, none⟩) hzr).trans R2.out
                   have hz5 := Nat.lt_of_lt_of_le hzr hb5.size
                   have r2 := fun o => ((below_box w5 o).cell (p := ⟨d, 2, none⟩) hz5).trans r2o
                   have HO5 := Lib.hid (hob5.elt (B := d + 1))
                   rw [HL1.out] at HO5 ⊢)
      have r0o := (hb5.cell (p := ⟨d, 0, none⟩) hzr).trans R0.out
      have hbx := below_box w5 (.cells #[.slice ho 256 hc] 40)
      have ho6 := bbr_one HO5.out hz5
      have HB05 := HB0.out.trans (hb5.mono (Nat.le_of_lt hzr))
      have HZ6 := Lib.hid (Nat.lt_of_lt_of_le hz5 hbx.size)
      have HBX := Lib.hid (HB05.trans (hbx.mono (Nat.le_of_lt hz5)))
      have R06 := Lib.hid ((hbx.cell (p := ⟨d, 0, none⟩) hz5).trans r0o)
      have R26 := Lib.hid (r2 (.cells #[.slice ho 256 hc] 40))
      clear r2 r2o r0o hbx HB05 hb5 hob5 KS HV
      generalize w5.alloc (.cells #[.slice ho 256 hc] 40) = w6 at ho6 HZ6 HBX R06 R26 ⊢
      obtain ⟨p, hp⟩ : ∃ p, p = d + 1 := ⟨_, rfl⟩
      rw [← hp] at ho6
      have HDP : Hid (d < p) := Lib.hid (by omega)
      have HPZ : Hid (p ≤ w6.heap.size) := Lib.hid (by have := HZ6.out; omega)
      have HO6 : Hid (BBR w6 p (.slice (some ⟨w5.heap.size, 0, none⟩) 1 1) ([sealS (headL q N)] ++ D.take 0)) := Lib.hid (by rw [List.take_zero, List.append_nil]; exact ho6)
      have hb66 : Hid (Below p w6 w6) := Lib.hid (Below.refl _ _)
      obtain ⟨e5, he5⟩ : ∃ e5, e5 = w5.heap.size := ⟨_, rfl⟩
      rw [← he5] at HO6 ⊢
      clear ho6 he5 HO5 hz5 hp
      go_loopw [8, 51] (fun u i wr => ∃ j : Nat, j ≤ k ∧ i = .int .i64 j ∧ Hid (BBR wr p u ([sealS (headL q N)] ++ D.take j)) ∧ Hid (Below p w6 wr)) (fun _ i _ => k - (intOf i).toNat)
      case atStart => exact ⟨0, by omega, rfl, HO6, hb66⟩
      case round =>
        obtain ⟨j, hj, rfl, HU, HBJ⟩ := hrel
        clear HO6 hb66
        have HB0J := Lib.hid (HBX.out.trans (HBJ.out.mono (Nat.le_of_lt HDP.out)))
        have hzj := Nat.lt_of_lt_of_le HZ6.out HBJ.out.size
        have HPJ := Lib.hid (Nat.le_trans HPZ.out HBJ.out.size)
        by_cases hlj : j < k
        · have r2 := (HBJ.out.cell (p := ⟨d, 2, none⟩) HDP.out).trans R26.out
          obtain ⟨b, off, rfl, hb, hcc⟩ := HDC.out (by omega)
          obtain ⟨uj, hcj, huj⟩ := hcc j hlj
          have r2' := fun o => ((below_box _ o).cell (p := ⟨d, 2, none⟩) hzj).trans r2
          have hbd : b < d := by rw [HD0.out]; exact hb
          have cj := (HB0J.out.cell (p := ⟨b, off + j, none⟩) hbd).trans hcj
          have hbr : b < wr.heap.size := Nat.lt_trans hbd hzj
          have cj' := fun o => ((below_box wr o).cell (p := ⟨b, off + j, none⟩) hbr).trans cj
          have HUJ := Lib.hid (huj.below (by have := HB0J.out; rw [HD0.out] at this; exact this))
          obtain ⟨xo, xc, rfl, _⟩ := huj.shape
          have h256 := HD256.out j hlj
          have htk : D.take (j + 1) = D.take j ++ [D.getD j []] := by
            have hjl : j < D.length := by rw [HL.out]; exact hlj
            rw [List.take_succ_eq_append_getElem hjl]
            simp [List.getD_eq_getElem?_getD, hjl]
          obtain ⟨y, hy⟩ : ∃ y, y = D.getD j [] := ⟨_, rfl⟩
          rw [← hy] at HUJ h256 htk cj cj'
          rw [h256] at HUJ cj cj'
          have HTJ := Lib.hid htk
          have HLY : Hid (([] : List Int).length + y.length ≤ 140737488355328) := Lib.hid (by rw [h256]; decide)
          have HY256 := Lib.hid h256
          have HLL : Hid (([sealS (headL q N)] ++ D.take j).length ≤ 100000) := Lib.hid (by rw [List.length_append, HTK.out]; simp; omega)
          have HEM := Lib.hid (ob_empty wr)
          have HKA := Lib.hid (fun (p : Addr) (hp : p.block < wr.heap.size) => World.cell?_alloc_lt wr (.cells #[] 5) p hp)
          have hsz : wr.heap.size ≤ (wr.alloc (.cells #[] 5)).heap.size := by simp
          have hb0 := below_box wr (.cells #[] 5)
          have ejk : (j : Int) < (k : Int) := by omega
          clear hcc hcj huj htk h256 hb hbd hy
          go_wp2_with (first
            | (at_builtin; refine wpList_append_bytes _ rfl (.tmp 55) (.tmp 60) rfl wr.heap.size _ [] rfl HEM.out wr _ y rfl HUJ.out HKA.out HLY.out hsz ?_
               intro v7 w7 hob7 hb7 _
               obtain ⟨yo, yc, rfl, _⟩ := hob7.bsl.shape
               have HY7 : Hid (BElt w7 p _ y) := Lib.hid hob7.elt
               rw [show (([] : List Int) ++ y).length = 256 from HY256.out] at HY7 ⊢
               have HB7 := Lib.hid (hb0.trans hb7)
               have HG7 := Lib.hid (Nat.le_trans HPJ.out HB7.out.size)
               have HU7 := Lib.hid (HU.out.below HB7.out)
               clear hob7 hb7)
            | (at_builtin; refine wpList_append_bb 24 Try.underlying24 w7 (.slice yo 256 yc) y rfl (.tmp 54) (.tmp 62) rfl p _ ([sealS (headL q N)] ++ D.take j) rfl HU7.out HY7.out w7.heap.size rfl rfl HLL.out HG7.out ?_
               intro v8 w8 hv8 hb8))
          go_roundw
          case rel =>
            refine ⟨j + 1, by omega, by go_num, ?_, ?_⟩
            · show BBR _ _ _ ([sealS (headL q N)] ++ D.take (j + 1))
              rw [HTJ.out, ← List.append_assoc]
              exact hv8
            · exact HBJ.out.trans ((HB7.out.mono HPJ.out).trans hb8)
          case measure => simp [intOf]; omega
        · obtain rfl : j = k := by omega
          have r0 := (HBJ.out.cell (p := ⟨d, 0, none⟩) HDP.out).trans R06.out
          have kc := HKC.out
          have hbe := below_boxF wr #[.int .u8 100, .int .u8 111, .int .u8 110, .int .u8 101] 5 (4, 5)
          have r0' := fun o => ((below_box wr o).cell (p := ⟨d, 0, none⟩) hzj).trans r0
          have HDJ := Lib.hid (show D.take j = D by rw [← HL.out, List.take_length])
          rw [HDJ.out] at HU
          have HLL : Hid (([sealS (headL q N)] ++ D).length ≤ 100000) := Lib.hid (by rw [List.length_append, HL.out]; simp; omega)
          go_wp2_with (first
            | (go_at_call 32; (with_reducible refine (KE1.out _ _ (bsl_done wr)).mono ?_); rintro e w7 ⟨v7, rfl, hob7, hb7⟩
               have HB7 := Lib.hid (hbe.trans (hb7.mono hbe.size)))
            | (go_at_call 33; (with_reducible refine (KE2.out _ _ hob7.bsl).mono ?_); rintro e w8 ⟨v8, rfl, hob8, hb8⟩
               replace hob8 : OB w8 w7.heap.size v8 EB := by rw [HEB.out]; exact hob8
               obtain ⟨yo, yc, rfl, _⟩ := hob8.bsl.shape
               have HY8 : Hid (BElt w8 p _ EB) := Lib.hid hob8.elt
               rw [HL2.out] at HY8 ⊢
               have HB8 := Lib.hid (HB7.out.trans (hb8.mono HB7.out.size))
               have HG8 := Lib.hid (Nat.le_trans HPJ.out HB8.out.size)
               have HU8 := Lib.hid (HU.out.below HB8.out)
               clear hob8 hb8)
            | (at_builtin; refine wpList_append_bb 24 Try.underlying24 w8 (.slice yo 256 yc) EB rfl (.tmp 75) (.tmp 77) rfl p _ ([sealS (headL q N)] ++ D) rfl HU8.out HY8.out w8.heap.size rfl rfl HLL.out HG8.out ?_
               intro v9 w9 hv9 hb9))
          go_ret2
          refine ⟨_, rfl, by rw [HPK.out]; exact hv9.sl, ?_⟩
          rw [← HD0.out]
          exact (HB0J.out.trans (HB8.out.mono (Nat.le_of_lt hzj))).trans (hb9.mono (Nat.le_of_lt HDP.out))
end Go.Proofs.Ytpjmnmkdegkfcaa

/- The reference's SameTxn, the law's sameBlocks: the same is told to be so; Few, few, Theirs. -/
namespace Go.Proofs.Ytpjmnmkdegkfcaa
set_option maxRecDepth 100000
open Go.RowKit
set_option linter.unusedVariables false

theorem conv_drewN {w : World} {v : Value} {l : List Int} (hs : BSl w v l) (m : Nat) : (convert 40 9 v).run Try.prog (w.drewN m) = .ok (.string (strOfNums l)) (w.drewN m) := conv_bsl (hs.drewN m)
theorem rSameT_of {w : World} {u v : Value} {q : Int} {N : List Int} {D : List (List Int)} (hu : TxV w u q N D) (hv : TxV w v q N D) (hN : N.length ≤ 1000000) (hD : D.length ≤ 1000000) :
    Calls Try.prog 18 #[u, v] w fun e w' => e = .returned (.bool true) ∧ Below w.heap.size w w' := by
  obtain ⟨a1, c1, a2, c2, rfl, hN1, hD1⟩ := hu
  obtain ⟨a3, c3, a4, c4, rfl, hN2, hD2⟩ := hv
  obtain ⟨_, _, t1, k1⟩ := hN1.1.open'
  obtain ⟨rfl, rfl⟩ := And.intro (Value.slice.inj t1).1 (Value.slice.inj t1).2.2
  obtain ⟨_, _, t2, k2⟩ := hN2.1.open'
  obtain ⟨rfl, rfl⟩ := And.intro (Value.slice.inj t2).1 (Value.slice.inj t2).2.2
  obtain ⟨_, _, t3, _, k3⟩ := hD1.open'
  obtain ⟨rfl, rfl⟩ := And.intro (Value.slice.inj t3).1 (Value.slice.inj t3).2.2
  obtain ⟨_, _, t4, _, k4⟩ := hD2.open'
  obtain ⟨rfl, rfl⟩ := And.intro (Value.slice.inj t4).1 (Value.slice.inj t4).2.2
  obtain ⟨n, hn⟩ : ∃ n, n = N.length := ⟨_, rfl⟩
  obtain ⟨m, hm⟩ : ∃ m, m = D.length := ⟨_, rfl⟩
  rw [← hn] at k1 k2 hN ⊢
  rw [← hm] at k3 k4 hD ⊢
  have K1 := Lib.hid k1
  have K2 := Lib.hid k2
  have K3 := Lib.hid k3
  have K4 := Lib.hid k4
  have hbx := below_box w (.cells #[.int .u32 q, .slice a1 n c1, .slice a2 m c2] 26)
  have hnx := heap_alloc_new w (.cells #[.int .u32 q, .slice a1 n c1, .slice a2 m c2] 26)
  have hsx : (w.alloc (.cells #[.int .u32 q, .slice a1 n c1, .slice a2 m c2] 26)).heap.size = w.heap.size + 1 := by simp
  have hby := below_box (w.alloc (.cells #[.int .u32 q, .slice a1 n c1, .slice a2 m c2] 26)) (.cells #[.int .u32 q, .slice a3 n c3, .slice a4 m c4] 26)
  have hny := heap_alloc_new (w.alloc (.cells #[.int .u32 q, .slice a1 n c1, .slice a2 m c2] 26)) (.cells #[.int .u32 q, .slice a3 n c3, .slice a4 m c4] 26)
  clear hN1 hN2 hD1 hD2 t1 t2 t3 t4 k1 k2 k3 k4 hn hm
  go_enter Try.func18, Try.ntmps18
  go_upto_region 1 with (fail)
  rw [hsx] at hny hby
  have hno := (hby.block w.heap.size (by omega)).trans hnx
  have hb2 := hbx.trans (hby.mono (Nat.le_succ _))
  generalize (w.alloc (.cells #[.int .u32 q, .slice a1 n c1, .slice a2 m c2] 26)).alloc (.cells #[.int .u32 q, .slice a3 n c3, .slice a4 m c4] 26) = w2 at hno hny hb2 ⊢
  obtain ⟨d, hd⟩ : ∃ d, d = w.heap.size := ⟨_, rfl⟩
  rw [← hd] at hno hny ⊢
  obtain ⟨f, hf⟩ : ∃ f, f = d + 1 := ⟨_, rfl⟩
  rw [← hf] at hny ⊢
  have d0 : w2.cell? ⟨d, 0, none⟩ = some (.int .u32 q) := by rw [cell_of_row _ _ _ _ _ _ hno]; rfl
  have d1 : w2.cell? ⟨d, 1, none⟩ = some (.slice a1 n c1) := by rw [cell_of_row _ _ _ _ _ _ hno]; rfl
  have d2 : w2.cell? ⟨d, 2, none⟩ = some (.slice a2 m c2) := by rw [cell_of_row _ _ _ _ _ _ hno]; rfl
  have f0 : w2.cell? ⟨f, 0, none⟩ = some (.int .u32 q) := by rw [cell_of_row _ _ _ _ _ _ hny]; rfl
  have f1 : w2.cell? ⟨f, 1, none⟩ = some (.slice a3 n c3) := by rw [cell_of_row _ _ _ _ _ _ hny]; rfl
  have f2 : w2.cell? ⟨f, 2, none⟩ = some (.slice a4 m c4) := by rw [cell_of_row _ _ _ _ _ _ hny]; rfl
  have hzd : d < w2.heap.size := (Array.getElem?_eq_some_iff.1 hno).1
  have hzf : f < w2.heap.size := (Array.getElem?_eq_some_iff.1 hny).1
  have C1 := Lib.hid (fun W (h : Below w2.heap.size w2 W) => (h.cell (p := ⟨d, 1, none⟩) hzd).trans d1)
  have C2 := Lib.hid (fun W (h : Below w2.heap.size w2 W) => (h.cell (p := ⟨d, 2, none⟩) hzd).trans d2)
  have C3 := Lib.hid (fun W (h : Below w2.heap.size w2 W) => (h.cell (p := ⟨f, 1, none⟩) hzf).trans f1)
  have C4 := Lib.hid (fun W (h : Below w2.heap.size w2 W) => (h.cell (p := ⟨f, 2, none⟩) hzf).trans f2)
  have HB2 := Lib.hid hb2
  clear hbx hnx hsx hby hny hno hb2 hd hf hzd hzf
  go_wp2
  clear d0 d1 d2 f0 f1 f2
  have hb0 : Below w2.heap.size w2 w2 := Below.refl _ _
  go_loopw [33] (fun i wr => ∃ k : Nat, k ≤ n ∧ i = .int .i64 k ∧ Below w2.heap.size w2 wr) (fun i _ => n - (intOf i).toNat)
  case atStart => exact ⟨0, by omega, rfl, hb0⟩
  case round =>
    obtain ⟨k, hk, rfl, hbr⟩ := hrel
    clear hb0
    have d1 := C1.out _ hbr
    have f1 := C3.out _ hbr
    have HBR := Lib.hid hbr
    have hb0r := HB2.out.trans (hbr.mono HB2.out.size)
    by_cases hlt : k < n
    · obtain ⟨b1, o1, rfl, hb1, q1⟩ := K1.out (by omega)
      obtain ⟨b2, o2, rfl, hb2, q2⟩ := K2.out (by omega)
      have e1 := (hb0r.cell (p := ⟨b1, o1 + k, none⟩) hb1).trans (q1 k hlt)
      have e2 := (hb0r.cell (p := ⟨b2, o2 + k, none⟩) hb2).trans (q2 k hlt)
      generalize N.getD k 0 = x at e1 e2
      have ek : (k : Int) < (n : Int) := by omega
      clear q1 q2 hb1 hb2 hbr hb0r
      go_wp2
      go_quiet (fail)
      go_wp2
      go_roundw
      case rel => exact ⟨k + 1, by omega, by go_num, below_drewN' HBR.out nq⟩
      case measure => simp [intOf]; omega
    · obtain rfl : k = n := by omega
      have d2 := C2.out _ hbr
      clear hbr hb0r
      go_wp2
      clear d1 d2 f1
      have HBW := Lib.hid (Below.refl wr.heap.size wr)
      go_loopw [51] (fun i wi => ∃ j : Nat, j ≤ m ∧ i = .int .i64 j ∧ Below w2.heap.size w2 wi) (fun i _ => m - (intOf i).toNat)
      case atStart => exact ⟨0, by omega, rfl, HBR.out⟩
      case round =>
        obtain ⟨j, hj, rfl, hbi⟩ := hrel
        have d2 := C2.out _ hbi
        have f2 := C4.out _ hbi
        have HBI := Lib.hid hbi
        have hb0i := HB2.out.trans (hbi.mono HB2.out.size)
        by_cases hlj : j < m
        · obtain ⟨b1, o1, rfl, hb1, q1⟩ := K3.out (by omega)
          obtain ⟨b2, o2, rfl, hb2, q2⟩ := K4.out (by omega)
          obtain ⟨x1, p1, s1⟩ := q1 j hlj
          obtain ⟨x2, p2, s2⟩ := q2 j hlj
          have e1 := (hb0i.cell (p := ⟨b1, o1 + j, none⟩) hb1).trans p1
          have e2 := (hb0i.cell (p := ⟨b2, o2 + j, none⟩) hb2).trans p2
          have v1 := conv_bsl (s1.below hb0i)
          have v2 := conv_bsl (s2.below hb0i)
          have v1d := fun m => conv_drewN (s1.below hb0i) m
          have v2d := fun m => conv_drewN (s2.below hb0i) m
          obtain ⟨y1, z1, rfl, _⟩ := s1.shape
          obtain ⟨y2, z2, rfl, _⟩ := s2.shape
          obtain ⟨T, hT⟩ : ∃ T, T = strOfNums (D.getD j []) := ⟨_, rfl⟩
          obtain ⟨l, hl⟩ : ∃ l, l = (D.getD j []).length := ⟨_, rfl⟩
          rw [← hT] at v1 v2 v1d v2d
          rw [← hl] at v1 v2 v1d v2d e1 e2
          have ej : (j : Int) < (m : Int) := by omega
          clear q1 q2 p1 p2 s1 s2 hT hl hbi hb0i hb1 hb2
          go_wp2
          go_quiet (fail)
          go_wp2
          go_roundw
          case rel => exact ⟨j + 1, by omega, by go_num, below_drewN' HBI.out nq⟩
          case measure => simp [intOf]; omega
        · obtain rfl : j = m := by omega
          clear hbi
          go_wp2
          go_ret
          exact ⟨rfl, hb0i⟩
end Go.Proofs.Ytpjmnmkdegkfcaa

/- The law's functions of layer 10: fits, inJournal, blocks, same. -/
namespace Go.Proofs.Ytpjmnmkdegkfcaa
set_option maxRecDepth 100000
open Go.RowKit
set_option linter.unusedVariables false

theorem fits10_is {w : World} {v : Value} {q : Int} {N : List Int} {D : List (List Int)} (hv : TxV w v q N D) (hNl : N.length ≤ 1000000) (z : Nat) (B : Bool) (hB : (hasN z N && frmT N D) = B) :
    Calls Try.prog 10 #[v, .int .i64 z] w fun e w' => e = .returned (.bool B) ∧ Below w.heap.size w w' := by
  have hv' := hv
  obtain ⟨no, nc, ao, dc, rfl, hN, hD⟩ := hv
  have KF := Lib.hid (fun W (hb : Below w.heap.size w W) (hh : hasN z N = true) => rFormT_is (hv'.below hb) B (by rw [hh, Bool.true_and] at hB; exact hB))
  obtain ⟨_, _, t1, hc⟩ := hN.1.open'
  obtain ⟨rfl, rfl⟩ := And.intro (Value.slice.inj t1).1 (Value.slice.inj t1).2.2
  have HNO := Lib.hid (fun k hk h => show B = false by rw [← hB, hasN_no (n := z) (N := N) k hk h]; rfl)
  have HYE := Lib.hid ((hasN_iff z N).2)
  obtain ⟨n, hn⟩ : ∃ n, n = N.length := ⟨_, rfl⟩
  obtain ⟨m, hm⟩ : ∃ m, m = D.length := ⟨_, rfl⟩
  rw [← hn] at hc KF HNO HYE hNl ⊢
  rw [← hm] at KF ⊢
  have hbx := below_box w (.cells #[.int .u32 q, .slice no n nc, .slice ao m dc] 26)
  have hnx := heap_alloc_new w (.cells #[.int .u32 q, .slice no n nc, .slice ao m dc] 26)
  have HC := Lib.hid hc
  clear hN hD hn hm hv' hB hc t1
  go_enter Try.func10, Try.ntmps10
  go_upto_region 1 with (fail)
  generalize w.alloc (.cells #[.int .u32 q, .slice no n nc, .slice ao m dc] 26) = u at hbx hnx ⊢
  have d0 : u.cell? ⟨w.heap.size, 0, none⟩ = some (.int .u32 q) := by rw [cell_of_row _ _ _ _ _ _ hnx]; rfl
  have d1 : u.cell? ⟨w.heap.size, 1, none⟩ = some (.slice no n nc) := by rw [cell_of_row _ _ _ _ _ _ hnx]; rfl
  have d2 : u.cell? ⟨w.heap.size, 2, none⟩ = some (.slice ao m dc) := by rw [cell_of_row _ _ _ _ _ _ hnx]; rfl
  have HB := Lib.hid hbx
  clear hnx hbx
  go_wp2
  go_loop [9] (fun i => ∃ k : Nat, k ≤ n ∧ i = .int .i64 k ∧ Hid (∀ j, j < k → N.getD j 0 < (z : Int))) (fun i => n - (intOf i).toNat)
  case atStart => exact ⟨0, by omega, rfl, fun j hj => absurd hj (Nat.not_lt_zero _)⟩
  case round =>
    obtain ⟨k, hk, rfl, HK⟩ := hrel
    by_cases hlt : k < n
    · obtain ⟨b, off, rfl, hb, hcc⟩ := HC.out (by omega)
      have hck := (HB.out.cell (p := ⟨b, off + k, none⟩) hb).trans (hcc k hlt)
      have HN1 := Lib.hid (HNO.out k hlt)
      obtain ⟨x, hx⟩ : ∃ x, x = N.getD k 0 := ⟨_, rfl⟩
      rw [← hx] at hck HN1
      have HX := Lib.hid hx
      have ek : (k : Int) < (n : Int) := by omega
      clear hx hcc hb
      by_cases hf : x < (z : Int)
      · have h1 : ¬ (z : Int) ≤ x := by omega
        go_wp2
        go_round
        case rel =>
          refine ⟨k + 1, by omega, by go_num, fun j hj => ?_⟩
          by_cases e : j = k
          · subst e; rw [← HX.out]; exact hf
          · exact HK.out j (by omega)
        case measure => simp [intOf]; omega
      · have h1 : (z : Int) ≤ x := by omega
        have hR := HN1.out (by first | exact hf | exact h1)
        subst hR
        go_wp2
        go_ret
        exact ⟨rfl, HB.out⟩
    · obtain rfl : k = n := by omega
      have KF1 := Lib.hid (KF.out _ HB.out (HYE.out HK.out))
      go_wp2_with (go_at_call 27; (with_reducible refine KF1.out.mono ?_); rintro e w2 ⟨rfl, hb2⟩)
      go_ret
      exact ⟨rfl, HB.out.trans (hb2.mono HB.out.size)⟩
/-- Has a change blocks of the journal? -/
def inJS (N : List Int) : Bool := (List.range N.length).any fun k => decide (3 ≤ N.getD k 0) && decide (N.getD k 0 < 43)
theorem inJS_no (N : List Int) : inJS N = false ↔ ∀ k, k < N.length → ¬ (3 ≤ N.getD k 0 ∧ N.getD k 0 < 43) := by
  unfold inJS
  rw [List.any_eq_false]
  constructor
  · intro h k hk hc
    exact h k (List.mem_range.2 hk) (by rw [Bool.and_eq_true, decide_eq_true_eq, decide_eq_true_eq]; exact hc)
  · intro h k hk
    have := h k (List.mem_range.1 hk)
    simp only [Bool.and_eq_true, decide_eq_true_eq]
    exact this
theorem inJS_yes {N : List Int} (k : Nat) (hk : k < N.length) (h : 3 ≤ N.getD k 0 ∧ N.getD k 0 < 43) : inJS N = true := by
  cases e : inJS N
  · exact absurd h ((inJS_no N).1 e k hk)
  · rfl
theorem inJ10_is {w : World} {v : Value} {q : Int} {N : List Int} {D : List (List Int)} (hv : TxV w v q N D) (hNl : N.length ≤ 1000000) (B : Bool) (hB : inJS N = B) :
    Calls Try.prog 20 #[v] w fun e w' => e = .returned (.bool B) ∧ Below w.heap.size w w' := by
  obtain ⟨no, nc, ao, dc, rfl, hN, hD⟩ := hv
  obtain ⟨_, _, t1, hc⟩ := hN.1.open'
  obtain ⟨rfl, rfl⟩ := And.intro (Value.slice.inj t1).1 (Value.slice.inj t1).2.2
  have HYE := Lib.hid (fun k hk h => show B = true by rw [← hB]; exact inJS_yes (N := N) k hk h)
  have HNO := Lib.hid (fun h => show B = false by rw [← hB]; exact (inJS_no N).2 h)
  obtain ⟨n, hn⟩ : ∃ n, n = N.length := ⟨_, rfl⟩
  obtain ⟨m, hm⟩ : ∃ m, m = D.length := ⟨_, rfl⟩
  rw [← hn] at hc HNO HYE hNl ⊢
  rw [← hm]
  have hbx := below_box w (.cells #[.int .u32 q, .slice no n nc, .slice ao m dc] 26)
  have hnx := heap_alloc_new w (.cells #[.int .u32 q, .slice no n nc, .slice ao m dc] 26)
  have HC := Lib.hid hc
  clear hN hD hn hm hB hc t1
  go_enter Try.func20, Try.ntmps20
  go_upto_region 1 with (fail)
  generalize w.alloc (.cells #[.int .u32 q, .slice no n nc, .slice ao m dc] 26) = u at hbx hnx ⊢
  have d1 : u.cell? ⟨w.heap.size, 1, none⟩ = some (.slice no n nc) := by rw [cell_of_row _ _ _ _ _ _ hnx]; rfl
  have HB := Lib.hid hbx
  clear hnx hbx
  go_wp2
  go_loop [7] (fun i => ∃ k : Nat, k ≤ n ∧ i = .int .i64 k ∧ Hid (∀ j, j < k → ¬ (3 ≤ N.getD j 0 ∧ N.getD j 0 < 43))) (fun i => n - (intOf i).toNat)
  case atStart => exact ⟨0, by omega, rfl, fun j hj => absurd hj (Nat.not_lt_zero _)⟩
  case round =>
    obtain ⟨k, hk, rfl, HK⟩ := hrel
    by_cases hlt : k < n
    · obtain ⟨b, off, rfl, hb, hcc⟩ := HC.out (by omega)
      have hck := (HB.out.cell (p := ⟨b, off + k, none⟩) hb).trans (hcc k hlt)
      have HY1 := Lib.hid (HYE.out k hlt)
      obtain ⟨x, hx⟩ : ∃ x, x = N.getD k 0 := ⟨_, rfl⟩
      rw [← hx] at hck HY1
      have HX := Lib.hid hx
      have ek : (k : Int) < (n : Int) := by omega
      clear hx hcc hb
      by_cases h3 : 3 ≤ x
      · by_cases h4 : x < 43
        · have hR := HY1.out ⟨h3, h4⟩
          subst hR
          go_wp2
          go_ret
          exact ⟨rfl, HB.out⟩
        · have HNX : Hid (¬ (3 ≤ x ∧ x < 43)) := Lib.hid (fun h => h4 h.2)
          go_wp2
          go_round
          case rel =>
            refine ⟨k + 1, by omega, by go_num, fun j hj => ?_⟩
            by_cases e : j = k
            · subst e; rw [← HX.out]; exact HNX.out
            · exact HK.out j (by omega)
          case measure => simp [intOf]; omega
      · have HNX : Hid (¬ (3 ≤ x ∧ x < 43)) := Lib.hid (fun h => h3 h.1)
        go_wp2
        go_round
        case rel =>
          refine ⟨k + 1, by omega, by go_num, fun j hj => ?_⟩
          by_cases e : j = k
          · subst e; rw [← HX.out]; exact HNX.out
          · exact HK.out j (by omega)
        case measure => simp [intOf]; omega
    · obtain rfl : k = n := by omega
      have hR := HNO.out HK.out
      subst hR
      go_wp2
      go_ret
      exact ⟨rfl, HB.out⟩
theorem blocks10_of {w : World} {P : Nat → Prop} {p : Value} {s : DS} (h : Dk w P p s) (hd : s.dn = false) (hl : s.F.length ≤ 2000) :
    Calls Try.prog 9 #[p] w fun e w' => ∃ v, e = .returned v ∧ BBo w' w.heap.size P v s.vis ∧ Below w.heap.size w w' := by
  have HLT := Lib.hid (fun k hk => h.lt k hk)
  have KB := Lib.hid (kBlocks h)
  have KR := Lib.hid (fun W (hb : Below w.heap.size w W) (k : Nat) (hk : k < s.F.length) => kRead (h.below hb) k hk hd)
  have hvl := DS.vis_length s
  obtain ⟨bp, rfl⟩ := h.ptr
  obtain ⟨V, hV⟩ : ∃ V, V = s.vis := ⟨_, rfl⟩
  rw [← hV] at KR hvl ⊢
  obtain ⟨n, hn⟩ : ∃ n, n = s.F.length := ⟨_, rfl⟩
  rw [← hn] at KB KR hl hvl
  have HTK := Lib.hid (fun k (hk : k < n) => show V.take (k + 1) = V.take k ++ [V.getD k []] by
    rw [List.take_succ_eq_append_getElem (by omega)]
    simp [List.getD_eq_getElem?_getD, show k < V.length by omega])
  have HTN : Hid (V.take n = V) := Lib.hid (List.take_of_length_le (by omega))
  have HTL := Lib.hid (fun k => show (V.take k).length ≤ 100000 by rw [List.length_take]; omega)
  have HO : Hid (BBo w w.heap.size P (.slice none 0 0) (V.take 0)) := Lib.hid (by rw [List.take_zero]; exact BBo.nil _ _ _)
  have HB0 : Hid (Below w.heap.size w w) := Lib.hid (Below.refl _ _)
  clear h hd hvl hV hn
  go_enter Try.func9, Try.ntmps9
  go_wp2_with (go_at_call 26; (with_reducible refine KB.out.mono ?_); rintro e w2 ⟨rfl, rfl⟩)
  go_loopw [3, 9] (fun v i wr => ∃ k : Nat, k ≤ n ∧ i = .int .i64 k ∧ Hid (BBo wr w.heap.size P v (V.take k)) ∧ Hid (Below w.heap.size w wr)) (fun _ i _ => n - (intOf i).toNat)
  case atStart => exact ⟨0, by omega, rfl, HO, HB0⟩
  case round =>
    rename_i v
    obtain ⟨k, hk, rfl, HOK, HB⟩ := hrel
    clear HO HB0
    by_cases hlt : k < n
    · have KC := Lib.hid (KR.out _ HB.out k hlt)
      have ek : (k : Int) < (n : Int) := by omega
      go_wp2_with (first
        | (go_at_call 16; (with_reducible refine KC.out.mono ?_); rintro e w2 ⟨y, rfl, hoy, hb2, hy⟩
           subst hy
           have hsz := HB.out.size
           have HO2 := Lib.hid (HOK.out.below hb2)
           have HA1 : Hid (Apt P (.slice (some ⟨wr.heap.size, 0, none⟩) 256 256)) := Lib.hid (Apt.new (fun hp => by have := HLT.out _ hp; omega))
           have HA2 := Lib.hid (fun k' (hk' : Value.ownBlock _ = some k') => HOK.out.own k' hk')
           have HY := Lib.hid hoy
           have HB2 := Lib.hid (HB.out.trans (hb2.mono HB.out.size))
           clear hoy hb2 hsz)
        | (at_builtin; refine wpList_append_bbo 24 Try.underlying24 w2 (.slice (some ⟨wr.heap.size, 0, none⟩) 256 256) (V.getD k []) rfl (.tmp 18) (.tmp 20) rfl w.heap.size P _ (V.take k) rfl HO2.out HY.out HA1.out (by
             refine Apt.new fun hp => ?_
             have := (HA2.out _ hp).2
             omega) w2.heap.size rfl rfl (HTL.out k) HB2.out.size ?_
           intro v3 w3 hv3 hb3 _))
      go_roundw
      case rel => exact ⟨k + 1, by omega, by go_num, by rw [HTK.out k hlt]; exact hv3, HB2.out.trans hb3⟩
      case measure => simp [intOf]; omega
    · obtain rfl : k = n := by omega
      go_wp2
      go_ret
      exact ⟨_, rfl, by rw [← HTN.out]; exact HOK.out, HB.out⟩
end Go.Proofs.Ytpjmnmkdegkfcaa

/- The law's functions of layer 10: same, sameOpen, want. -/
namespace Go.Proofs.Ytpjmnmkdegkfcaa
set_option maxRecDepth 100000
open Go.RowKit
set_option linter.unusedVariables false

theorem same10_of {w : World} {u v : Value} {L : List (List Int)} (hu : BBSl w u L) (hv : BBSl w v L) (hL : L.length ≤ 1000000) :
    Calls Try.prog 13 #[u, v] w fun e w' => e = .returned (.bool true) ∧ Below w.heap.size w w' := by
  obtain ⟨a1, c1, rfl, _, k1⟩ := hu.open'
  obtain ⟨a2, c2, rfl, _, k2⟩ := hv.open'
  obtain ⟨n, hn⟩ : ∃ n, n = L.length := ⟨_, rfl⟩
  rw [← hn] at k1 k2 hL ⊢
  have K1 := Lib.hid k1
  have K2 := Lib.hid k2
  have hb0 : Below w.heap.size w w := Below.refl _ _
  clear hu hv k1 k2 hn
  go_enter Try.func13, Try.ntmps13
  go_wp2
  go_loopw [13] (fun i wr => ∃ k : Nat, k ≤ n ∧ i = .int .i64 k ∧ Below w.heap.size w wr) (fun i _ => n - (intOf i).toNat)
  case atStart => exact ⟨0, by omega, rfl, hb0⟩
  case round =>
    obtain ⟨k, hk, rfl, hbr⟩ := hrel
    clear hb0
    by_cases hlt : k < n
    · obtain ⟨b1, o1, rfl, hb1, q1⟩ := K1.out (by omega)
      obtain ⟨b2, o2, rfl, hb2, q2⟩ := K2.out (by omega)
      obtain ⟨x1, p1, s1⟩ := q1 k hlt
      obtain ⟨x2, p2, s2⟩ := q2 k hlt
      have e1 := (hbr.cell (p := ⟨b1, o1 + k, none⟩) hb1).trans p1
      have e2 := (hbr.cell (p := ⟨b2, o2 + k, none⟩) hb2).trans p2
      have v1 := conv_bsl (s1.below hbr)
      have v2 := conv_bsl (s2.below hbr)
      have v1d := fun m => conv_drewN (s1.below hbr) m
      have v2d := fun m => conv_drewN (s2.below hbr) m
      obtain ⟨y1, z1, rfl, _⟩ := s1.shape
      obtain ⟨y2, z2, rfl, _⟩ := s2.shape
      obtain ⟨T, hT⟩ : ∃ T, T = strOfNums (L.getD k []) := ⟨_, rfl⟩
      obtain ⟨m, hm⟩ : ∃ m, m = (L.getD k []).length := ⟨_, rfl⟩
      rw [← hT] at v1 v2 v1d v2d
      rw [← hm] at v1 v2 v1d v2d e1 e2
      have ek : (k : Int) < (n : Int) := by omega
      have HBR := Lib.hid hbr
      clear q1 q2 p1 p2 s1 s2 hT hm hbr hb1 hb2
      go_wp2
      go_quiet (fail)
      go_wp2
      go_roundw
      case rel => exact ⟨k + 1, by omega, by go_num, below_drewN' HBR.out nq⟩
      case measure => simp [intOf]; omega
    · obtain rfl : k = n := by omega
      go_wp2
      go_ret
      exact ⟨rfl, hbr⟩
/-- Alike, but for the journal's. -/
def openS (L M : List (List Int)) (k : Nat) : Prop := ∀ i, i < k → OutJ i → L.getD i [] = M.getD i []
theorem sameOpen10_is {w : World} {u v : Value} {L M : List (List Int)} (hu : BBSl w u L) (hv : BBSl w v M) (hL : L.length ≤ 1000000) (hM : M.length = L.length) (B : Bool) (hB : B = true ↔ openS L M L.length) :
    Calls Try.prog 25 #[u, v] w fun e w' => e = .returned (.bool B) ∧ Below w.heap.size w w' := by
  have HYE := Lib.hid hB.2
  have HNO := Lib.hid (fun k (hk : k < L.length) (ho : OutJ k) (hne : ¬ L.getD k [] = M.getD k []) => show B = false by
    cases e : B
    · rfl
    · exact absurd (hB.1 e k hk ho) hne)
  obtain ⟨a1, c1, rfl, _, k1⟩ := hu.open'
  obtain ⟨a2, c2, rfl, _, k2⟩ := hv.open'
  rw [hM] at k2 ⊢
  obtain ⟨n, hn⟩ : ∃ n, n = L.length := ⟨_, rfl⟩
  rw [← hn] at k1 k2 hL HYE HNO ⊢
  have K1 := Lib.hid k1
  have K2 := Lib.hid k2
  have hb0 : Below w.heap.size w w := Below.refl _ _
  clear hu hv k1 k2 hn hM hB
  go_enter Try.func25, Try.ntmps25
  go_wp2
  go_loopw [8] (fun i wr => ∃ k : Nat, k ≤ n ∧ i = .int .i64 k ∧ Below w.heap.size w wr ∧ Hid (openS L M k)) (fun i _ => n - (intOf i).toNat)
  case atStart => exact ⟨0, by omega, rfl, hb0, fun i hi => absurd hi (Nat.not_lt_zero _)⟩
  case round =>
    obtain ⟨k, hk, rfl, hbr, HK⟩ := hrel
    clear hb0
    by_cases hlt : k < n
    · obtain ⟨b1, o1, rfl, hb1, q1⟩ := K1.out (by omega)
      obtain ⟨b2, o2, rfl, hb2, q2⟩ := K2.out (by omega)
      obtain ⟨x1, p1, s1⟩ := q1 k hlt
      obtain ⟨x2, p2, s2⟩ := q2 k hlt
      have e1 := (hbr.cell (p := ⟨b1, o1 + k, none⟩) hb1).trans p1
      have e2 := (hbr.cell (p := ⟨b2, o2 + k, none⟩) hb2).trans p2
      have HBR := Lib.hid hbr
      have ek : (k : Int) < (n : Int) := by omega
      have HNK := Lib.hid (HNO.out k hlt)
      have HS := Lib.hid (fun (hne : ¬ L.getD k [] = M.getD k []) => strs_ne s1.1 s2.1 hne strOf_inj)
      have v1 := conv_bsl (s1.below hbr)
      have v2 := conv_bsl (s2.below hbr)
      have v1d := fun m => conv_drewN (s1.below hbr) m
      have v2d := fun m => conv_drewN (s2.below hbr) m
      obtain ⟨y1, z1, rfl, _⟩ := s1.shape
      obtain ⟨y2, z2, rfl, _⟩ := s2.shape
      obtain ⟨l1, hl1⟩ : ∃ l1, l1 = (L.getD k []).length := ⟨_, rfl⟩
      obtain ⟨l2, hl2⟩ : ∃ l2, l2 = (M.getD k []).length := ⟨_, rfl⟩
      rw [← hl1] at v1 v1d e1
      rw [← hl2] at v2 v2d e2
      clear q1 q2 p1 p2 s1 s2 hl1 hl2 hbr hb1 hb2
      by_cases h3 : k < 3
      · have i3 : (k : Int) < 3 := by omega
        by_cases heq : L.getD k [] = M.getD k []
        · have HEQ := Lib.hid heq
          rw [← heq] at v2 v2d
          obtain ⟨T, hT⟩ : ∃ T, T = strOfNums (L.getD k []) := ⟨_, rfl⟩
          rw [← hT] at v1 v2 v1d v2d
          clear hT HS heq
          go_wp2
          go_quiet (fail)
          go_wp2
          go_roundw
          case rel => exact ⟨k + 1, by omega, by go_num, below_drewN' HBR.out nq, fun i hi ho => by
            by_cases e : i = k
            · subst e; exact HEQ.out
            · exact HK.out i (by omega) ho⟩
          case measure => simp [intOf]; omega
        · obtain ⟨hst2, hst3⟩ := HS.out heq
          have hR := HNK.out (by exact .inl h3) heq
          subst hR
          obtain ⟨T1, hT1⟩ : ∃ T1, T1 = strOfNums (L.getD k []) := ⟨_, rfl⟩
          obtain ⟨T2, hT2⟩ : ∃ T2, T2 = strOfNums (M.getD k []) := ⟨_, rfl⟩
          rw [← hT1] at v1 v1d hst2 hst3
          rw [← hT2] at v2 v2d hst2 hst3
          clear hT1 hT2 HS heq
          go_wp2
          go_quiet (fail)
          go_wp2
          go_ret
          exact ⟨rfl, below_drewN' HBR.out _⟩
      · by_cases h43 : 43 ≤ k
        · have i3 : ¬ (k : Int) < 3 := by omega
          have i43 : (43 : Int) ≤ (k : Int) := by omega
          by_cases heq : L.getD k [] = M.getD k []
          · have HEQ := Lib.hid heq
            rw [← heq] at v2 v2d
            obtain ⟨T, hT⟩ : ∃ T, T = strOfNums (L.getD k []) := ⟨_, rfl⟩
            rw [← hT] at v1 v2 v1d v2d
            clear hT HS heq
            go_wp2
            go_quiet (fail)
            go_wp2
            go_roundw
            case rel => exact ⟨k + 1, by omega, by go_num, below_drewN' HBR.out nq, fun i hi ho => by
              by_cases e : i = k
              · subst e; exact HEQ.out
              · exact HK.out i (by omega) ho⟩
            case measure => simp [intOf]; omega
          · obtain ⟨hst2, hst3⟩ := HS.out heq
            have hR := HNK.out (by exact .inr h43) heq
            subst hR
            obtain ⟨T1, hT1⟩ : ∃ T1, T1 = strOfNums (L.getD k []) := ⟨_, rfl⟩
            obtain ⟨T2, hT2⟩ : ∃ T2, T2 = strOfNums (M.getD k []) := ⟨_, rfl⟩
            rw [← hT1] at v1 v1d hst2 hst3
            rw [← hT2] at v2 v2d hst2 hst3
            clear hT1 hT2 HS heq
            go_wp2
            go_quiet (fail)
            go_wp2
            go_ret
            exact ⟨rfl, below_drewN' HBR.out _⟩
        · have i3 : ¬ (k : Int) < 3 := by omega
          have i43 : ¬ (43 : Int) ≤ (k : Int) := by omega
          have j3 : decide ((k : Int) < 3) = false := decide_eq_false i3
          have j43 : decide ((43 : Int) ≤ (k : Int)) = false := decide_eq_false i43
          go_wp2
          go_quiet (fail)
          go_wp2
          go_roundw
          case rel => exact ⟨k + 1, by omega, by go_num, below_drewN' HBR.out nq, fun i hi ho => by
            by_cases e : i = k
            · subst e; rcases ho with h | h <;> omega
            · exact HK.out i (by omega) ho⟩
          case measure => simp [intOf]; omega
    · obtain rfl : k = n := by omega
      have hR := HYE.out HK.out
      subst hR
      go_wp2
      go_ret
      exact ⟨rfl, hbr⟩
end Go.Proofs.Ytpjmnmkdegkfcaa

/- The law's few, Few, Theirs, awake. -/
namespace Go.Proofs.Ytpjmnmkdegkfcaa
set_option maxRecDepth 100000
open Go.RowKit
set_option linter.unusedVariables false

/-- How many bytes the first k have; is it few? -/
def sumK9 (L : List (List Int)) : Nat → Int
  | 0 => 0
  | k + 1 => sumK9 L k + ((L.getD k []).length : Int)
def okF9 (L : List (List Int)) (k : Nat) : Bool := decide (k < 60) && decide (sumK9 L (k + 1) ≤ 20000)
def fewS (L : List (List Int)) : Bool := (List.range L.length).all fun k => okF9 L k
def FewS (N : List Int) (D : List (List Int)) : Bool := fewS D && decide (N.length ≤ 60)
theorem fewS_iff (L : List (List Int)) : fewS L = true ↔ ∀ k, k < L.length → okF9 L k = true := by
  unfold fewS
  rw [List.all_eq_true]
  exact ⟨fun h i hi => h i (List.mem_range.2 hi), fun h i hi => h i (List.mem_range.1 hi)⟩
theorem fewS_no {L : List (List Int)} (k : Nat) (hk : k < L.length) (h : okF9 L k = false) : fewS L = false := by
  cases e : fewS L
  · rfl
  · rw [(fewS_iff L).1 e k hk] at h; cases h
theorem fewS_len {L : List (List Int)} (h : fewS L = true) : L.length ≤ 60 := by
  by_cases h0 : L.length = 0
  · omega
  · have := (fewS_iff L).1 h (L.length - 1) (by omega)
    unfold okF9 at this
    rw [Bool.and_eq_true, decide_eq_true_eq] at this
    omega
theorem sumK9_pos (L : List (List Int)) (k : Nat) : 0 ≤ sumK9 L k := by
  induction k with
  | zero => exact Int.le_refl _
  | succ k ih => unfold sumK9; omega
theorem okF9_of {L : List (List Int)} {k : Nat} (h : ∀ j, j < k → okF9 L j = true) : k ≤ 60 ∧ sumK9 L k ≤ 20000 := by
  cases k with
  | zero => exact ⟨by omega, by unfold sumK9; omega⟩
  | succ k =>
    have := h k (by omega)
    unfold okF9 at this
    rw [Bool.and_eq_true, decide_eq_true_eq, decide_eq_true_eq] at this
    exact ⟨by omega, this.2⟩
theorem Few9_is {w : World} {v : Value} {q : Int} {N : List Int} {D : List (List Int)} (hv : TxV w v q N D) (hr : ∀ j, (D.getD j []).length ≤ 140737488355328) (B : Bool) (hB : FewS N D = B) :
    Calls Try.prog 7 #[v] w fun e w' => e = .returned (.bool B) ∧ Below w.heap.size w w' := by
  have HNO := Lib.hid (fun k hk h => show B = false by rw [← hB]; unfold FewS; rw [fewS_no (L := D) k hk h]; rfl)
  have HYE := Lib.hid (fun h => show decide (N.length ≤ 60) = B by rw [← hB]; unfold FewS; rw [(fewS_iff D).2 h]; rfl)
  obtain ⟨no, nc, ao, cap, rfl, _, hD⟩ := hv
  obtain ⟨_, _, t3, _, hc⟩ := hD.open'
  obtain ⟨rfl, rfl⟩ := And.intro (Value.slice.inj t3).1 (Value.slice.inj t3).2.2
  obtain ⟨m, hm⟩ : ∃ m, m = N.length := ⟨_, rfl⟩
  obtain ⟨n, hn⟩ : ∃ n, n = D.length := ⟨_, rfl⟩
  rw [← hn] at hc HNO HYE ⊢
  rw [← hm] at HYE ⊢
  have hbx := below_box w (.cells #[.int .u32 q, .slice no m nc, .slice ao n cap] 26)
  have hnx := heap_alloc_new w (.cells #[.int .u32 q, .slice no m nc, .slice ao n cap] 26)
  have HC := Lib.hid hc
  have HR := Lib.hid hr
  clear hD hc hr hn hm t3 hB
  go_enter Try.func7, Try.ntmps7
  go_upto_region 1 with (fail)
  generalize w.alloc (.cells #[.int .u32 q, .slice no m nc, .slice ao n cap] 26) = w2 at hbx hnx ⊢
  have d1 : w2.cell? ⟨w.heap.size, 1, none⟩ = some (.slice no m nc) := by rw [cell_of_row _ _ _ _ _ _ hnx]; rfl
  have d2 : w2.cell? ⟨w.heap.size, 2, none⟩ = some (.slice ao n cap) := by rw [cell_of_row _ _ _ _ _ _ hnx]; rfl
  have HB := Lib.hid hbx
  clear hnx hbx
  go_wp2
  go_loop [3, 8] (fun s i => ∃ k : Nat, k ≤ n ∧ i = .int .i64 k ∧ s = .int .i64 (sumK9 D k) ∧ Hid (∀ j, j < k → okF9 D j = true)) (fun _ i => n - (intOf i).toNat)
  case atStart => exact ⟨0, by omega, rfl, rfl, fun j hj => absurd hj (Nat.not_lt_zero _)⟩
  case round =>
    obtain ⟨k, hk, rfl, rfl, HK⟩ := hrel
    obtain ⟨h60, ht1⟩ := okF9_of HK.out
    have ht0 := sumK9_pos D k
    by_cases hlt : k < n
    · obtain ⟨b, off, rfl, hb, hcc⟩ := HC.out (by omega)
      obtain ⟨u, hcu, hu⟩ := hcc k hlt
      have hck := (HB.out.cell (p := ⟨b, off + k, none⟩) hb).trans hcu
      obtain ⟨uo, uc, rfl, _⟩ := hu.shape
      have hrk := HR.out k
      have hno := HNO.out k hlt
      have hsk : sumK9 D (k + 1) = sumK9 D k + ((D.getD k []).length : Int) := rfl
      have hok : okF9 D k = (decide (k < 60) && decide (sumK9 D (k + 1) ≤ 20000)) := rfl
      rw [hsk] at hok
      obtain ⟨y, hy⟩ : ∃ y, y = (D.getD k []).length := ⟨_, rfl⟩
      rw [← hy] at hck hrk hsk hok
      generalize sumK9 D k = t at ht0 ht1 hsk hok ⊢
      have HSK := Lib.hid hsk
      have HOK := Lib.hid hok
      have HN1 := Lib.hid hno
      have ek : (k : Int) < (n : Int) := by omega
      clear hcc hu hy hsk hok hno hcu hb
      by_cases h1 : k = 60
      · have hR := HN1.out (by rw [HOK.out, decide_eq_false (by omega)]; rfl)
        subst hR
        subst h1
        go_wp2
        go_ret
        exact ⟨rfl, HB.out⟩
      · have h60i : ¬ (60 : Int) ≤ (k : Int) := by omega
        by_cases h2 : (20000 : Int) < t + (y : Int)
        · have hR := HN1.out (by rw [HOK.out, decide_eq_false (by omega : ¬ t + (y : Int) ≤ 20000), Bool.and_false])
          subst hR
          go_wp2
          go_ret
          exact ⟨rfl, HB.out⟩
        · have HOT : Hid (okF9 D k = true) := Lib.hid (by rw [HOK.out, decide_eq_true (by omega), decide_eq_true (by omega)]; rfl)
          go_wp2
          go_round
          case rel =>
            refine ⟨k + 1, by omega, by go_num, by rw [HSK.out], fun j hj => ?_⟩
            by_cases e : j = k
            · subst e; exact HOT.out
            · exact HK.out j (by omega)
          case measure => simp [intOf]; omega
    · obtain rfl : k = n := by omega
      have HR2 := Lib.hid (HYE.out HK.out)
      by_cases hm : m ≤ 60
      · have hmi : (m : Int) ≤ 60 := by omega
        rw [decide_eq_true hm] at HR2
        have hR := HR2.out
        subst hR
        go_wp2
        go_ret
        exact ⟨rfl, HB.out⟩
      · have hmi : ¬ (m : Int) ≤ 60 := by omega
        rw [decide_eq_false hm] at HR2
        have hR := HR2.out
        subst hR
        go_wp2
        go_ret
        exact ⟨rfl, HB.out⟩
end Go.Proofs.Ytpjmnmkdegkfcaa

/- TxnPacks: the walk of the law itself. -/
namespace Go.Proofs.Ytpjmnmkdegkfcaa
set_option maxRecDepth 100000
open Go.RowKit
set_option linter.unusedVariables false

theorem bbr_empty (w : World) (B : Nat) (hB : B ≤ w.heap.size) : BBR (w.alloc (.cells #[] 40)) B (.slice (some ⟨w.heap.size, 0, none⟩) 0 0) [] :=
  ⟨[], rfl, fun j hj => absurd hj (Nat.not_lt_zero _), rfl, .inr ⟨w.heap.size, 0, #[], rfl, hB, heap_alloc_new w _, Nat.le_refl _, by decide, rfl, rfl⟩⟩
/-- s[:hi] of a [][]byte. -/
theorem wpList_slice_bbh {w : World} {ops : Array Oper} {rest : List Oper} {o : Oper} {a : Act} {Q : Exit → Act → World → Prop} (hgd : o.guard = none) (x hi : Operand) (ho : o.op = .slice 24 x none (some hi) none)
    (b off n cap : Nat) (hx : a.eval x = .slice (some ⟨b, off, none⟩) n cap) (H : Int) (hh : a.eval hi = .int .i64 H) (h : Nat) (hH : H = h) (h2 : h ≤ cap)
    (hK : wpList Try.prog ops Q rest (a.put o.dst (.slice (some ⟨b, off, none⟩) h cap)) w) : wpList Try.prog ops Q (o :: rest) a w := by
  subst hH
  obtain ⟨i, g2, g3, g4, g5⟩ := info_parts infoBy
  have ee : Try.prog.elem 24 = 40 := by kernel_rfl
  have hs : (sizeOf 40).run Try.prog w = .ok 1 w := by simp [sizeOf, typeInfo, g2, g4]
  have hrun : (Instr.sliceAt 24 (.slice (some ⟨b, off, none⟩) n cap) none (some (.int .i64 (h : Int))) none).run Try.prog w = .ok (.slice (some ⟨b, off, none⟩) h cap) w := by
    rw [run_sliceAt_slice w 24 _ _ _ _ (by rw [ee]; exact Try.underlying24), run_slice_h w 24 _ n cap (by rw [ee]; exact Try.underlying24) .i64 (h : Int) (by omega) (by omega)]
    simp [sliced, ee, hs, Addr.add_lit]
  refine wpList_plain hgd fun K hK' => ?_
  unfold Oper.wp execOp
  simp only [ho, hx, hh, Option.map_some, Option.map_none, hrun, Sem.run_bind, Sem.run_pure, Result.andThen_ok]
  exact hK' _ _ hK
theorem BBSl.take {w : World} {b off cap : Nat} {L : List (List Int)} (h : BBSl w (.slice (some ⟨b, off, none⟩) L.length cap) L) (k : Nat) (hk : k ≤ L.length) : BBSl w (.slice (some ⟨b, off, none⟩) k cap) (L.take k) := by
  have := h.mid 0 k (by omega) (L.take k) (by rw [List.drop_zero])
  rw [Nat.add_zero, Nat.sub_zero] at this
  exact this
end Go.Proofs.Ytpjmnmkdegkfcaa
