/- TxnPacks: the walk of the law itself, for a change that is formed. -/
import Derived.Test.YtmjndpmpeidhaaaLawTxn
namespace Go.Proofs.Ytmjndpmpeidhaaa
open Go.RowKit
set_option linter.unusedVariables false

/-- The blocks but the end, others, and the end: what is asked of them. -/
theorem between_facts (q : Int) (N : List Int) (D M : List (List Int)) (hl : D.length = N.length) :
    let L := packT q N D
    let A := ((([] ++ L.take (D.length + 1)) ++ M) ++ [sealS (endL q)])
    A.length = D.length + 2 + M.length ∧ A.getD 0 [] = sealS (headL q N) ∧ A.getD (A.length - 1) [] = sealS (endL q) ∧ (A.drop 1).take N.length = D := by
  intro L A
  have hT : L.take (D.length + 1) = sealS (headL q N) :: D := by
    show List.take (D.length + 1) (sealS (headL q N) :: (D ++ [sealS (endL q)])) = _
    rw [List.take_succ_cons, List.take_left]
  have hA : A = sealS (headL q N) :: (D ++ (M ++ [sealS (endL q)])) := by
    show (([] ++ L.take (D.length + 1)) ++ M) ++ [sealS (endL q)] = _
    rw [hT]; simp
  have hlen : A.length = D.length + 2 + M.length := by rw [hA]; simp; omega
  refine ⟨hlen, by rw [hA]; rfl, ?_, ?_⟩
  · rw [hlen]
    have : A = (sealS (headL q N) :: (D ++ M)) ++ [sealS (endL q)] := by rw [hA]; simp
    have h2 : (sealS (headL q N) :: (D ++ M)).length = D.length + 2 + M.length - 1 := by simp; omega
    rw [this, List.getD_eq_getElem?_getD, List.getElem?_append_right (by omega), ← h2, Nat.sub_self]
    rfl
  · rw [hA, List.drop_succ_cons, List.drop_zero, ← hl, List.take_left]
theorem packT_last (q : Int) (N : List Int) (D : List (List Int)) : (packT q N D).getD (D.length + 1) [] = sealS (endL q) := by
  unfold packT
  rw [List.getD_cons_succ, List.getD_eq_getElem?_getD, List.getElem?_append_right (Nat.le_refl _), Nat.sub_self]
  rfl
theorem below_wrote {w w' : World} {g B : Nat} (h : Wrote w w' g) (hB : B ≤ g) : Below B w w' := h.below hB

set_option maxHeartbeats 4000000 in
theorem lPacks_yes {w : World} {tv bv : Value} {q : Int} {N : List Int} {D M : List (List Int)} (ht : TxV w tv q N D) (hm' : BBSl w bv M) (hrD : ∀ j, (D.getD j []).length ≤ 140737488355328) (hrM : ∀ j, (M.getD j []).length ≤ 140737488355328) (hB : FewS N D = true) (hB2 : fewS M = true) (hF : frmT N D = true) (q0 : 0 ≤ q) (q1 : q < 4294967296) :
    Calls Try.prog 3 #[tv, bv] w fun e w' => e = .returned (.bool true) ∧ Below w.heap.size w w' := by
  have ht' := ht
  obtain ⟨no, nc, ao, dc, rfl, hN, hD⟩ := ht
  obtain ⟨n, hn⟩ : ∃ n, n = N.length := ⟨_, rfl⟩
  obtain ⟨m, hm⟩ : ∃ m, m = D.length := ⟨_, rfl⟩
  rw [← hn, ← hm] at ht' ⊢
  have hbx := below_box w (.cells #[.int .u32 q, .slice no n nc, .slice ao m dc] 26)
  have hnx := heap_alloc_new w (.cells #[.int .u32 q, .slice no n nc, .slice ao m dc] 26)
  have hM60 := fewS_len hB2
  obtain ⟨h37, hDl, hall⟩ := frmT_of hF
  have hFN : frmNs N = true := by rw [frmT_parts] at hF; rw [Bool.and_eq_true] at hF; exact hF.1
  have hW : whole D = true := by rw [frmT_parts, Bool.and_eq_true, Bool.and_eq_true] at hF; exact hF.2.2
  have KF1 := Lib.hid (fun W (hb : Below w.heap.size w W) => Few9_is (ht'.below hb) hrD true hB)
  have KF2 := Lib.hid (fun W (hb : Below w.heap.size w W) => few9_is (hm'.below hb) hrM true hB2)
  have KP := Lib.hid (fun W (hb : Below w.heap.size w W) => tPack_yes (ht'.below hb) hF q0 q1)
  have KR := Lib.hid (fun W (hb : Below w.heap.size w W) => rPackT_yes (ht'.below hb) hF q0 q1)
  have KTF := Lib.hid (fun W (hb : Below w.heap.size w W) => tForm_is (ht'.below hb) true hF)
  have KRF := Lib.hid (fun W (hb : Below w.heap.size w W) => rFormT_is (ht'.below hb) true hF)
  have KSQ := Lib.hid (fun W v (h : BBSl W v (packT q N D)) => tSeq_of h (by rw [packT_length]; omega) rfl hFN q0 q1)
  obtain ⟨bl1, bl2, bl3, bl4⟩ := between_facts q N D M hDl
  have KU := Lib.hid (fun W v (h : BBSl W v ((([] ++ (packT q N D).take (D.length + 1)) ++ M) ++ [sealS (endL q)])) => tUnpack_of h (by rw [bl1]; omega) (by rw [bl1]; omega) bl2 bl3 bl4 hW hFN q0 q1)
  have KSM := Lib.hid (fun W x y (h1 : TxV W x q N D) (h2 : TxV W y q N D) => rSameT_of h1 h2 (by omega) (by omega))
  have HTV := Lib.hid (fun W (hb : Below w.heap.size w W) => ht'.below hb)
  have HMV := Lib.hid (fun W (hb : Below w.heap.size w W) => hm'.below hb)
  have hPl := packT_length q N D
  have hPe := packT_last q N D
  have HE256 := Lib.hid (sealS_length (endL q) (by rw [endL_length]; omega))
  have HTL : Hid (([] ++ (packT q N D).take (D.length + 1)).length = D.length + 1) := Lib.hid (by rw [List.nil_append, List.length_take, hPl]; omega)
  have HOS := Lib.hid (fun W v (h : BBSl W v (packT q N D)) => h.open')
  have HSB := Lib.hid (fun W x y (h1 : BBSl W x (packT q N D)) (h2 : BBSl W y (packT q N D)) => sameB9_of h1 h2 (by rw [hPl]; omega))
  have HTK := Lib.hid (fun W b off cap (h : BBSl W (.slice (some ⟨b, off, none⟩) (packT q N D).length cap) (packT q N D)) => h.take (D.length + 1) (by rw [hPl]; omega))
  obtain ⟨P, hP⟩ : ∃ P, P = (packT q N D).length := ⟨_, rfl⟩
  rw [← hP] at hPl HOS HTK
  rw [← hm] at hPl hPe hDl HTL HTK KU
  have hm37 : m ≤ 37 := by omega
  have HMN : Hid (m = n) := Lib.hid (by omega)
  generalize sealS (endL q) = EB at KU hPe HE256
  generalize packT q N D = PL at *
  have HPE := Lib.hid hPe
  have HM60 := Lib.hid hM60
  have ew : IntKind.i64.wrap ((P : Int) - 1) = (P : Int) - 1 := IntWalk.i64_in _ (by omega)
  have HPM : Hid (P = m + 2) := Lib.hid hPl
  clear hN hD hn hm ht' hrD hB hB2 hrM hm' hF q0 q1 hM60 h37 hDl hall hFN hW bl1 bl2 bl3 bl4 hPe hP
  go_enter Try.func3, Try.ntmps3
  go_upto_region 1 with (fail)
  generalize w.alloc (.cells #[.int .u32 q, .slice no n nc, .slice ao m dc] 26) = u at hbx hnx ⊢
  have hzu : w.heap.size < u.heap.size := (Array.getElem?_eq_some_iff.1 hnx).1
  have d0 : u.cell? ⟨w.heap.size, 0, none⟩ = some (.int .u32 q) := by rw [cell_of_row _ _ _ _ _ _ hnx]; rfl
  have d1 : u.cell? ⟨w.heap.size, 1, none⟩ = some (.slice no n nc) := by rw [cell_of_row _ _ _ _ _ _ hnx]; rfl
  have d2 : u.cell? ⟨w.heap.size, 2, none⟩ = some (.slice ao m dc) := by rw [cell_of_row _ _ _ _ _ _ hnx]; rfl
  obtain ⟨d, hd⟩ : ∃ d, d = w.heap.size := ⟨_, rfl⟩
  rw [← hd] at hzu d0 d1 d2 ⊢
  have C3 := Lib.hid (fun W (h : Below u.heap.size u W) => And.intro ((h.cell (p := ⟨d, 0, none⟩) hzu).trans d0) (And.intro ((h.cell (p := ⟨d, 1, none⟩) hzu).trans d1) ((h.cell (p := ⟨d, 2, none⟩) hzu).trans d2)))
  have HBX := Lib.hid hbx
  have HBT := Lib.hid (fun W (h : Below u.heap.size u W) => hbx.trans (h.mono hbx.size))
  have HD := Lib.hid hd
  clear hnx hbx hzu hd
  go_wp2_with (first
    | (go_at_call 4; (with_reducible refine (awake9_any u).mono ?_); rintro e w1 ⟨rfl, hb1⟩
       obtain ⟨x0, x1, x2⟩ := C3.out _ hb1
       have HU1 := Lib.hid hb1
       have HB1 := Lib.hid (HBT.out _ hb1)
       clear hb1)
    | (go_at_call 5; (with_reducible refine (KF1.out _ HB1.out).mono ?_); rintro e w2 ⟨rfl, hb2⟩
       have HU2 := Lib.hid (HU1.out.trans (hb2.mono HU1.out.size))
       obtain ⟨y0, y1, y2⟩ := C3.out _ HU2.out
       have HB2 := Lib.hid (HBT.out _ HU2.out)
       clear hb2)
    | (go_at_call 6; (with_reducible refine (KF2.out _ HB2.out).mono ?_); rintro e w3 ⟨rfl, rfl⟩)
    | (go_at_call 8; (with_reducible refine (Theirs9_of w2 q no ao n nc m dc).mono ?_); rintro e w4 ⟨rfl, hb4⟩
       have HU4 := Lib.hid (HU2.out.trans (hb4.mono HU2.out.size))
       have HB4 := Lib.hid (HBT.out _ HU4.out)
       clear hb4)
    | (go_at_call 7; (with_reducible refine (KP.out _ HB4.out).mono ?_); rintro e w5 ⟨l5, rfl, hl5, hb5⟩
       have HU5 := Lib.hid (HU4.out.trans (hb5.mono HU4.out.size))
       obtain ⟨z0, z1, z2⟩ := C3.out _ HU5.out
       have HB5 := Lib.hid (HBT.out _ HU5.out)
       have HL5 := Lib.hid hl5
       clear hb5 hl5)
    | (go_at_call 9; (with_reducible refine (KR.out _ HB5.out).mono ?_); rintro e w6 ⟨l6, rfl, hl6, hb6⟩
       have HU6 : Hid (Below u.heap.size u w6.drew) := Lib.hid (below_drewN' (HU5.out.trans (hb6.mono HU5.out.size)) 1)
       obtain ⟨a0, a1, a2⟩ := C3.out _ HU6.out
       have HB6 := Lib.hid (HBT.out _ HU6.out)
       have HL56 : Hid (BBSl w6.drew l5 PL) := Lib.hid (HL5.out.below (below_drewN' hb6 1))
       have HL6 : Hid (BBSl w6.drew l6 PL) := Lib.hid hl6
       clear hb6 hl6))
  clear x0 x1 x2 y0 y1 y2 z0 z1 z2 d0 d1 d2
  go_region_held3 (fun W => W.cell? ⟨d, 0, none⟩ = some (.int .u32 q) ∧ W.cell? ⟨d, 1, none⟩ = some (.slice no n nc) ∧ W.cell? ⟨d, 2, none⟩ = some (.slice ao m dc)) (first | exact ⟨g0, g1, g2⟩ | exact ⟨f0, f1, f2⟩ | exact ⟨c0, c1, c2⟩ | exact ⟨b0, b1, b2⟩ | exact ⟨a0, a1, a2⟩) (first
    | (go_at_call 8; (with_reducible refine (Theirs9_of _ q no ao n nc m dc).mono ?_); rintro e w7 ⟨rfl, hb7⟩
       have HU7 := Lib.hid (HU6.out.trans (hb7.mono HU6.out.size))
       obtain ⟨b0, b1, b2⟩ := C3.out _ HU7.out
       have HB7 := Lib.hid (HBT.out _ HU7.out)
       have H67 := Lib.hid hb7
       clear hb7)
    | (go_at_call 10; (with_reducible refine (KTF.out _ HB7.out).mono ?_); rintro e w8 ⟨rfl, hb8⟩
       have HU8 := Lib.hid (HU7.out.trans (hb8.mono HU7.out.size))
       obtain ⟨c0, c1, c2⟩ := C3.out _ HU8.out
       have HB8 := Lib.hid (HBT.out _ HU8.out)
       have H68 := Lib.hid (H67.out.trans (hb8.mono H67.out.size))
       clear hb8)
    | (go_at_call 11; (with_reducible refine (KRF.out _ HB8.out).mono ?_); rintro e w9 ⟨rfl, hb9⟩
       have HU9 := Lib.hid (HU8.out.trans (hb9.mono HU8.out.size))
       obtain ⟨f0, f1, f2⟩ := C3.out _ HU9.out
       have HB9 := Lib.hid (HBT.out _ HU9.out)
       have H69 := Lib.hid (H68.out.trans (hb9.mono H68.out.size))
       clear hb9)
    | (go_at_call 12; (with_reducible refine (HSB.out _ _ _ (HL56.out.below H69.out) (HL6.out.below H69.out)).mono ?_); rintro e w10 ⟨rfl, hb10⟩
       have HU10 := Lib.hid (HU9.out.trans (hb10.mono HU9.out.size))
       obtain ⟨g0, g1, g2⟩ := C3.out _ HU10.out
       have HB10 := Lib.hid (HBT.out _ HU10.out)
       have HL10 := Lib.hid (HL56.out.below (H69.out.trans (hb10.mono H69.out.size)))
       clear hb10))
  -- the blocks' own shape
  obtain ⟨lo, cap, hlv, hcap, hlc⟩ := HOS.out _ _ HL10.out
  subst hlv
  obtain ⟨b, off, rfl, hlb, hcc⟩ := hlc (by omega)
  obtain ⟨ul, hul, hbl⟩ := hcc (P - 1) (by omega)
  have e11 : P - 1 = m + 1 := by omega
  rw [e11, HPE.out] at hbl
  obtain ⟨eo, ec, rfl, _⟩ := hbl.shape
  rw [HE256.out] at hul hbl
  have HTK1 := Lib.hid (HTK.out _ _ _ _ HL10.out)
  have HBL := Lib.hid hbl
  have HMV1 := Lib.hid (HMV.out _ HB10.out)
  have HUL := Lib.hid (fun W (h : Below w10.heap.size w10 W) => (h.cell (p := ⟨b, off + (P - 1), none⟩) hlb).trans hul)
  have h1 : (1 : Int) ≤ (P : Int) := by omega
  have h2 : 1 ≤ P := by omega
  have h3 : 0 < P := by omega
  have h4 : (0 : Int) < (P : Int) := by omega
  have h5 : P - 1 < P := by omega
  have h6 : (P : Int) - 1 < (P : Int) := by omega
  have h7 : (0 : Int) ≤ (P : Int) - 1 := by omega
  have h8 : ((P : Int) - 1).toNat = P - 1 := by omega
  have HH : Hid ((P : Int) - 1 = ((m + 1 : Nat) : Int)) := Lib.hid (by push_cast; omega)
  have HLE : Hid (m + 1 ≤ cap) := Lib.hid (by omega)
  have HBA := Lib.hid (below_box w10 (.cells #[] 40))
  have HBE := Lib.hid (bbr_empty w10 w10.heap.size (Nat.le_refl _))
  have HA1 := Lib.hid ((HTK1.out.old (Nat.le_refl w10.heap.size)).below HBA.out)
  have HAL : Hid (([] : List (List Int)).length + (PL.take (m + 1)).length ≤ 1000000) := Lib.hid (by have := HTL.out; rw [List.nil_append] at this; rw [this]; simp; omega)
  have HAL2 : Hid (([] ++ PL.take (m + 1)).length + M.length ≤ 1000000) := Lib.hid (by rw [HTL.out]; have := HM60.out; omega)
  have HAL3 : Hid ((([] ++ PL.take (m + 1)) ++ M).length ≤ 100000) := Lib.hid (by rw [List.length_append, HTL.out]; have := HM60.out; omega)
  have HD10 := Lib.hid (C3.out _ HU10.out)
  clear hlc hcc hul hbl hlb hcap a0 a1 a2 b0 b1 b2 c0 c1 c2 f0 f1 f2 g0 g1 g2 e11 hPl
  go_wp2_with (first
    | (with_reducible refine wpList_slice_bbh rfl (.tmp 58) (.tmp 61) rfl b off P cap rfl ((P : Int) - 1) rfl (m + 1) HH.out HLE.out ?_)
    | (at_builtin; refine wpList_append_bbs 24 Try.underlying24 _ rfl (.tmp 57) (.tmp 62) rfl w10.heap.size _ [] rfl HBE.out _ (PL.take (m + 1)) rfl HA1.out HAL.out HBA.out.size ?_
       intro v11 w11 hv11 hb11
       have H11 := Lib.hid (HBA.out.trans hb11)
       have HV11 := Lib.hid hv11
       have HM11 := Lib.hid ((HMV1.out.old (Nat.le_refl w10.heap.size)).below H11.out)
       clear hv11 hb11)
    | (at_builtin; refine wpList_append_bbs 24 Try.underlying24 w11 rfl (.tmp 63) (.tmp 64) rfl w10.heap.size v11 ([] ++ PL.take (m + 1)) rfl HV11.out bv M rfl HM11.out HAL2.out H11.out.size ?_
       intro v12 w12 hv12 hb12
       have H12 := Lib.hid (H11.out.trans hb12)
       have HV12 := Lib.hid hv12
       have hul := HUL.out _ H12.out
       have HBL12 := Lib.hid ((BElt.old HBL.out (Nat.le_refl w10.heap.size)).below H12.out)
       clear hv12 hb12)
    | (at_builtin; refine wpList_append_bb 24 Try.underlying24 w12 (.slice eo 256 ec) EB rfl (.tmp 67) (.tmp 74) rfl w10.heap.size v12 (([] ++ PL.take (m + 1)) ++ M) rfl HV12.out HBL12.out w12.heap.size rfl rfl HAL3.out H12.out.size ?_
       intro v13 w13 hv13 hb13
       have H13 := Lib.hid (H12.out.trans hb13)
       have KU13 := Lib.hid (KU.out _ _ hv13.sl)
       clear hv13 hb13 hul)
    | (go_at_call 13; (with_reducible refine KU13.out.mono ?_); rintro e w14 ⟨u14, rfl, hu14, hb14⟩
       have H14 := Lib.hid (H13.out.trans (hb14.mono H13.out.size))
       have HU14 := Lib.hid hu14
       obtain ⟨no2, nc2, ao2, dc2, rfl, _, _⟩ := hu14
       generalize N.length = n2 at HU14 ⊢
       generalize D.length = m2 at HU14 ⊢
       clear hb14)
    | (go_at_call 14
       have hbs := below_box w14 (.cells #[.int .u32 q, .slice no2 n2 nc2, .slice ao2 m2 dc2] 33)
       have hns := heap_alloc_new w14 (.cells #[.int .u32 q, .slice no2 n2 nc2, .slice ao2 m2 dc2] 33)
       generalize w14.alloc (.cells #[.int .u32 q, .slice no2 n2 nc2, .slice ao2 m2 dc2] 33) = w15 at hbs hns ⊢
       have H15 := Lib.hid (H14.out.trans (hbs.mono H14.out.size))
       have hz15 := (Array.getElem?_eq_some_iff.1 hns).1
       have k0 : w15.cell? ⟨w14.heap.size, 0, none⟩ = some (.int .u32 q) := by rw [cell_of_row _ _ _ _ _ _ hns]; rfl
       have k1 : w15.cell? ⟨w14.heap.size, 1, none⟩ = some (.slice no2 n2 nc2) := by rw [cell_of_row _ _ _ _ _ _ hns]; rfl
       have k2 : w15.cell? ⟨w14.heap.size, 2, none⟩ = some (.slice ao2 m2 dc2) := by rw [cell_of_row _ _ _ _ _ _ hns]; rfl
       (with_reducible refine (KSQ.out _ _ (HL10.out.below H15.out)).mono ?_)
       rintro e w16 ⟨rfl, hb16⟩
       have s0 := (hb16.cell (p := ⟨w14.heap.size, 0, none⟩) hz15).trans k0
       have s1 := (hb16.cell (p := ⟨w14.heap.size, 1, none⟩) hz15).trans k1
       have s2 := (hb16.cell (p := ⟨w14.heap.size, 2, none⟩) hz15).trans k2
       have H16 := Lib.hid (H15.out.trans (hb16.mono H15.out.size))
       obtain ⟨r0, r1, r2⟩ := C3.out _ (HU10.out.trans (H16.out.mono HU10.out.size))
       have HX16 := Lib.hid ((HU14.out.below hbs).below hb16)
       have HT16 := Lib.hid (HTV.out _ (HB10.out.trans (H16.out.mono HB10.out.size)))
       clear hbs hns hz15 k0 k1 k2 hb16)
    | (go_at_call 15; (with_reducible refine (KSM.out _ _ _ HX16.out HT16.out).mono ?_); rintro e w17 ⟨rfl, hb17⟩))
  go_ret
  exact ⟨rfl, (HB10.out.trans (H16.out.mono HB10.out.size)).trans (hb17.mono (HB10.out.trans (H16.out.mono HB10.out.size)).size)⟩
theorem lPacks_any {w : World} {tv bv : Value} (ht : ∃ q N D, TxV w tv q N D ∧ (0 ≤ q ∧ q < 4294967296) ∧ ∀ j, (D.getD j []).length ≤ 140737488355328) (hm : ∃ M, BBSl w bv M ∧ ∀ j, (M.getD j []).length ≤ 140737488355328) :
    Calls Try.prog 3 #[tv, bv] w fun e w' => e = .returned (.bool true) ∧ Below w.heap.size w w' := by
  obtain ⟨q, N, D, ht, ⟨q0, q1⟩, hrD⟩ := ht
  obtain ⟨M, hm, hrM⟩ := hm
  cases h1 : FewS N D
  · exact lPacks_few1 ht hrD h1
  · cases h2 : fewS M
    · exact lPacks_few2 ht hm hrD hrM h1 h2
    · cases h3 : frmT N D
      · exact lPacks_no ht hm hrD hrM h1 h2 h3
      · exact lPacks_yes ht hm hrD hrM h1 h2 h3 q0 q1
end Go.Proofs.Ytmjndpmpeidhaaa
