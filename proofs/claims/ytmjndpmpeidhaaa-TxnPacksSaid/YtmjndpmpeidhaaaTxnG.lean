/- Contracts of package txn: readHead, Seq, of blocks that begin with a head. -/
import Derived.Test.YtmjndpmpeidhaaaTxnF
namespace Go.Proofs.Ytmjndpmpeidhaaa
open Go.RowKit
set_option linter.unusedVariables false

set_option maxHeartbeats 1000000 in
theorem tReadH_of {w : World} {v : Value} {q : Int} {N : List Int} {L : List (List Int)} (hs : BBSl w v L) (h0 : 0 < L.length) (hh : L.getD 0 [] = sealS (headL q N)) (hN : frmNs N = true) (q0 : 0 ≤ q) (q1 : q < 4294967296) :
    Calls Try.prog 24 #[v] w fun e w' => ∃ u, e = .returned (.tuple #[.int .u32 q, u, .bool true]) ∧ IR w' 0 u N ∧ Below w.heap.size w w' := by
  obtain ⟨h37, hx⟩ := frmNs_of hN
  have hl252 : (headL q N).length ≤ 252 := by rw [headL_length]; omega
  have hfl := fillS_length _ hl252
  obtain ⟨ao, cap, rfl, _, hc⟩ := hs.open'
  obtain ⟨b, off, rfl, hb, hcc⟩ := hc h0
  obtain ⟨u0, hu0, hb0⟩ := hcc 0 h0
  rw [hh] at hb0
  rw [Nat.add_zero] at hu0
  obtain ⟨uo, uc, rfl, _⟩ := hb0.shape
  have h256 := sealS_length _ hl252
  rw [h256] at hu0 hb0
  have KO := Lib.hid (pOpen_is hb0 (sealed_sealS _ hl252))
  rw [head_take q N h37] at KO
  have K4 := Lib.hid (fun W v (h : BSl W v (fillS (headL q N))) => pGetW h (by omega) 4 4 4 4 rfl rfl (by omega) (by omega) (by omega) q (head_seq q N q0 q1).symm)
  have KR := Lib.hid (fun W v (h : BSl W v (fillS (headL q N))) => tReadN_of h hfl h37 (head_count q N h37) (fun i hi => head_number q N i hi (hx i hi)) hx true hN)
  have KH := Lib.hid (fun W u (h : IR W 0 u N) => tHead_of h.sl h37 hx q0 q1)
  have HU0 := Lib.hid hb0
  generalize sealS (headL q N) = HS at KO KH HU0
  generalize fillS (headL q N) = HC at KO K4 KR
  obtain ⟨m, hm⟩ : ∃ m, m = L.length := ⟨_, rfl⟩
  rw [← hm] at h0 ⊢
  have hm0 : ¬ (m : Int) = 0 := by omega
  have hm1 : ((m : Int) == 0) = false := by simpa using hm0
  have hm2 : (0 : Int) < (m : Int) := by omega
  have hwq : IntKind.u32.wrap q = q := IntWalk.u32_in _ (by omega)
  clear hs hc hh hcc hb0 h256 hfl hl252 hx hN h37 q0 q1 hm
  go_enter Try.func24, Try.ntmps24
  go_wp2_with (first
    | (go_at_call 31; (with_reducible refine KO.out.mono ?_); rintro e w2 ⟨v2, rfl, hob2, hb2⟩
       have HV2 := Lib.hid hob2.bsl
       have HB2 := Lib.hid hb2)
    | (go_at_call 32; (with_reducible refine (K4.out _ _ HV2.out).mono ?_); rintro e w3 ⟨rfl, rfl⟩)
    | (go_at_call 33; (with_reducible refine (KR.out _ _ HV2.out).mono ?_); rintro e w4 ⟨v4, rfl, hv4, hb4⟩))
  have HB4 : Hid (Below w.heap.size w w4.drew) := Lib.hid (below_drewN' (HB2.out.trans (hb4.mono HB2.out.size)) 1)
  have HV4 : Hid (IR w4.drew 0 v4 N) := Lib.hid hv4
  have e0 : w4.drew.cell? ⟨b, off, none⟩ = some (.slice uo 256 uc) := (HB4.out.cell (p := ⟨b, off, none⟩) hb).trans hu0
  have hz4 : b < w4.drew.heap.size := Nat.lt_of_lt_of_le hb HB4.out.size
  have HU4 := Lib.hid (HU0.out.below HB4.out)
  clear hob2 hb2 hv4 hb4 hu0 HU0
  go_region_held3 (fun W => W.cell? ⟨b, off, none⟩ = some (.slice uo 256 uc)) (first | exact f0 | exact e0) (first
    | (go_at_call 16; (with_reducible refine (KH.out _ _ HV4.out).mono ?_); rintro e w5 ⟨v5, rfl, hob5, hb5⟩
       have f0 := (hb5.cell (p := ⟨b, off, none⟩) hz4).trans e0
       have K6 := Lib.hid (bEqual_of hob5.bsl (HU4.out.below hb5))
       rw [decide_eq_true (rfl : HS = HS)] at K6
       have HB5 := Lib.hid (HB4.out.trans (hb5.mono HB4.out.size))
       have HV5 := Lib.hid (HV4.out.below hb5))
    | (go_at_call 25; (with_reducible refine K6.out.mono ?_); rintro e w6 ⟨rfl, rfl⟩))
  go_wp2
  go_ret3
  exact ⟨_, rfl, HV5.out, HB5.out⟩
theorem tSeq_of {w : World} {v : Value} {q : Int} {N : List Int} {L : List (List Int)} (hs : BBSl w v L) (h0 : 0 < L.length) (hh : L.getD 0 [] = sealS (headL q N)) (hN : frmNs N = true) (q0 : 0 ≤ q) (q1 : q < 4294967296) :
    Calls Try.prog 14 #[v] w fun e w' => e = .returned (.tuple #[.int .u32 q, .bool true]) ∧ Below w.heap.size w w' := by
  have K := Lib.hid (tReadH_of hs h0 hh hN q0 q1)
  clear hs h0 hh hN q0 q1
  go_enter Try.func14, Try.ntmps14
  go_wp2_with (go_at_call 24; (with_reducible refine K.out.mono ?_); rintro e w2 ⟨v2, rfl, hv2, hb2⟩)
  go_ret2
  exact ⟨rfl, hb2⟩
end Go.Proofs.Ytmjndpmpeidhaaa
