/- LogCrashes: the walk of the law itself, to its end. -/
import Derived.Deep.Cut
import Derived.Deep.Slices
import Derived.Deep.Fields
import Derived.ProofKit
import Derived.OpenShut
import Derived.SizedLaws
import Derived.Test.YtpjmnmkdegkfcaaC14
import Derived.Test.YtpjmnmkdegkfcaaC3
import Derived.Test.YtpjmnmkdegkfcaaC4
import Derived.Test.YtpjmnmkdegkfcaaC5
namespace Go.Proofs.Ytpjmnmkdegkfcaa
set_option maxRecDepth 100000
open Go.RowKit
set_option linter.unusedVariables false

/-- Two boxes, the first cell of each set. -/
theorem two_stores {W : World} {d f : Nat} {x0 x1 x2 y0 y1 y2 a b : Value} {T : TypeId} (hdf : d < f) (h1 : W.heap[d]? = some (.cells #[x0, x1, x2] T (0, 0))) (h2 : W.heap[f]? = some (.cells #[y0, y1, y2] T (0, 0))) :
    ((W.setCell ⟨d, 0, none⟩ a).setCell ⟨f, 0, none⟩ b).heap[d]? = some (.cells #[a, x1, x2] T (0, 0)) ∧ ((W.setCell ⟨d, 0, none⟩ a).setCell ⟨f, 0, none⟩ b).heap[f]? = some (.cells #[b, y1, y2] T (0, 0)) ∧ Below d W ((W.setCell ⟨d, 0, none⟩ a).setCell ⟨f, 0, none⟩ b) ∧
      (W.setCell ⟨d, 0, none⟩ a).cell? ⟨f, 0, none⟩ = some y0 ∧ (W.setCell ⟨d, 0, none⟩ a).frozen? ⟨f, 0, none⟩ = false := by
  have k1 := Wrote.setCell W d 0 a
  have r1 : (W.setCell ⟨d, 0, none⟩ a).heap[d]? = some (.cells #[a, x1, x2] T (0, 0)) := heap_setCell_same W d 0 _ _ _ h1
  have r2 : (W.setCell ⟨d, 0, none⟩ a).heap[f]? = some (.cells #[y0, y1, y2] T (0, 0)) := (k1.2.2.2.2 f (by omega)).trans h2
  have k2 := Wrote.setCell (W.setCell ⟨d, 0, none⟩ a) f 0 b
  have r3 : ((W.setCell ⟨d, 0, none⟩ a).setCell ⟨f, 0, none⟩ b).heap[f]? = some (.cells #[b, y1, y2] T (0, 0)) := heap_setCell_same _ f 0 _ _ _ r2
  exact ⟨(k2.2.2.2.2 d (by omega)).trans r1, r3, (k1.below (Nat.le_refl _)).trans (k2.below (by omega)), by rw [cell_of_row _ _ _ _ _ _ r2]; rfl, frozen_of_row _ _ _ _ _ r2⟩
/-- sameOpen's answer. -/
noncomputable def openB (L M : List (List Int)) : Bool := @decide (openS L M L.length) (Classical.propDecidable _)
theorem openB_iff (L M : List (List Int)) : openB L M = true ↔ openS L M L.length := by
  unfold openB
  exact @decide_eq_true_iff _ (Classical.propDecidable _)
set_option maxHeartbeats 8000000 in
theorem lLogC_yes {w : World} {tv1 tv2 kv : Value} {q1 q2 : Int} {a b : Nat} {N1 N2 : List Int} {D1 D2 : List (List Int)} {K : List Bool} (ht1 : TxV w tv1 q1 N1 D1) (ht2 : TxV w tv2 q2 N2 D2) (hk : KSl w kv K) (hr1 : ∀ j, (D1.getD j []).length ≤ 140737488355328) (hr2 : ∀ j, (D2.getD j []).length ≤ 140737488355328) (ha : a ≤ 255) (hb : b ≤ 255) (hB1 : FewS N1 D1 = true) (hB2 : FewS N2 D2 = true) (h200 : ¬ 200 < K.length) (hF1 : frmT N1 D1 = true) (hF2 : frmT N2 D2 = true) (hH1 : hasN 100 N1 = true) (hH2 : hasN 100 N2 = true) (hJ1 : inJS N1 = false) (hJ2 : inJS N2 = false) :
    Calls Try.prog 4 #[tv1, tv2, .int .u8 b, kv, .int .u8 a] w fun e w' => e = .returned (.bool true) ∧ Below w.heap.size w w' := by
  have ht1' := ht1
  have ht2' := ht2
  obtain ⟨no1, nc1, ao1, dc1, rfl, hN1, hD1⟩ := ht1
  obtain ⟨no2, nc2, ao2, dc2, rfl, hN2, hD2⟩ := ht2
  have l1 : N1.length ≤ 60 := by
    unfold FewS at hB1
    rw [Bool.and_eq_true, decide_eq_true_eq] at hB1
    exact hB1.2
  have l2 : N2.length ≤ 60 := by
    unfold FewS at hB2
    rw [Bool.and_eq_true, decide_eq_true_eq] at hB2
    exact hB2.2
  have KF1 := Lib.hid (fun W (hb : Below w.heap.size w W) => Few9_is (ht1'.below hb) hr1 true hB1)
  have KF2 := Lib.hid (fun W (hb : Below w.heap.size w W) => Few9_is (ht2'.below hb) hr2 true hB2)
  have KT1 := Lib.hid (fun W (hb : Below w.heap.size w W) => show Calls Try.prog 10 #[.agg #[.int .u32 q1, .slice no1 N1.length nc1, .slice ao1 D1.length dc1], .int .i64 100] W fun e w' => e = .returned (.bool true) ∧ Below W.heap.size W w' from fits10_is (ht1'.below hb) (by omega) 100 true (by rw [hH1, hF1]; rfl))
  have KT2 := Lib.hid (fun W (hb : Below w.heap.size w W) => show Calls Try.prog 10 #[.agg #[.int .u32 q2, .slice no2 N2.length nc2, .slice ao2 D2.length dc2], .int .i64 100] W fun e w' => e = .returned (.bool true) ∧ Below W.heap.size W w' from fits10_is (ht2'.below hb) (by omega) 100 true (by rw [hH2, hF2]; rfl))
  have KJ1 := Lib.hid (fun W (hb : Below w.heap.size w W) => inJ10_is (ht1'.below hb) (by omega) false hJ1)
  have KJ2 := Lib.hid (fun W (hb : Below w.heap.size w W) => inJ10_is (ht2'.below hb) (by omega) false hJ2)
  have far1 : farT 100 N1 := far_of hF1 hH1 hJ1 (Nat.le_refl _)
  have far2 : farT 100 N2 := far_of hF2 hH2 hJ2 (Nat.le_refl _)
  have hzl : (List.replicate 100 zb).length = 100 := List.length_replicate
  have tk1 : takesT 100 N1 D1 = true := by unfold takesT; rw [hF1, hH1]; rfl
  have tk2 : takesT 100 N2 D2 = true := by unfold takesT; rw [hF2, hH2]; rfl
  have hl0 : (DS.new 100).F.length = 100 := List.length_replicate
  have HFI := cr_first hF1 far1
  obtain ⟨s1, hs1⟩ : ∃ s1, s1 = (runA (layA 1 (layWs 1 N1 D1)) (DS.new 100)).2 := ⟨_, rfl⟩
  obtain ⟨s2, hs2⟩ : ∃ s2, s2 = (runA (homeA N1 D1) s1).2 := ⟨_, rfl⟩
  simp only [← hs1, ← hs2] at HFI
  obtain ⟨g0, g1, g2, g3, g4, g5, g6, g7, g8⟩ := HFI
  obtain ⟨sF, hsF⟩ : ∃ sF, sF = s2.fuse (b : Int) := ⟨_, rfl⟩
  have HSE := cr_second hF1 far1 hF2 far2 sF (by rw [hsF]; exact g6) (by rw [hsF]; exact g7) (by rw [hsF]; exact g8) K
  obtain ⟨er, her⟩ : ∃ er, er = (runA (layA 2 (layWs 2 N2 D2)) sF).1 := ⟨_, rfl⟩
  obtain ⟨sr, hsr⟩ : ∃ sr, sr = (runA (layA 2 (layWs 2 N2 D2)) sF).2 := ⟨_, rfl⟩
  have her2 : er = 0 ∨ er = 2 := by rw [her]; exact runA_two _ _
  have hsFl : sF.F.length = 100 := by rw [hsF]; exact g4
  have hsFU : sF.U.length ≤ 37 := by rw [hsF]; exact g5
  have hsrl := runA_len (layA 2 (layWs 2 N2 D2)) sF
  rw [← hsr, hsFl] at hsrl
  have l37 := (frmT_of hF2).1
  have l37' := (frmT_of hF2).2.1
  have hsrU : sr.U.length ≤ 200 := by
    have := hsrl.2
    simp [layA, layWs] at this
    omega
  obtain ⟨sh, hsh⟩ : ∃ sh, sh = (runA (homeA N2 D2) sr).2 := ⟨_, rfl⟩
  have hshU : sh.U.length ≤ 300 := by
    have := (runA_len (homeA N2 D2) sr).2
    rw [← hsh, homeA_length] at this
    omega
  simp only [← her, ← hsr, ← hsh] at HSE
  have KN : Hid (∀ W, Calls Try.prog 8 #[.int .i64 100] W fun e w' => ∃ p P, e = .returned p ∧ Dk w' P p (DS.new 100) ∧ (∀ k, P k → W.heap.size ≤ k) ∧ Below W.heap.size W w') := Lib.hid (fun W => kNew W 100 (by omega))
  have KW1 := Lib.hid (fun W P p v (h : Dk W P p (DS.new 100)) (hv : TxV W v 1 N1 D1) => gWrite_yes h hv (by omega) (by omega) (by rw [hl0]; exact tk1) (by show 0 ≤ 900000; omega))
  unfold RunQ at KW1
  rw [← hs1, g0] at KW1
  have KH1 := Lib.hid (fun W P p v (h : Dk W P p s1) (hv : TxVa W P v 1 N1 D1) => gHome_yes h hv (by rw [g1]; exact tk1) (by rw [g2]; show 0 ≤ 900000; omega))
  unfold RunQ at KH1
  rw [← hs2, g3] at KH1
  have KSF := Lib.hid (fun W P p (h : Dk W P p s2) => kSetFuse h (b : Int) (by omega))
  rw [← hsF] at KSF
  have KW2 := Lib.hid (fun W P p v (h : Dk W P p sF) (hv : TxV W v 2 N2 D2) => gWrite_yes h hv (by omega) (by omega) (by rw [hsFl]; exact tk2) (by omega))
  unfold RunQ at KW2
  rw [← her, ← hsr] at KW2
  have KH2 := Lib.hid (fun W P p v (h : Dk W P p sr) (hv : TxVa W P v 2 N2 D2) => gHome_yes h hv (by rw [hsrl.1]; exact tk2) (by omega))
  unfold RunQ at KH2
  rw [← hsh] at KH2
  have KC1 := Lib.hid (fun W P p kv (h : Dk W P p sr) (hk : KSl W kv K) (ha : Apt P kv) => kCrash h (by omega) hk ha)
  have KC2 := Lib.hid (fun W P p kv (h : Dk W P p sh) (hk : KSl W kv K) (ha : Apt P kv) => kCrash h (by omega) hk ha)
  have KC3 := Lib.hid (fun W P p kv s (h : Dk W P p s) (hU : s.U.length ≤ 1000) (hk : KSl W kv K) (ha : Apt P kv) => kCrash h (by omega) hk ha)
  have KRC := Lib.hid (fun W P p s (h : Dk W P p s) (hs : CrS 1 2 N1 D1 N2 D2 (List.replicate 100 zb) er s) => recover_cr h hs hzl hF1 hH1 (by rw [hzl]; exact far1) hF2 hH2 (by rw [hzl]; exact far2))
  have KND := Lib.hid rNewDisk_of
  have hGl : (appU (homeW N1 D1) (List.replicate 100 zb)).length = 100 := by rw [appU_length, hzl]
  have KWA := Lib.hid (fun W bv v q (hb : BBSl W bv (List.replicate 100 zb)) (hv : TxV W v q N1 D1) => want10_of hb hv hF1 (by rw [hzl]; exact hH1) (by omega))
  have KWB := Lib.hid (fun W bv v q (hb : BBSl W bv (appU (homeW N1 D1) (List.replicate 100 zb))) (hv : TxV W v q N2 D2) => want10_of hb hv hF2 (by rw [hGl]; exact hH2) (by omega))
  have hHl : (appU (homeW N2 D2) (appU (homeW N1 D1) (List.replicate 100 zb))).length = 100 := by rw [appU_length, hGl]
  have HTV1 := Lib.hid (fun W (hb : Below w.heap.size w W) => TxV.mk (w := W) (q := 1) (hN1.below hb) (hD1.below hb))
  have HTV2 := Lib.hid (fun W (hb : Below w.heap.size w W) => TxV.mk (w := W) (q := 2) (hN2.below hb) (hD2.below hb))
  have HKS := Lib.hid (fun W (hb : Below w.heap.size w W) => hk.below hb)
  have HC0 := Lib.hid (fun h : er = 2 => HSE.1 h)
  have HC2 := Lib.hid (fun h : er = 0 => HSE.2 h)
  generalize hZZ : List.replicate 100 zb = Z at KRC KND KWA KWB hGl hHl HC0 HC2 hzl
  generalize hGG : appU (homeW N1 D1) Z = G at KWB hGl hHl
  obtain ⟨H, hHH⟩ : ∃ H, H = appU (homeW N2 D2) G := ⟨_, rfl⟩
  rw [← hHH] at KWB hHl
  have HCE := Lib.hid (fun V (hV : CrE N1 D1 N2 D2 Z er V) => show (∀ i, OutJ i → i < 100 → V.getD i [] = H.getD i []) ∨ (er = 2 ∧ ∀ i, OutJ i → i < 100 → V.getD i [] = G.getD i []) from by
    unfold CrE at hV
    rw [hGG, ← hHH, hzl] at hV
    exact hV)
  rw [hGG] at KWA
  have HGL := Lib.hid hGl
  have HHL := Lib.hid hHl
  have hab : (a : Int) % 6 = ((a % 6 : Nat) : Int) := by omega
  have hm6 : a % 6 ≤ 5 := by omega
  obtain ⟨mm, hmm⟩ : ∃ mm, mm = a % 6 := ⟨_, rfl⟩
  rw [← hmm] at hab hm6
  have HAB := Lib.hid hab
  clear hab
  obtain ⟨ko, kc, rfl⟩ := hk.shape
  obtain ⟨kl, hkl⟩ : ∃ kl, kl = K.length := ⟨_, rfl⟩
  obtain ⟨n1, hn1⟩ : ∃ n, n = N1.length := ⟨_, rfl⟩
  obtain ⟨m1, hm1⟩ : ∃ m, m = D1.length := ⟨_, rfl⟩
  obtain ⟨n2, hn2⟩ : ∃ n, n = N2.length := ⟨_, rfl⟩
  obtain ⟨m2, hm2⟩ : ∃ m, m = D2.length := ⟨_, rfl⟩
  rw [← hn1, ← hm1] at KF1 KT1 KJ1 HTV1 ⊢
  rw [← hn2, ← hm2] at KF2 KT2 KJ2 HTV2 ⊢
  rw [← hkl] at h200 HKS ⊢
  have i200 : ¬ (200 : Int) < (kl : Int) := by omega
  have hbx := below_box w (.cells #[.int .u32 q1, .slice no1 n1 nc1, .slice ao1 m1 dc1] 26)
  have hnx := heap_alloc_new w (.cells #[.int .u32 q1, .slice no1 n1 nc1, .slice ao1 m1 dc1] 26)
  have hsx : (w.alloc (.cells #[.int .u32 q1, .slice no1 n1 nc1, .slice ao1 m1 dc1] 26)).heap.size = w.heap.size + 1 := by simp
  have hby := below_box (w.alloc (.cells #[.int .u32 q1, .slice no1 n1 nc1, .slice ao1 m1 dc1] 26)) (.cells #[.int .u32 q2, .slice no2 n2 nc2, .slice ao2 m2 dc2] 26)
  have hny := heap_alloc_new (w.alloc (.cells #[.int .u32 q1, .slice no1 n1 nc1, .slice ao1 m1 dc1] 26)) (.cells #[.int .u32 q2, .slice no2 n2 nc2, .slice ao2 m2 dc2] 26)
  clear hN1 hD1 hN2 hD2 hn1 hm1 hn2 hm2 ht1' ht2' hr1 hr2 hkl hB1 hB2 hF1 hF2 hH1 hH2 hJ1 hJ2 l1 l2 h200 hk far1 far2 hzl tk1 tk2 hl0 hs1 hs2 g0 g1 g2 g3 g4 g5 g6 g7 g8 hsF HSE her hsr hsFl hsFU hsrl l37 l37' hsrU hsh hshU hGl hHl hZZ hGG hHH hmm
  go_enter Try.func4, Try.ntmps4
  go_upto_region 1 with (fail)
  rw [hsx] at hny hby
  have hno := (hby.block w.heap.size (by omega)).trans hnx
  have hb2 := hbx.trans (hby.mono (Nat.le_succ _))
  generalize (w.alloc (.cells #[.int .u32 q1, .slice no1 n1 nc1, .slice ao1 m1 dc1] 26)).alloc (.cells #[.int .u32 q2, .slice no2 n2 nc2, .slice ao2 m2 dc2] 26) = u at hno hny hb2 ⊢
  obtain ⟨d, hd⟩ : ∃ d, d = w.heap.size := ⟨_, rfl⟩
  rw [← hd] at hno hny ⊢
  obtain ⟨f, hf⟩ : ∃ f, f = d + 1 := ⟨_, rfl⟩
  rw [← hf] at hny ⊢
  have HDF : Hid (d = w.heap.size ∧ f = d + 1) := Lib.hid ⟨hd, hf⟩
  have R2 := Lib.hid (fun W (h : Below u.heap.size u W) => And.intro ((h.block d (Array.getElem?_eq_some_iff.1 hno).1).trans hno) ((h.block f (Array.getElem?_eq_some_iff.1 hny).1).trans hny))
  have C6 := Lib.hid (fun W (h : Below u.heap.size u W) => six_cells (R2.out W h).1 (R2.out W h).2)
  have HBT := Lib.hid (fun W (h : Below u.heap.size u W) => hb2.trans (h.mono hb2.size))
  clear hbx hnx hsx hby hny hno hb2 hd hf
  go_upto_region 5 with (first
    | (go_at_call 6; (with_reducible refine (awake10_any u).mono ?_); rintro e w1 ⟨rfl, hb1⟩
       have HU1 := Lib.hid hb1
       obtain ⟨xa0, xa1, xa2, xa3, xa4, xa5⟩ := C6.out _ HU1.out
       clear hb1)
    | (go_at_call 7; (with_reducible refine (KF1.out w1 (HBT.out _ HU1.out)).mono ?_); rintro e w2 ⟨rfl, hb2⟩
       have HU2 := Lib.hid (HU1.out.trans (hb2.mono HU1.out.size))
       clear xa0 xa1 xa2 xa3 xa4 xa5
       obtain ⟨xb0, xb1, xb2, xb3, xb4, xb5⟩ := C6.out _ HU2.out
       clear hb2)
    | (go_at_call 7; (with_reducible refine (KF2.out w2 (HBT.out _ HU2.out)).mono ?_); rintro e w3 ⟨rfl, hb3⟩
       have HU3 := Lib.hid (HU2.out.trans (hb3.mono HU2.out.size))
       clear xb0 xb1 xb2 xb3 xb4 xb5
       obtain ⟨xc0, xc1, xc2, xc3, xc4, xc5⟩ := C6.out _ HU3.out
       clear hb3)
    | (go_at_call 10; (with_reducible refine (KT1.out w3 (HBT.out _ HU3.out)).mono ?_); rintro e w4 ⟨rfl, hb4⟩
       have HU4 := Lib.hid (HU3.out.trans (hb4.mono HU3.out.size))
       clear xc0 xc1 xc2 xc3 xc4 xc5
       obtain ⟨xd0, xd1, xd2, xd3, xd4, xd5⟩ := C6.out _ HU4.out
       clear hb4)
    | (go_at_call 10; (with_reducible refine (KT2.out w4 (HBT.out _ HU4.out)).mono ?_); rintro e w5 ⟨rfl, hb5⟩
       have HU5 := Lib.hid (HU4.out.trans (hb5.mono HU4.out.size))
       clear xd0 xd1 xd2 xd3 xd4 xd5
       obtain ⟨xe0, xe1, xe2, xe3, xe4, xe5⟩ := C6.out _ HU5.out
       clear hb5)
    | (go_at_call 20; (with_reducible refine (KJ1.out w5 (HBT.out _ HU5.out)).mono ?_); rintro e w6 ⟨rfl, hb6⟩
       have HU6 := Lib.hid (HU5.out.trans (hb6.mono HU5.out.size))
       clear xe0 xe1 xe2 xe3 xe4 xe5
       obtain ⟨xf0, xf1, xf2, xf3, xf4, xf5⟩ := C6.out _ HU6.out
       clear hb6)
    | (go_at_call 20; (with_reducible refine (KJ2.out w6 (HBT.out _ HU6.out)).mono ?_); rintro e w7 ⟨rfl, hb7⟩
       have HU7 := Lib.hid (HU6.out.trans (hb7.mono HU6.out.size))
       clear xf0 xf1 xf2 xf3 xf4 xf5
       clear hb7))
  obtain ⟨rd, rf⟩ := R2.out _ HU7.out
  have hdf : d < f := by have := HDF.out; omega
  have z0 := (six_cells rd rf).1
  have zf := frozen_of_row w7 d 0 _ _ rd
  obtain ⟨td, tf, tb, tc, tz⟩ := two_stores (a := .int .u32 1) (b := .int .u32 2) hdf rd rf
  have HTB := Lib.hid tb
  have HTD := Lib.hid td
  have HTF := Lib.hid tf
  clear rd rf td tf tb
  go_upto_region 6 with (fail)
  have HB8 := Lib.hid ((HBT.out _ HU7.out).trans (HTB.out.mono (Nat.le_of_eq HDF.out.1.symm)))
  clear z0 zf tc tz hdf KF1 KF2 KT1 KT2 KJ1 KJ2 C6 R2 HU1 HU2 HU3 HU4 HU5 HU6 HU7 HTB i200
  generalize (w7.setCell ⟨d, 0, none⟩ (.int .u32 1)).setCell ⟨f, 0, none⟩ (.int .u32 2) = w8 at HTD HTF HB8 ⊢
  rcases her2 with rfl | rfl
  · have HCS := Lib.hid (HC2.out rfl).2
    go_wp2_with (first
      | (go_at_call 8; (with_reducible refine (KN.out w8).mono ?_); rintro e w9 ⟨p, P, rfl, hd9, hp9, hb9⟩
         obtain ⟨bp, rfl⟩ := hd9.ptr
         have HD9 := Lib.hid hd9
         have HB9 := Lib.hid (HB8.out.trans (hb9.mono HB8.out.size))
         have ldd := (Array.getElem?_eq_some_iff.1 HTD.out).1
         have ldf := (Array.getElem?_eq_some_iff.1 HTF.out).1
         have nPd : ¬ P d := fun hp => by have := hp9 d hp; omega
         have nPf : ¬ P f := fun hp => by have := hp9 f hp; omega
         have td9 := (hb9.block d ldd).trans HTD.out
         have tf9 := (hb9.block f ldf).trans HTF.out
         have ld9 := (Array.getElem?_eq_some_iff.1 td9).1
         have lf9 := (Array.getElem?_eq_some_iff.1 tf9).1
         have C9 := Lib.hid (fun W P' (hc : Chg P P' w9 W) => six_cells (((hc.keep d ld9 nPd).1).trans td9) (((hc.keep f lf9 nPf).1).trans tf9))
         have HX1 := Lib.hid (fun W P' (hc : Chg P P' w9 W) => (((HTV1.out w8 HB8.out).apart_low (Nat.le_refl _) hp9).chg (Chg.of_below hb9)).chg hc)
         have HX2 := Lib.hid (fun W P' (hc : Chg P P' w9 W) => (((HTV2.out w8 HB8.out).apart_low (Nat.le_refl _) hp9).chg (Chg.of_below hb9)).chg hc)
         have hks9 := (HKS.out w8 HB8.out).chg ((HKS.out w8 HB8.out).apt_low (Nat.le_refl _) hp9) (Chg.of_below hb9)
         have HKX := Lib.hid (fun W P' (hc : Chg P P' w9 W) => hks9.1.chg hks9.2 hc)
         have HBF := Lib.hid (fun W P' (hc : Chg P P' w9 W) => HB9.out.trans (hc.below fun k hk => ⟨Nat.lt_of_lt_of_le hk HB9.out.size, fun hp => by
           have h1 := hp9 k hp
           have h2 := HB8.out.size
           omega⟩))
         have HC9 := Lib.hid (Chg.refl P w9)
         have HLD := Lib.hid ld9
         obtain ⟨xa0, xa1, xa2, xa3, xa4, xa5⟩ := C9.out _ _ HC9.out
         clear hd9 hp9 hb9 ldd ldf nPd nPf td9 tf9 ld9 lf9 hks9)
      | (go_at_call 11; (with_reducible refine (KW1.out w9 _ _ _ HD9.out (HX1.out _ _ HC9.out).v).mono ?_); rintro e w10 ⟨rfl, P10, hd10, hc10⟩
         have HD10 := Lib.hid hd10
         have HC10 := Lib.hid hc10
         clear xa0 xa1 xa2 xa3 xa4 xa5
         obtain ⟨xb0, xb1, xb2, xb3, xb4, xb5⟩ := C9.out _ _ HC10.out
         clear hd10 hc10)
      | (go_at_call 12; (with_reducible refine (KH1.out w10 _ _ _ HD10.out (HX1.out _ _ HC10.out)).mono ?_); rintro e w11 ⟨rfl, P11, hd11, hc11⟩
         have HD11 := Lib.hid hd11
         have HC11 := Lib.hid (HC10.out.trans hc11)
         clear xb0 xb1 xb2 xb3 xb4 xb5 hd11 hc11)
      | (go_at_call 21; (with_reducible refine (KSF.out w11 _ _ HD11.out).mono ?_); rintro e w12 ⟨rfl, hd12, hc12⟩
         have HD12 := Lib.hid hd12
         have HC12 := Lib.hid (HC11.out.trans hc12)
         obtain ⟨xc0, xc1, xc2, xc3, xc4, xc5⟩ := C9.out _ _ HC12.out
         clear hd12 hc12)
      | (go_at_call 11; (with_reducible refine (KW2.out w12 _ _ _ HD12.out (HX2.out _ _ HC12.out).v).mono ?_); rintro e w13 ⟨rfl, P13, hd13, hc13⟩
         have HD13 := Lib.hid hd13
         have HC13 := Lib.hid (HC12.out.trans hc13)
         clear xc0 xc1 xc2 xc3 xc4 xc5
         obtain ⟨xd0, xd1, xd2, xd3, xd4, xd5⟩ := C9.out _ _ HC13.out
         clear hd13 hc13)
      | (go_at_call 12; (with_reducible refine (KH2.out w13 _ _ _ HD13.out (HX2.out _ _ HC13.out)).mono ?_); rintro e w14 ⟨rfl, P14, hd14, hc14⟩
         have HD14 := Lib.hid hd14
         have HC14 := Lib.hid (HC13.out.trans hc14)
         clear hd14 hc14)
      | (go_at_call 22; (with_reducible refine (KC2.out w14 _ _ _ HD14.out (HKX.out _ _ HC14.out).1 (HKX.out _ _ HC14.out).2).mono ?_); rintro e w15 ⟨rfl, P15, hd15, hc15⟩
         have HLS : Hid (∃ s P', Dk w15 P' (.pointer (some ⟨bp, 0, none⟩)) s ∧ Chg P P' w9 w15 ∧ CrS 1 2 N1 D1 N2 D2 Z 0 s ∧ s.fu = false) := Lib.hid ⟨_, P15, hd15, HC14.out.trans hc15, HCS.out, rfl⟩
         clear xd0 xd1 xd2 xd3 xd4 xd5 hd15 hc15))
    clear KN KW1 KH1 KSF KW2 KH2 KC1 KC2
    go_loopw [84] (fun i wr => ∃ j : Nat, j ≤ mm ∧ i = .int .i64 j ∧ Hid (∃ s P', Dk wr P' (.pointer (some ⟨bp, 0, none⟩)) s ∧ Chg P P' w9 wr ∧ CrS 1 2 N1 D1 N2 D2 Z 0 s ∧ s.fu = false)) (fun i _ => mm - (intOf i).toNat)
    case atStart => exact ⟨0, by omega, rfl, HLS⟩
    case round =>
      obtain ⟨j, hj, rfl, HS⟩ := hrel
      clear HLS
      obtain ⟨s, Pj, hdk, hck, hcs, hfu⟩ := HS.out
      have HCK := Lib.hid hck
      have HDK := Lib.hid hdk
      have HCRS := Lib.hid hcs
      have HFU := Lib.hid hfu
      clear hck hdk hcs hfu
      by_cases hlt : j < mm
      · have KS1 := Lib.hid (kSetFuse HDK.out (j : Int) (by omega))
        have ej : (j : Int) < (a : Int) % 6 := by rw [HAB.out]; omega
        go_wp2_with (first
          | (go_at_call 21; (with_reducible refine KS1.out.mono ?_); rintro e w16 ⟨rfl, hd16, hc16⟩
             have HD16 := Lib.hid hd16
             have HC16 := Lib.hid (HCK.out.trans hc16)
             clear hd16 hc16)
          | (go_at_call 23; (with_reducible refine (KRC.out w16 _ _ _ HD16.out (HCRS.out.fuse _)).mono ?_); rintro e w17 ⟨x, r, s', P17, rfl, hd17, hc17, hU17, hcr, _⟩
             have HD17 := Lib.hid hd17
             have HC17 := Lib.hid (HC16.out.trans hc17)
             have HU17 := Lib.hid hU17
             have HCR := Lib.hid (hcr K)
             clear hd17 hc17 hU17 hcr)
          | (go_at_call 22; (with_reducible refine (KC3.out w17 _ _ _ _ HD17.out HU17.out (HKX.out _ _ HC17.out).1 (HKX.out _ _ HC17.out).2).mono ?_); rintro e w18 ⟨rfl, P18, hd18, hc18⟩))
        go_roundw
        case rel => exact ⟨j + 1, by omega, by go_num, Lib.hid ⟨_, P18, hd18, HC17.out.trans hc18, HCR.out, rfl⟩⟩
        case measure => simp [intOf]; omega
      · obtain rfl : j = mm := by omega
        have ej : ¬ (j : Int) < (a : Int) % 6 := by rw [HAB.out]; omega
        go_upto_region 22 with (go_at_call 23; (with_reducible refine (KRC.out wr _ _ _ HDK.out HCRS.out).mono ?_); rintro e w17 ⟨x, r, s', P17, rfl, hd17, hc17, _, _, hfin⟩
                                obtain ⟨rfl, hdn, hFl, hE⟩ := hfin HFU.out
                                have HD17 := Lib.hid hd17
                                have HC17 := Lib.hid (HCK.out.trans hc17)
                                have HDN := Lib.hid hdn
                                have HFL := Lib.hid hFl
                                have HE := Lib.hid (HCE.out _ hE)
                                clear hd17 hc17 hfin hdn hFl hE)
        have HC17d : Hid (Chg P P17 w9 w17.drew) := Lib.hid (HC17.out.trans (Chg.of_below (Below.refl w17.heap.size w17).drew))
        obtain ⟨e0, e1, e2, _, _, _⟩ := C9.out _ _ HC17d.out
        have hz17 := Nat.lt_of_lt_of_le HLD.out HC17d.out.size
        have HX17 := Lib.hid (HX1.out _ _ HC17d.out).v
        refine wp_region_held_drew (S := fun W => W.cell? ⟨d, 0, none⟩ = some (.int .u32 1) ∧ W.cell? ⟨d, 1, none⟩ = some (.slice no1 n1 nc1) ∧ W.cell? ⟨d, 2, none⟩ = some (.slice ao1 m1 dc1)) (by kernel_rfl) ⟨e0, e1, e2⟩ (fun hHeld => ?_)
        refine wpAnyH_take (i := 4) (v := .agg #[.int .u32 1, .slice no1 n1 nc1, .slice ao1 m1 dc1]) rfl (by kernel_rfl) (by kernel_rfl) (by kernel_rfl) (fun _ _ _ h => h) (Or.inl ⟨by rfl, ?_⟩) (by assumption) ?_
        · intro W hSw
          obtain ⟨k0, k1, k2⟩ := hSw
          go_simp
        (try simp only [Act.put, List.setIfInBounds_toArray, List.set_cons_zero, List.set_cons_succ, List.getElem_toArray, List.getElem_cons_zero, List.getElem_cons_succ])
        refine wpAnyH_ready (rs := [0]) (by kernel_rfl) (by simp) (AllReadyH.cons rfl (fun K hK => ?_) AllReadyH.nil)
        go_simp
        go_at_call 24
        refine (KND.out w17.drew).mono ?_
        rintro e w18 ⟨g, v, cs, rfl, hg, hcv, hv, hb18⟩
        have c0 := (hb18.cell (p := ⟨d, 0, none⟩) hz17).trans e0
        have c1 := (hb18.cell (p := ⟨d, 1, none⟩) hz17).trans e1
        have c2 := (hb18.cell (p := ⟨d, 2, none⟩) hz17).trans e2
        have cg : w18.cell? ⟨g, 0, none⟩ = some v := by rw [cell_of_row _ _ _ _ _ _ hg]; exact hcv
        have hz18 := Nat.lt_of_lt_of_le hz17 hb18.size
        have KW18 := Lib.hid (KWA.out w18 v _ 1 hv (HX17.out.below hb18))
        obtain ⟨vo, vc, rfl, _⟩ := hv.shape
        have HB18 := Lib.hid hb18
        refine hK.out _ _ ⟨c0, c1, c2⟩ (fun hHeld => ?_)
        clear hK K hg hcv hv hb18 hHeld
        (try simp only [Act.put, List.setIfInBounds_toArray, List.set_cons_zero, List.set_cons_succ, List.getElem_toArray, List.getElem_cons_zero, List.getElem_cons_succ])
        refine wpAnyH_take (i := 1) (v := .pointer (some ⟨g, 0, none⟩)) rfl (by kernel_rfl) (by kernel_rfl) (by kernel_rfl) (fun _ _ _ h => h) (Or.inl ⟨by rfl, ?_⟩) ⟨c0, c1, c2⟩ ?_
        · intro W hSw
          first | go_simp | rfl
        (try simp only [Act.put, List.setIfInBounds_toArray, List.set_cons_zero, List.set_cons_succ, List.getElem_toArray, List.getElem_cons_zero, List.getElem_cons_succ])
        refine wpAnyH_take (i := 2) (v := .pointer (some ⟨g, 0, none⟩)) rfl (by kernel_rfl) (by kernel_rfl) (by kernel_rfl) (fun _ _ _ h => h) (Or.inl ⟨by rfl, ?_⟩) ⟨c0, c1, c2⟩ ?_
        · intro W hSw
          first | go_simp | rfl
        (try simp only [Act.put, List.setIfInBounds_toArray, List.set_cons_zero, List.set_cons_succ, List.getElem_toArray, List.getElem_cons_zero, List.getElem_cons_succ])
        refine wpAnyH_ready (rs := [3]) (by kernel_rfl) (by simp) (AllReadyH.cons rfl (fun K hK => ?_) AllReadyH.nil)
        go_simp
        refine hK.out _ _ ⟨c0, c1, c2⟩ (fun hHeld => ?_)
        clear hK K hHeld
        (try simp only [Act.put, List.setIfInBounds_toArray, List.set_cons_zero, List.set_cons_succ, List.getElem_toArray, List.getElem_cons_zero, List.getElem_cons_succ])
        refine wpAnyH_ready (rs := [5]) (by kernel_rfl) (by simp) (AllReadyH.cons rfl (fun K hK => ?_) AllReadyH.nil)
        go_simp
        go_at_call 19
        refine KW18.out.mono ?_
        rintro e w19 ⟨uo, rfl, huo, hb19⟩
        have f0 := (hb19.cell (p := ⟨d, 0, none⟩) hz18).trans c0
        have f1 := (hb19.cell (p := ⟨d, 1, none⟩) hz18).trans c1
        have f2 := (hb19.cell (p := ⟨d, 2, none⟩) hz18).trans c2
        have HB19 := Lib.hid (HB18.out.trans (hb19.mono HB18.out.size))
        have HUO := Lib.hid huo
        refine hK.out _ _ ⟨f0, f1, f2⟩ (fun hHeld => ?_)
        clear hK K hHeld huo hb19
        (try simp only [Act.put, List.setIfInBounds_toArray, List.set_cons_zero, List.set_cons_succ, List.getElem_toArray, List.getElem_cons_zero, List.getElem_cons_succ])
        refine wpAnyH_take (i := 6) (v := uo) rfl (by kernel_rfl) (by kernel_rfl) (by kernel_rfl) (fun _ _ _ h => h) (Or.inl ⟨by rfl, ?_⟩) ⟨f0, f1, f2⟩ ?_
        · intro W hSw
          first | go_simp | rfl
        (try simp only [Act.put, List.setIfInBounds_toArray, List.set_cons_zero, List.set_cons_succ, List.getElem_toArray, List.getElem_cons_zero, List.getElem_cons_succ])
        refine wpAnyH_done (by kernel_rfl) ?_ _
        have HC19 := Lib.hid (HC17d.out.trans (Chg.of_below HB19.out))
        have HD19 := Lib.hid ((HD17.out.below (Below.refl w17.heap.size w17).drew).below HB19.out)
        have hvl : s'.vis.length = 100 := by rw [DS.vis_length, HFL.out]
        have KB19 := Lib.hid (blocks10_of HD19.out HDN.out (by rw [HFL.out]; omega))
        clear f0 f1 f2 c0 c1 c2 cg e0 e1 e2
        go_upto_region 24 with (go_at_call 9; (with_reducible refine KB19.out.mono ?_); rintro e w20 ⟨bv, rfl, hbv, hb20⟩
                                have HBV := Lib.hid (hbv.bba (fun k hk => HD19.out.lt k hk)).sl
                                have HC20 := Lib.hid (HC19.out.trans (Chg.of_below hb20))
                                have HU20 := Lib.hid (HUO.out.below hb20)
                                obtain ⟨_, _, _, y3, y4, y5⟩ := C9.out _ _ HC20.out
                                have KW20 := Lib.hid (KWB.out w20 uo _ 2 HU20.out (HX2.out _ _ HC20.out).v)
                                clear hbv hb20)
        have hone : ∀ M : List (List Int), M.length = 100 → (∀ i, OutJ i → i < 100 → s'.vis.getD i [] = M.getD i []) → openB s'.vis M = true := fun M hM hE => (openB_iff _ _).2 fun i hi ho => hE i ho (by rw [hvl] at hi; exact hi)
        have KSO := Lib.hid (fun W u v M (hu : BBSl W u s'.vis) (hv : BBSl W v M) (hM : M.length = 100) => sameOpen10_is hu hv (by rw [hvl]; omega) (by rw [hM, hvl]) (openB s'.vis M) (openB_iff _ _))
        rcases HE.out with hE | ⟨hE2, hE⟩
        · have HO1 := hone H HHL.out hE
          have KS1 := Lib.hid (fun W u v hu hv => KSO.out W u v H hu hv HHL.out)
          rw [HO1] at KS1
          clear HO1 hone KSO hE
          go_wp2_with (first
            | (go_at_call 19; (with_reducible refine KW20.out.mono ?_); rintro e w21 ⟨wv, rfl, hwv, hb21⟩
               have HBV21 := Lib.hid (HBV.out.below hb21)
               have HWV := Lib.hid hwv
               have HC21 := Lib.hid (HC20.out.trans (Chg.of_below hb21))
               clear hwv hb21)
            | (go_at_call 25; (with_reducible refine (KS1.out _ _ _ HBV21.out HWV.out).mono ?_); rintro e w22 ⟨rfl, hb22⟩))
          go_ret
          exact ⟨rfl, HBF.out _ _ (HC21.out.trans (Chg.of_below hb22))⟩
        · exact absurd hE2 (by decide)
  · have HCS := Lib.hid (HC0.out rfl)
    go_wp2_with (first
      | (go_at_call 8; (with_reducible refine (KN.out w8).mono ?_); rintro e w9 ⟨p, P, rfl, hd9, hp9, hb9⟩
         obtain ⟨bp, rfl⟩ := hd9.ptr
         have HD9 := Lib.hid hd9
         have HB9 := Lib.hid (HB8.out.trans (hb9.mono HB8.out.size))
         have ldd := (Array.getElem?_eq_some_iff.1 HTD.out).1
         have ldf := (Array.getElem?_eq_some_iff.1 HTF.out).1
         have nPd : ¬ P d := fun hp => by have := hp9 d hp; omega
         have nPf : ¬ P f := fun hp => by have := hp9 f hp; omega
         have td9 := (hb9.block d ldd).trans HTD.out
         have tf9 := (hb9.block f ldf).trans HTF.out
         have ld9 := (Array.getElem?_eq_some_iff.1 td9).1
         have lf9 := (Array.getElem?_eq_some_iff.1 tf9).1
         have C9 := Lib.hid (fun W P' (hc : Chg P P' w9 W) => six_cells (((hc.keep d ld9 nPd).1).trans td9) (((hc.keep f lf9 nPf).1).trans tf9))
         have HX1 := Lib.hid (fun W P' (hc : Chg P P' w9 W) => (((HTV1.out w8 HB8.out).apart_low (Nat.le_refl _) hp9).chg (Chg.of_below hb9)).chg hc)
         have HX2 := Lib.hid (fun W P' (hc : Chg P P' w9 W) => (((HTV2.out w8 HB8.out).apart_low (Nat.le_refl _) hp9).chg (Chg.of_below hb9)).chg hc)
         have hks9 := (HKS.out w8 HB8.out).chg ((HKS.out w8 HB8.out).apt_low (Nat.le_refl _) hp9) (Chg.of_below hb9)
         have HKX := Lib.hid (fun W P' (hc : Chg P P' w9 W) => hks9.1.chg hks9.2 hc)
         have HBF := Lib.hid (fun W P' (hc : Chg P P' w9 W) => HB9.out.trans (hc.below fun k hk => ⟨Nat.lt_of_lt_of_le hk HB9.out.size, fun hp => by
           have h1 := hp9 k hp
           have h2 := HB8.out.size
           omega⟩))
         have HC9 := Lib.hid (Chg.refl P w9)
         have HLD := Lib.hid ld9
         obtain ⟨xa0, xa1, xa2, xa3, xa4, xa5⟩ := C9.out _ _ HC9.out
         clear hd9 hp9 hb9 ldd ldf nPd nPf td9 tf9 ld9 lf9 hks9)
      | (go_at_call 11; (with_reducible refine (KW1.out w9 _ _ _ HD9.out (HX1.out _ _ HC9.out).v).mono ?_); rintro e w10 ⟨rfl, P10, hd10, hc10⟩
         have HD10 := Lib.hid hd10
         have HC10 := Lib.hid hc10
         clear xa0 xa1 xa2 xa3 xa4 xa5
         obtain ⟨xb0, xb1, xb2, xb3, xb4, xb5⟩ := C9.out _ _ HC10.out
         clear hd10 hc10)
      | (go_at_call 12; (with_reducible refine (KH1.out w10 _ _ _ HD10.out (HX1.out _ _ HC10.out)).mono ?_); rintro e w11 ⟨rfl, P11, hd11, hc11⟩
         have HD11 := Lib.hid hd11
         have HC11 := Lib.hid (HC10.out.trans hc11)
         clear xb0 xb1 xb2 xb3 xb4 xb5 hd11 hc11)
      | (go_at_call 21; (with_reducible refine (KSF.out w11 _ _ HD11.out).mono ?_); rintro e w12 ⟨rfl, hd12, hc12⟩
         have HD12 := Lib.hid hd12
         have HC12 := Lib.hid (HC11.out.trans hc12)
         obtain ⟨xc0, xc1, xc2, xc3, xc4, xc5⟩ := C9.out _ _ HC12.out
         clear hd12 hc12)
      | (go_at_call 11; (with_reducible refine (KW2.out w12 _ _ _ HD12.out (HX2.out _ _ HC12.out).v).mono ?_); rintro e w13 ⟨rfl, P13, hd13, hc13⟩
         have HD13 := Lib.hid hd13
         have HC13 := Lib.hid (HC12.out.trans hc13)
         clear xc0 xc1 xc2 xc3 xc4 xc5
         obtain ⟨xd0, xd1, xd2, xd3, xd4, xd5⟩ := C9.out _ _ HC13.out
         clear hd13 hc13)
      | (go_at_call 22; (with_reducible refine (KC1.out w13 _ _ _ HD13.out (HKX.out _ _ HC13.out).1 (HKX.out _ _ HC13.out).2).mono ?_); rintro e w15 ⟨rfl, P15, hd15, hc15⟩
         have HLS : Hid (∃ s P', Dk w15 P' (.pointer (some ⟨bp, 0, none⟩)) s ∧ Chg P P' w9 w15 ∧ CrS 1 2 N1 D1 N2 D2 Z 2 s ∧ s.fu = false) := Lib.hid ⟨_, P15, hd15, HC13.out.trans hc15, HCS.out, rfl⟩
         clear xd0 xd1 xd2 xd3 xd4 xd5 hd15 hc15))
    clear KN KW1 KH1 KSF KW2 KH2 KC1 KC2
    go_loopw [84] (fun i wr => ∃ j : Nat, j ≤ mm ∧ i = .int .i64 j ∧ Hid (∃ s P', Dk wr P' (.pointer (some ⟨bp, 0, none⟩)) s ∧ Chg P P' w9 wr ∧ CrS 1 2 N1 D1 N2 D2 Z 2 s ∧ s.fu = false)) (fun i _ => mm - (intOf i).toNat)
    case atStart => exact ⟨0, by omega, rfl, HLS⟩
    case round =>
      obtain ⟨j, hj, rfl, HS⟩ := hrel
      clear HLS
      obtain ⟨s, Pj, hdk, hck, hcs, hfu⟩ := HS.out
      have HCK := Lib.hid hck
      have HDK := Lib.hid hdk
      have HCRS := Lib.hid hcs
      have HFU := Lib.hid hfu
      clear hck hdk hcs hfu
      by_cases hlt : j < mm
      · have KS1 := Lib.hid (kSetFuse HDK.out (j : Int) (by omega))
        have ej : (j : Int) < (a : Int) % 6 := by rw [HAB.out]; omega
        go_wp2_with (first
          | (go_at_call 21; (with_reducible refine KS1.out.mono ?_); rintro e w16 ⟨rfl, hd16, hc16⟩
             have HD16 := Lib.hid hd16
             have HC16 := Lib.hid (HCK.out.trans hc16)
             clear hd16 hc16)
          | (go_at_call 23; (with_reducible refine (KRC.out w16 _ _ _ HD16.out (HCRS.out.fuse _)).mono ?_); rintro e w17 ⟨x, r, s', P17, rfl, hd17, hc17, hU17, hcr, _⟩
             have HD17 := Lib.hid hd17
             have HC17 := Lib.hid (HC16.out.trans hc17)
             have HU17 := Lib.hid hU17
             have HCR := Lib.hid (hcr K)
             clear hd17 hc17 hU17 hcr)
          | (go_at_call 22; (with_reducible refine (KC3.out w17 _ _ _ _ HD17.out HU17.out (HKX.out _ _ HC17.out).1 (HKX.out _ _ HC17.out).2).mono ?_); rintro e w18 ⟨rfl, P18, hd18, hc18⟩))
        go_roundw
        case rel => exact ⟨j + 1, by omega, by go_num, Lib.hid ⟨_, P18, hd18, HC17.out.trans hc18, HCR.out, rfl⟩⟩
        case measure => simp [intOf]; omega
      · obtain rfl : j = mm := by omega
        have ej : ¬ (j : Int) < (a : Int) % 6 := by rw [HAB.out]; omega
        go_upto_region 22 with (go_at_call 23; (with_reducible refine (KRC.out wr _ _ _ HDK.out HCRS.out).mono ?_); rintro e w17 ⟨x, r, s', P17, rfl, hd17, hc17, _, _, hfin⟩
                                obtain ⟨rfl, hdn, hFl, hE⟩ := hfin HFU.out
                                have HD17 := Lib.hid hd17
                                have HC17 := Lib.hid (HCK.out.trans hc17)
                                have HDN := Lib.hid hdn
                                have HFL := Lib.hid hFl
                                have HE := Lib.hid (HCE.out _ hE)
                                clear hd17 hc17 hfin hdn hFl hE)
        have HC17d : Hid (Chg P P17 w9 w17.drew) := Lib.hid (HC17.out.trans (Chg.of_below (Below.refl w17.heap.size w17).drew))
        obtain ⟨e0, e1, e2, _, _, _⟩ := C9.out _ _ HC17d.out
        have hz17 := Nat.lt_of_lt_of_le HLD.out HC17d.out.size
        have HX17 := Lib.hid (HX1.out _ _ HC17d.out).v
        refine wp_region_held_drew (S := fun W => W.cell? ⟨d, 0, none⟩ = some (.int .u32 1) ∧ W.cell? ⟨d, 1, none⟩ = some (.slice no1 n1 nc1) ∧ W.cell? ⟨d, 2, none⟩ = some (.slice ao1 m1 dc1)) (by kernel_rfl) ⟨e0, e1, e2⟩ (fun hHeld => ?_)
        refine wpAnyH_take (i := 4) (v := .agg #[.int .u32 1, .slice no1 n1 nc1, .slice ao1 m1 dc1]) rfl (by kernel_rfl) (by kernel_rfl) (by kernel_rfl) (fun _ _ _ h => h) (Or.inl ⟨by rfl, ?_⟩) (by assumption) ?_
        · intro W hSw
          obtain ⟨k0, k1, k2⟩ := hSw
          go_simp
        (try simp only [Act.put, List.setIfInBounds_toArray, List.set_cons_zero, List.set_cons_succ, List.getElem_toArray, List.getElem_cons_zero, List.getElem_cons_succ])
        refine wpAnyH_ready (rs := [0]) (by kernel_rfl) (by simp) (AllReadyH.cons rfl (fun K hK => ?_) AllReadyH.nil)
        go_simp
        go_at_call 24
        refine (KND.out w17.drew).mono ?_
        rintro e w18 ⟨g, v, cs, rfl, hg, hcv, hv, hb18⟩
        have c0 := (hb18.cell (p := ⟨d, 0, none⟩) hz17).trans e0
        have c1 := (hb18.cell (p := ⟨d, 1, none⟩) hz17).trans e1
        have c2 := (hb18.cell (p := ⟨d, 2, none⟩) hz17).trans e2
        have cg : w18.cell? ⟨g, 0, none⟩ = some v := by rw [cell_of_row _ _ _ _ _ _ hg]; exact hcv
        have hz18 := Nat.lt_of_lt_of_le hz17 hb18.size
        have KW18 := Lib.hid (KWA.out w18 v _ 1 hv (HX17.out.below hb18))
        obtain ⟨vo, vc, rfl, _⟩ := hv.shape
        have HB18 := Lib.hid hb18
        refine hK.out _ _ ⟨c0, c1, c2⟩ (fun hHeld => ?_)
        clear hK K hg hcv hv hb18 hHeld
        (try simp only [Act.put, List.setIfInBounds_toArray, List.set_cons_zero, List.set_cons_succ, List.getElem_toArray, List.getElem_cons_zero, List.getElem_cons_succ])
        refine wpAnyH_take (i := 1) (v := .pointer (some ⟨g, 0, none⟩)) rfl (by kernel_rfl) (by kernel_rfl) (by kernel_rfl) (fun _ _ _ h => h) (Or.inl ⟨by rfl, ?_⟩) ⟨c0, c1, c2⟩ ?_
        · intro W hSw
          first | go_simp | rfl
        (try simp only [Act.put, List.setIfInBounds_toArray, List.set_cons_zero, List.set_cons_succ, List.getElem_toArray, List.getElem_cons_zero, List.getElem_cons_succ])
        refine wpAnyH_take (i := 2) (v := .pointer (some ⟨g, 0, none⟩)) rfl (by kernel_rfl) (by kernel_rfl) (by kernel_rfl) (fun _ _ _ h => h) (Or.inl ⟨by rfl, ?_⟩) ⟨c0, c1, c2⟩ ?_
        · intro W hSw
          first | go_simp | rfl
        (try simp only [Act.put, List.setIfInBounds_toArray, List.set_cons_zero, List.set_cons_succ, List.getElem_toArray, List.getElem_cons_zero, List.getElem_cons_succ])
        refine wpAnyH_ready (rs := [3]) (by kernel_rfl) (by simp) (AllReadyH.cons rfl (fun K hK => ?_) AllReadyH.nil)
        go_simp
        refine hK.out _ _ ⟨c0, c1, c2⟩ (fun hHeld => ?_)
        clear hK K hHeld
        (try simp only [Act.put, List.setIfInBounds_toArray, List.set_cons_zero, List.set_cons_succ, List.getElem_toArray, List.getElem_cons_zero, List.getElem_cons_succ])
        refine wpAnyH_ready (rs := [5]) (by kernel_rfl) (by simp) (AllReadyH.cons rfl (fun K hK => ?_) AllReadyH.nil)
        go_simp
        go_at_call 19
        refine KW18.out.mono ?_
        rintro e w19 ⟨uo, rfl, huo, hb19⟩
        have f0 := (hb19.cell (p := ⟨d, 0, none⟩) hz18).trans c0
        have f1 := (hb19.cell (p := ⟨d, 1, none⟩) hz18).trans c1
        have f2 := (hb19.cell (p := ⟨d, 2, none⟩) hz18).trans c2
        have HB19 := Lib.hid (HB18.out.trans (hb19.mono HB18.out.size))
        have HUO := Lib.hid huo
        refine hK.out _ _ ⟨f0, f1, f2⟩ (fun hHeld => ?_)
        clear hK K hHeld huo hb19
        (try simp only [Act.put, List.setIfInBounds_toArray, List.set_cons_zero, List.set_cons_succ, List.getElem_toArray, List.getElem_cons_zero, List.getElem_cons_succ])
        refine wpAnyH_take (i := 6) (v := uo) rfl (by kernel_rfl) (by kernel_rfl) (by kernel_rfl) (fun _ _ _ h => h) (Or.inl ⟨by rfl, ?_⟩) ⟨f0, f1, f2⟩ ?_
        · intro W hSw
          first | go_simp | rfl
        (try simp only [Act.put, List.setIfInBounds_toArray, List.set_cons_zero, List.set_cons_succ, List.getElem_toArray, List.getElem_cons_zero, List.getElem_cons_succ])
        refine wpAnyH_done (by kernel_rfl) ?_ _
        have HC19 := Lib.hid (HC17d.out.trans (Chg.of_below HB19.out))
        have HD19 := Lib.hid ((HD17.out.below (Below.refl w17.heap.size w17).drew).below HB19.out)
        have hvl : s'.vis.length = 100 := by rw [DS.vis_length, HFL.out]
        have KB19 := Lib.hid (blocks10_of HD19.out HDN.out (by rw [HFL.out]; omega))
        clear f0 f1 f2 c0 c1 c2 cg e0 e1 e2
        go_upto_region 24 with (go_at_call 9; (with_reducible refine KB19.out.mono ?_); rintro e w20 ⟨bv, rfl, hbv, hb20⟩
                                have HBV := Lib.hid (hbv.bba (fun k hk => HD19.out.lt k hk)).sl
                                have HC20 := Lib.hid (HC19.out.trans (Chg.of_below hb20))
                                have HU20 := Lib.hid (HUO.out.below hb20)
                                obtain ⟨_, _, _, y3, y4, y5⟩ := C9.out _ _ HC20.out
                                have KW20 := Lib.hid (KWB.out w20 uo _ 2 HU20.out (HX2.out _ _ HC20.out).v)
                                clear hbv hb20)
        have hone : ∀ M : List (List Int), M.length = 100 → (∀ i, OutJ i → i < 100 → s'.vis.getD i [] = M.getD i []) → openB s'.vis M = true := fun M hM hE => (openB_iff _ _).2 fun i hi ho => hE i ho (by rw [hvl] at hi; exact hi)
        have KSO := Lib.hid (fun W u v M (hu : BBSl W u s'.vis) (hv : BBSl W v M) (hM : M.length = 100) => sameOpen10_is hu hv (by rw [hvl]; omega) (by rw [hM, hvl]) (openB s'.vis M) (openB_iff _ _))
        rcases HE.out with hE | ⟨hE2, hE⟩
        · have HO1 := hone H HHL.out hE
          have KS1 := Lib.hid (fun W u v hu hv => KSO.out W u v H hu hv HHL.out)
          rw [HO1] at KS1
          clear HO1 hone KSO hE
          go_wp2_with (first
            | (go_at_call 19; (with_reducible refine KW20.out.mono ?_); rintro e w21 ⟨wv, rfl, hwv, hb21⟩
               have HBV21 := Lib.hid (HBV.out.below hb21)
               have HWV := Lib.hid hwv
               have HC21 := Lib.hid (HC20.out.trans (Chg.of_below hb21))
               clear hwv hb21)
            | (go_at_call 25; (with_reducible refine (KS1.out _ _ _ HBV21.out HWV.out).mono ?_); rintro e w22 ⟨rfl, hb22⟩))
          go_ret
          exact ⟨rfl, HBF.out _ _ (HC21.out.trans (Chg.of_below hb22))⟩
        · have HO2 := hone G HGL.out hE
          have KS2 := Lib.hid (fun W u v hu hv => KSO.out W u v G hu hv HGL.out)
          rw [HO2] at KS2
          obtain ⟨Bo, hBo⟩ : ∃ Bo, Bo = openB s'.vis H := ⟨_, rfl⟩
          have KS1 := Lib.hid (fun W u v hu hv => KSO.out W u v H hu hv HHL.out)
          rw [← hBo] at KS1
          clear HO2 hone KSO hE hBo
          cases Bo
          · go_wp2_with (first
              | (go_at_call 19; (with_reducible refine KW20.out.mono ?_); rintro e w21 ⟨wv, rfl, hwv, hb21⟩
                 have HBV21 := Lib.hid (HBV.out.below hb21)
                 have HWV := Lib.hid hwv
                 have HU21 := Lib.hid (HU20.out.below hb21)
                 have HC21 := Lib.hid (HC20.out.trans (Chg.of_below hb21))
                 clear hwv hb21)
              | (go_at_call 25; (with_reducible refine (KS1.out w21 _ _ HBV21.out HWV.out).mono ?_); rintro e w22 ⟨rfl, hb22⟩
                 have KS3 := Lib.hid (KS2.out w22 _ _ (HBV21.out.below hb22) (HU21.out.below hb22)))
              | (go_at_call 25; (with_reducible refine KS3.out.mono ?_); rintro e w23 ⟨rfl, hb23⟩))
            go_ret
            exact ⟨rfl, HBF.out _ _ ((HC21.out.trans (Chg.of_below hb22)).trans (Chg.of_below hb23))⟩
          · go_wp2_with (first
              | (go_at_call 19; (with_reducible refine KW20.out.mono ?_); rintro e w21 ⟨wv, rfl, hwv, hb21⟩
                 have HBV21 := Lib.hid (HBV.out.below hb21)
                 have HWV := Lib.hid hwv
                 have HC21 := Lib.hid (HC20.out.trans (Chg.of_below hb21))
                 clear hwv hb21)
              | (go_at_call 25; (with_reducible refine (KS1.out w21 _ _ HBV21.out HWV.out).mono ?_); rintro e w22 ⟨rfl, hb22⟩))
            go_ret
            exact ⟨rfl, HBF.out _ _ (HC21.out.trans (Chg.of_below hb22))⟩
theorem lLogC_any {w : World} {tv1 tv2 kv : Value} {x y : Int} (ht1 : ∃ q N D, TxV w tv1 q N D ∧ (0 ≤ q ∧ q < 4294967296) ∧ ∀ j, (D.getD j []).length ≤ 140737488355328) (ht2 : ∃ q N D, TxV w tv2 q N D ∧ (0 ≤ q ∧ q < 4294967296) ∧ ∀ j, (D.getD j []).length ≤ 140737488355328) (hk : ∃ K, KSl w kv K) (hx : 0 ≤ x ∧ x ≤ 255) (hy : 0 ≤ y ∧ y ≤ 255) :
    Calls Try.prog 4 #[tv1, tv2, .int .u8 x, kv, .int .u8 y] w fun e w' => e = .returned (.bool true) ∧ Below w.heap.size w w' := by
  obtain ⟨q1, N1, D1, ht1, _, hr1⟩ := ht1
  obtain ⟨q2, N2, D2, ht2, _, hr2⟩ := ht2
  obtain ⟨K, hk⟩ := hk
  obtain ⟨b, rfl⟩ : ∃ b : Nat, x = b := ⟨x.toNat, by omega⟩
  obtain ⟨a, rfl⟩ : ∃ a : Nat, y = a := ⟨y.toNat, by omega⟩
  by_cases h : FewS N1 D1 = false ∨ FewS N2 D2 = false ∨ 200 < K.length
  · exact lLogC_few ht1 ht2 hk hr1 hr2 _ _ rfl rfl h
  · have hB1 : FewS N1 D1 = true := by cases e : FewS N1 D1 <;> simp [e] at h ⊢
    have hB2 : FewS N2 D2 = true := by cases e : FewS N2 D2 <;> simp [e] at h ⊢
    have h200 : ¬ 200 < K.length := fun hh => h (.inr (.inr hh))
    by_cases h2 : (hasN 100 N1 && frmT N1 D1) = false ∨ (hasN 100 N2 && frmT N2 D2) = false ∨ inJS N1 = true ∨ inJS N2 = true
    · exact lLogC_skip ht1 ht2 hk hr1 hr2 hB1 hB2 h200 _ _ _ _ rfl rfl rfl rfl h2
    · have e1 : (hasN 100 N1 && frmT N1 D1) = true := by cases e : (hasN 100 N1 && frmT N1 D1) <;> simp [e] at h2 ⊢
      have e2 : (hasN 100 N2 && frmT N2 D2) = true := by cases e : (hasN 100 N2 && frmT N2 D2) <;> simp [e] at h2 ⊢
      have e3 : inJS N1 = false := by cases e : inJS N1 <;> simp [e] at h2 ⊢
      have e4 : inJS N2 = false := by cases e : inJS N2 <;> simp [e] at h2 ⊢
      rw [Bool.and_eq_true] at e1 e2
      exact lLogC_yes ht1 ht2 hk hr1 hr2 (by omega) (by omega) hB1 hB2 h200 e1.2 e2.2 e1.1 e2.1 e3 e4
end Go.Proofs.Ytpjmnmkdegkfcaa

/- Slices of bytes, of numbers, of slices of bytes, within what was read: opened to their cells, each with its reach. -/
namespace Go.Proofs.Ytpjmnmkdegkfcaa
set_option maxRecDepth 100000
open Go.RowKit Go.ChangeShapes Go.WideShapes
set_option linter.unusedVariables false

/-- Each slice and string that is reached is within the reach. -/
def Fit9 {H : Type} (t : TypeId) (d : DataW H) : Prop := ∀ n ∈ d.weights Try.prog t, n ≤ reachBytes
theorem weights_all_mem {H : Type} {P : Program} {e : TypeId} : ∀ {ds : List (DataW H)} {i : Nat} {d : DataW H}, ds[i]? = some d → ∀ n ∈ d.weights P e, n ∈ DataW.weightsAll P e ds
  | [], i, d, h => by simp at h
  | x :: ds, 0, d, h => fun n hn => by
    obtain rfl : x = d := by simpa using h
    unfold DataW.weightsAll
    exact List.mem_append_left _ hn
  | x :: ds, i + 1, d, h => fun n hn => by
    unfold DataW.weightsAll
    exact List.mem_append_right _ (weights_all_mem (by simpa using h) n hn)
theorem Fit9.slice {H : Type} {t e : TypeId} {elems spare : List (DataW H)} (hu : Try.prog.underlying t = some (.slice e)) (h : Fit9 t (.slice elems spare)) :
    (elems.length + spare.length) * Try.prog.bytesOf e ≤ reachBytes ∧ ∀ (i : Nat) (d : DataW H), elems[i]? = some d → Fit9 e d := by
  unfold Fit9 at h
  unfold DataW.weights at h
  rw [hu] at h
  exact ⟨h _ (List.mem_cons_self ..), fun i d hd n hn => h n (List.mem_cons_of_mem _ (List.mem_append_left _ (weights_all_mem hd n hn)))⟩
theorem Fit9.struct {H : Type} {t : TypeId} {fs : Array Field} {parts : List (DataW H)} (hu : Try.prog.underlying t = some (.struct fs)) (h : Fit9 t (.agg parts)) {i : Nat} {u : TypeId} {d : DataW H} (ht : (fs.toList.map (·.type))[i]? = some u) (hd : parts[i]? = some d) : Fit9 u d := by
  unfold Fit9 at h
  unfold DataW.weights at h
  rw [hu] at h
  exact fun n hn => h n (DataW.weights_mem_each ht hd n hn)
theorem Fit9.top {H : Type} {ts : List TypeId} {ds : List (DataW H)} {j : Nat} {t : TypeId} {d : DataW H} (h : ((DataW.weightsEach Try.prog ts ds).all fun x => decide (x ≤ reachBytes)) = true) (ht : ts[j]? = some t) (hd : ds[j]? = some d) : Fit9 t d := fun n hn => by
  have := List.all_eq_true.1 h n (DataW.weights_mem_each ht hd n hn)
  simpa using this

section
variable {H : Type} {enc : TypeId × Value → H} {W : World} {base : Nat} {spare : Nat → Bool} {held : Bool}
theorem bsl_of_trod {cs : List Value} {fuel : Nat} {y : DataW H × List MemPlace} (hf : DataW.trod enc Try.prog W base spare held fuel 40 cs = some y) : ∃ v l, cs = [v] ∧ BSl W v l ∧ (Fit9 40 y.1 → l.length ≤ reachBytes) := by
  rcases open_ints Try.underlying40 Try.underlying5 (by kernel_rfl) hf with ⟨hcs, _⟩ | ⟨x, len, cap, zs, hcs, _, hl, hm, hz, hx, hcell, hwz⟩
  · exact ⟨_, [], hcs, bsl_nil _, fun _ => Nat.zero_le _⟩
  · have hge : len ≤ zs.length := by rw [hz]; split <;> omega
    have hlen : (zs.take len).length = len := by simp; omega
    have hget : ∀ j, j < len → (zs.take len).getD j 0 = zs.getD j 0 := fun j hj => by
      simp [List.getD_eq_getElem?_getD, hj]
    have hbyt : Byt (zs.take len) := byt_of_mem fun x hx => bounds_u8 (hwz x (List.mem_of_mem_take hx))
    refine ⟨_, zs.take len, hcs, ⟨hbyt, .inr ⟨x, cap, by rw [hlen], by omega, fun j hj => ?_⟩⟩, fun hfit => ?_⟩
    rotate_left
    · rw [hx] at hfit
      have h1 := (Fit9.slice Try.underlying40 hfit).1
      have hby : Try.prog.bytesOf 5 = 1 := by kernel_rfl
      rw [hby] at h1
      simp only [lits, List.length_map, Nat.mul_one] at h1
      omega
    rw [hlen] at hj
    have h0 := hcell j (by omega)
    obtain ⟨b, off, spot⟩ := x
    have hspot : spot = none := by
      have h00 := hcell 0 (by omega)
      simpa [Addr.add] using World.cell?_spot h00
    subst hspot
    rw [Addr.add_lit] at h0
    exact ⟨by have := block_lt_of_cell h0; exact this, rfl, by rw [hget j hj]; exact h0⟩
theorem isl_of_trod (S : TypeId) (hS : Try.prog.underlying S = some (.slice 3)) {cs : List Value} {fuel : Nat} {y : DataW H × List MemPlace} (hf : DataW.trod enc Try.prog W base spare held fuel S cs = some y) : ∃ v l, cs = [v] ∧ ISl W v l ∧ l.length ≤ maxLen := by
  rcases open_ints hS Try.underlying3 (by kernel_rfl) hf with ⟨hcs, _⟩ | ⟨x, len, cap, zs, hcs, _, hl, hm, hz, hx, hcell, hwz⟩
  · exact ⟨_, [], hcs, isl_nil _, Nat.zero_le _⟩
  · have hge : len ≤ zs.length := by rw [hz]; split <;> omega
    have hlen : (zs.take len).length = len := by simp; omega
    have hget : ∀ j, j < len → (zs.take len).getD j 0 = zs.getD j 0 := fun j hj => by
      simp [List.getD_eq_getElem?_getD, hj]
    refine ⟨_, zs.take len, hcs, .inr ⟨x, cap, by rw [hlen], fun j hj => ?_⟩, by omega⟩
    rw [hlen] at hj
    have h0 := hcell j (by omega)
    obtain ⟨b, off, spot⟩ := x
    have hspot : spot = none := by
      have h00 := hcell 0 (by omega)
      simpa [Addr.add] using World.cell?_spot h00
    subst hspot
    rw [Addr.add_lit] at h0
    exact ⟨by have := block_lt_of_cell h0; exact this, rfl, by rw [hget j hj]; exact h0⟩
theorem bytesCells9 : Try.prog.cellsOf 40 = 1 := by kernel_rfl
theorem bbsl_of_trod (S : TypeId) (hS : Try.prog.underlying S = some (.slice 40)) {cs : List Value} {fuel : Nat} {y : DataW H × List MemPlace} (hf : DataW.trod enc Try.prog W base spare held fuel S cs = some y) :
    ∃ v L, cs = [v] ∧ BBSl W v L ∧ (Fit9 S y.1 → ∀ j, (L.getD j []).length ≤ reachBytes) := by
  rcases Go.Deep.open_slice1 hS bytesCells9 hf with ⟨hcs, _⟩ | ⟨a, len, cap, m, n, V, D, Pl, hcs, _, hl, hm, hmm, hy, hi⟩
  · exact ⟨_, [], hcs, bbsl_nil _, fun _ j => by simp⟩
  · have hlm : len ≤ m := by rw [hmm]; split <;> omega
    have hex : ∀ i, i < len → ∃ l, W.cell? (a.add i) = some (V i) ∧ BSl W (V i) l ∧ (Fit9 40 (D i) → l.length ≤ reachBytes) := fun i hi2 => by
      obtain ⟨h1, h2⟩ := hi i (by omega)
      obtain ⟨v, l, hv, hb, hln⟩ := bsl_of_trod h2
      obtain rfl : V i = v := by simpa using hv
      exact ⟨l, h1, hb, hln⟩
    obtain ⟨f, hfn⟩ := Go.Deep.choose_lt hex
    have hget : ∀ i, i < len → ((List.range len).map f).getD i [] = f i := fun i hi2 => by
      simp [List.getD_eq_getElem?_getD, hi2]
    refine ⟨_, (List.range len).map f, hcs, .inr ⟨a, cap, by simp, by simpa using hl, fun i hi2 => ?_⟩, fun hfit j => ?_⟩
    · have hi2 : i < len := by simpa using hi2
      obtain ⟨c0, hb, _⟩ := hfn i hi2
      obtain ⟨b, off, spot⟩ := a
      have hsp : spot = none := by
        obtain ⟨z0, _⟩ := hfn 0 (by omega)
        simpa [Addr.add] using World.cell?_spot z0
      subst hsp
      rw [Addr.add_lit] at c0
      rw [hget i hi2]
      exact ⟨by have := block_lt_of_cell c0; exact this, rfl, V i, c0, hb⟩
    · by_cases hj : j < len
      · rw [hget j hj]
        rw [hy] at hfit
        exact (hfn j hj).2.2 ((Fit9.slice hS hfit).2 j (D j) (by simp [hj]))
      · rw [List.getD_eq_getElem?_getD, List.getElem?_eq_none (by simp; omega)]; exact Nat.zero_le _
end
end Go.Proofs.Ytpjmnmkdegkfcaa

/- An argument that is a change (the reference's Txn), and one that is a list of blocks. -/
namespace Go.Proofs.Ytpjmnmkdegkfcaa
set_option maxRecDepth 100000
open Go.RowKit Go.ChangeShapes Go.WideShapes
set_option linter.unusedVariables false

theorem rTxnCells : Try.prog.cellsOf 26 = 3 := by kernel_rfl
theorem u32Cells9 : Try.prog.cellsOf 22 = 1 := by kernel_rfl
theorem intsCells9 : Try.prog.cellsOf 23 = 1 := by kernel_rfl
theorem bbCells9 : Try.prog.cellsOf 24 = 1 := by kernel_rfl

section
variable {H : Type} {enc : TypeId × Value → H} {W : World} {base : Nat} {spare : Nat → Bool} {held : Bool}
theorem isc_of_trod {cs : List Value} {fuel : Nat} {y : DataW H × List MemPlace} (hf : DataW.trod enc Try.prog W base spare held fuel 23 cs = some y) : ∃ v l, cs = [v] ∧ ISc W v l := by
  rcases open_ints Try.underlying23 Try.underlying3 (by kernel_rfl) hf with ⟨hcs, _⟩ | ⟨x, len, cap, zs, hcs, _, hl, hm, hz, hx, hcell, hwz⟩
  · exact ⟨_, [], hcs, isc_nil _⟩
  · have hge : len ≤ zs.length := by rw [hz]; split <;> omega
    have hlen : (zs.take len).length = len := by simp; omega
    have hget : ∀ j, j < len → (zs.take len).getD j 0 = zs.getD j 0 := fun j hj => by
      simp [List.getD_eq_getElem?_getD, hj]
    refine ⟨_, zs.take len, hcs, .inr ⟨x, cap, by rw [hlen], fun j hj => ?_⟩, some x, cap, by rw [hlen], by rw [hlen]; exact hl⟩
    rw [hlen] at hj
    have h0 := hcell j (by omega)
    obtain ⟨b, off, spot⟩ := x
    have hspot : spot = none := by
      have h00 := hcell 0 (by omega)
      simpa [Addr.add] using World.cell?_spot h00
    subst hspot
    rw [Addr.add_lit] at h0
    exact ⟨by have := block_lt_of_cell h0; exact this, rfl, by rw [hget j hj]; exact h0⟩
theorem txn_cs {cs : List Value} {m : Nat} {y : DataW H × List MemPlace} (hl : cs.length = 3) (ht : DataW.trod enc Try.prog W base spare held m 26 cs = some y) :
    ∃ (q : Int) (vN vD : Value) (N : List Int) (D : List (List Int)), cs = [.int .u32 q, vN, vD] ∧ ISc W vN N ∧ BBSl W vD D ∧ (0 ≤ q ∧ q < 4294967296) ∧ (Fit9 26 y.1 → ∀ j, (D.getD j []).length ≤ reachBytes) := by
  obtain ⟨xs, n, _, hy, hlen, hxs, hf⟩ := DataW.trod_struct Try.underlying26 ht
  match cs, hl with
  | [c0, c1, c2], _ =>
    match xs, hxs with
    | [y0, y1, y2], _ =>
      have g0 : DataW.trod enc Try.prog W base spare held n 22 (List.take (Try.prog.cellsOf 22) (List.drop 0 [c0, c1, c2])) = some y0 := hf 0 _ rfl
      have g1 : DataW.trod enc Try.prog W base spare held n 23 (List.take (Try.prog.cellsOf 23) (List.drop 1 [c0, c1, c2])) = some y1 := hf 1 _ rfl
      have g2 : DataW.trod enc Try.prog W base spare held n 24 (List.take (Try.prog.cellsOf 24) (List.drop 2 [c0, c1, c2])) = some y2 := hf 2 _ rfl
      rw [u32Cells9] at g0
      rw [intsCells9] at g1
      rw [bbCells9] at g2
      obtain ⟨q, e0, _, wf⟩ := DataW.trod_int Try.underlying22 (cs := [c0]) g0
      obtain ⟨vN, N, e1, hN⟩ := isc_of_trod (cs := [c1]) g1
      obtain ⟨vD, D, e2, hD, hr⟩ := bbsl_of_trod 24 Try.underlying24 (cs := [c2]) g2
      simp only [List.cons.injEq, and_true] at e0 e1 e2
      subst e0 e1 e2
      refine ⟨q, c1, c2, N, D, rfl, hN, hD, ?_, fun h => hr ?_⟩
      · have := bounds_u32 wf
        omega
      · rw [hy] at h
        exact Fit9.struct Try.underlying26 h (i := 2) (u := 24) rfl rfl
theorem txn_open {v : Value} {d : DataW H} {p : List MemPlace} {r : Reach} {b0 : Nat} (hv : Value.okWide Try.prog W r b0 26 v) (h : DataW.Trod enc Try.prog W base (fun _ => true) held 26 v d p) :
    ∃ z : Int × List Int × List (List Int), (TxV W v z.1 z.2.1 z.2.2 ∧ (0 ≤ z.1 ∧ z.1 < 4294967296)) ∧
      ∀ (ts : List TypeId) (ds : List (DataW H)) (j : Nat), ((DataW.weightsEach Try.prog ts ds).all fun x => decide (x ≤ reachBytes)) = true → ts[j]? = some 26 → ds[j]? = some d → ∀ k, (z.2.2.getD k []).length ≤ reachBytes := by
  obtain ⟨cs, rfl, hs⟩ := okWide_struct Try.underlying26 hv
  rw [rTxnCells] at hs
  obtain ⟨fuel, hf⟩ := h
  obtain ⟨q, vN, vD, N, D, e, hN, hD, hq, hr⟩ := txn_cs (by simpa [Value.cells] using hs) hf
  have e' : cs = #[.int .u32 q, vN, vD] := by
    apply Array.ext'
    exact e
  subst e'
  exact ⟨(q, N, D), ⟨TxV.mk hN hD, hq⟩, fun ts ds j hz h1 h2 => hr (Fit9.top hz h1 h2)⟩
theorem bb_open {v : Value} {d : DataW H} {p : List MemPlace} {r : Reach} {b0 : Nat} (hv : Value.okWide Try.prog W r b0 24 v) (h : DataW.Trod enc Try.prog W base (fun _ => true) held 24 v d p) :
    ∃ M : List (List Int), BBSl W v M ∧
      ∀ (ts : List TypeId) (ds : List (DataW H)) (j : Nat), ((DataW.weightsEach Try.prog ts ds).all fun x => decide (x ≤ reachBytes)) = true → ts[j]? = some 24 → ds[j]? = some d → ∀ k, (M.getD k []).length ≤ reachBytes := by
  obtain ⟨a0, len0, cap0, rfl⟩ := okWide_slice Try.underlying24 hv
  obtain ⟨fuel, hf⟩ := h
  obtain ⟨v', M, hcs, hM, hr⟩ := bbsl_of_trod 24 Try.underlying24 hf
  simp [Value.cells] at hcs
  subst hcs
  exact ⟨M, hM, fun ts ds j hz h1 h2 => hr (Fit9.top hz h1 h2)⟩
end
end Go.Proofs.Ytpjmnmkdegkfcaa
