/- LogCrashes: the walk of the law itself, where it ends early. -/
import Derived.Test.YtpjmnmkdegkfcaaC11
import Derived.Test.YtpjmnmkdegkfcaaC12
import Derived.Test.YtpjmnmkdegkfcaaC13
namespace Go.Proofs.Ytpjmnmkdegkfcaa
set_option maxRecDepth 100000
open Go.RowKit
set_option linter.unusedVariables false

theorem six_cells {W : World} {d f : Nat} {x0 x1 x2 y0 y1 y2 : Value} {T : TypeId} (h1 : W.heap[d]? = some (.cells #[x0, x1, x2] T (0, 0))) (h2 : W.heap[f]? = some (.cells #[y0, y1, y2] T (0, 0))) :
    W.cell? ⟨d, 0, none⟩ = some x0 ∧ W.cell? ⟨d, 1, none⟩ = some x1 ∧ W.cell? ⟨d, 2, none⟩ = some x2 ∧ W.cell? ⟨f, 0, none⟩ = some y0 ∧ W.cell? ⟨f, 1, none⟩ = some y1 ∧ W.cell? ⟨f, 2, none⟩ = some y2 := by
  refine ⟨?_, ?_, ?_, ?_, ?_, ?_⟩ <;> first | (rw [cell_of_row _ _ _ _ _ _ h1]; rfl) | (rw [cell_of_row _ _ _ _ _ _ h2]; rfl)
set_option maxHeartbeats 2000000 in
theorem lLogC_few {w : World} {tv1 tv2 kv : Value} {q1 q2 : Int} {a b : Nat} {N1 N2 : List Int} {D1 D2 : List (List Int)} {K : List Bool} (ht1 : TxV w tv1 q1 N1 D1) (ht2 : TxV w tv2 q2 N2 D2) (hk : KSl w kv K) (hr1 : ∀ j, (D1.getD j []).length ≤ 140737488355328) (hr2 : ∀ j, (D2.getD j []).length ≤ 140737488355328) (B1 B2 : Bool) (hB1 : FewS N1 D1 = B1) (hB2 : FewS N2 D2 = B2) (h : B1 = false ∨ B2 = false ∨ 200 < K.length) :
    Calls Try.prog 4 #[tv1, tv2, .int .u8 b, kv, .int .u8 a] w fun e w' => e = .returned (.bool true) ∧ Below w.heap.size w w' := by
  have ht1' := ht1
  have ht2' := ht2
  obtain ⟨no1, nc1, ao1, dc1, rfl, hN1, hD1⟩ := ht1
  obtain ⟨no2, nc2, ao2, dc2, rfl, hN2, hD2⟩ := ht2
  have KF1 := Lib.hid (fun W (hb : Below w.heap.size w W) => Few9_is (ht1'.below hb) hr1 B1 hB1)
  have KF2 := Lib.hid (fun W (hb : Below w.heap.size w W) => Few9_is (ht2'.below hb) hr2 B2 hB2)
  obtain ⟨ko, kc, rfl⟩ := hk.shape
  obtain ⟨kl, hkl⟩ : ∃ kl, kl = K.length := ⟨_, rfl⟩
  obtain ⟨n1, hn1⟩ : ∃ n, n = N1.length := ⟨_, rfl⟩
  obtain ⟨m1, hm1⟩ : ∃ m, m = D1.length := ⟨_, rfl⟩
  obtain ⟨n2, hn2⟩ : ∃ n, n = N2.length := ⟨_, rfl⟩
  obtain ⟨m2, hm2⟩ : ∃ m, m = D2.length := ⟨_, rfl⟩
  rw [← hn1, ← hm1] at KF1 ⊢
  rw [← hn2, ← hm2] at KF2 ⊢
  rw [← hkl] at h ⊢
  have hbx := below_box w (.cells #[.int .u32 q1, .slice no1 n1 nc1, .slice ao1 m1 dc1] 26)
  have hnx := heap_alloc_new w (.cells #[.int .u32 q1, .slice no1 n1 nc1, .slice ao1 m1 dc1] 26)
  have hsx : (w.alloc (.cells #[.int .u32 q1, .slice no1 n1 nc1, .slice ao1 m1 dc1] 26)).heap.size = w.heap.size + 1 := by simp
  have hby := below_box (w.alloc (.cells #[.int .u32 q1, .slice no1 n1 nc1, .slice ao1 m1 dc1] 26)) (.cells #[.int .u32 q2, .slice no2 n2 nc2, .slice ao2 m2 dc2] 26)
  have hny := heap_alloc_new (w.alloc (.cells #[.int .u32 q1, .slice no1 n1 nc1, .slice ao1 m1 dc1] 26)) (.cells #[.int .u32 q2, .slice no2 n2 nc2, .slice ao2 m2 dc2] 26)
  clear hN1 hD1 hN2 hD2 hn1 hm1 hn2 hm2 ht1' ht2' hr1 hr2 hkl hB1 hB2 hk
  go_enter Try.func4, Try.ntmps4
  go_upto_region 1 with (fail)
  rw [hsx] at hny hby
  have hno := (hby.block w.heap.size (by omega)).trans hnx
  have hb2 := hbx.trans (hby.mono (Nat.le_succ _))
  generalize (w.alloc (.cells #[.int .u32 q1, .slice no1 n1 nc1, .slice ao1 m1 dc1] 26)).alloc (.cells #[.int .u32 q2, .slice no2 n2 nc2, .slice ao2 m2 dc2] 26) = u at hno hny hb2 ⊢
  obtain ⟨d, hd⟩ : ∃ d, d = w.heap.size := ⟨_, rfl⟩
  rw [← hd] at hno hny ⊢
  obtain ⟨f, hf⟩ : ∃ f, f = d + 1 := ⟨_, rfl⟩
  rw [← hf] at hny ⊢
  have HDF : Hid (d = w.heap.size ∧ f = d + 1) := Lib.hid ⟨hd, hf⟩
  have R2 := Lib.hid (fun W (h : Below u.heap.size u W) => And.intro ((h.block d (Array.getElem?_eq_some_iff.1 hno).1).trans hno) ((h.block f (Array.getElem?_eq_some_iff.1 hny).1).trans hny))
  have C6 := Lib.hid (fun W (h : Below u.heap.size u W) => six_cells (R2.out W h).1 (R2.out W h).2)
  have HBT := Lib.hid (fun W (h : Below u.heap.size u W) => hb2.trans (h.mono hb2.size))
  clear hbx hnx hsx hby hny hno hb2 hd hf
  cases B1
  · clear h
    go_wp2_with (first
      | (go_at_call 6; (with_reducible refine (awake10_any u).mono ?_); rintro e w1 ⟨rfl, hb1⟩
         have HU1 := Lib.hid hb1
         obtain ⟨xa0, xa1, xa2, xa3, xa4, xa5⟩ := C6.out _ HU1.out
         clear hb1)
      | (go_at_call 7; (with_reducible refine (KF1.out w1 (HBT.out _ HU1.out)).mono ?_); rintro e w2 ⟨rfl, hb2⟩
         have HU2 := Lib.hid (HU1.out.trans (hb2.mono HU1.out.size))
         clear xa0 xa1 xa2 xa3 xa4 xa5
         obtain ⟨xb0, xb1, xb2, xb3, xb4, xb5⟩ := C6.out _ HU2.out
         clear hb2)
      | (go_at_call 6; (with_reducible refine (awake10_any w2).mono ?_); rintro e wz ⟨rfl, hbz⟩))
    go_ret
    exact ⟨rfl, HBT.out _ (HU2.out.trans (hbz.mono HU2.out.size))⟩
  · cases B2
    · clear h
      go_wp2_with (first
        | (go_at_call 6; (with_reducible refine (awake10_any u).mono ?_); rintro e w1 ⟨rfl, hb1⟩
           have HU1 := Lib.hid hb1
           obtain ⟨xa0, xa1, xa2, xa3, xa4, xa5⟩ := C6.out _ HU1.out
           clear hb1)
        | (go_at_call 7; (with_reducible refine (KF1.out w1 (HBT.out _ HU1.out)).mono ?_); rintro e w2 ⟨rfl, hb2⟩
           have HU2 := Lib.hid (HU1.out.trans (hb2.mono HU1.out.size))
           clear xa0 xa1 xa2 xa3 xa4 xa5
           obtain ⟨xb0, xb1, xb2, xb3, xb4, xb5⟩ := C6.out _ HU2.out
           clear hb2)
        | (go_at_call 7; (with_reducible refine (KF2.out w2 (HBT.out _ HU2.out)).mono ?_); rintro e w3 ⟨rfl, hb3⟩
           have HU3 := Lib.hid (HU2.out.trans (hb3.mono HU2.out.size))
           clear xb0 xb1 xb2 xb3 xb4 xb5
           obtain ⟨xc0, xc1, xc2, xc3, xc4, xc5⟩ := C6.out _ HU3.out
           clear hb3)
        | (go_at_call 6; (with_reducible refine (awake10_any w3).mono ?_); rintro e wz ⟨rfl, hbz⟩))
      go_ret
      exact ⟨rfl, HBT.out _ (HU3.out.trans (hbz.mono HU3.out.size))⟩
    · have h200 : (200 : Int) < (kl : Int) := by
        rcases h with h | h | h
        · cases h
        · cases h
        · omega
      clear h
      go_wp2_with (first
        | (go_at_call 6; (with_reducible refine (awake10_any u).mono ?_); rintro e w1 ⟨rfl, hb1⟩
           have HU1 := Lib.hid hb1
           obtain ⟨xa0, xa1, xa2, xa3, xa4, xa5⟩ := C6.out _ HU1.out
           clear hb1)
        | (go_at_call 7; (with_reducible refine (KF1.out w1 (HBT.out _ HU1.out)).mono ?_); rintro e w2 ⟨rfl, hb2⟩
           have HU2 := Lib.hid (HU1.out.trans (hb2.mono HU1.out.size))
           clear xa0 xa1 xa2 xa3 xa4 xa5
           obtain ⟨xb0, xb1, xb2, xb3, xb4, xb5⟩ := C6.out _ HU2.out
           clear hb2)
        | (go_at_call 7; (with_reducible refine (KF2.out w2 (HBT.out _ HU2.out)).mono ?_); rintro e w3 ⟨rfl, hb3⟩
           have HU3 := Lib.hid (HU2.out.trans (hb3.mono HU2.out.size))
           clear xb0 xb1 xb2 xb3 xb4 xb5
           obtain ⟨xc0, xc1, xc2, xc3, xc4, xc5⟩ := C6.out _ HU3.out
           clear hb3)
        | (go_at_call 6; (with_reducible refine (awake10_any w3).mono ?_); rintro e wz ⟨rfl, hbz⟩))
      go_ret
      exact ⟨rfl, HBT.out _ (HU3.out.trans (hbz.mono HU3.out.size))⟩
set_option maxHeartbeats 4000000 in
theorem lLogC_skip {w : World} {tv1 tv2 kv : Value} {q1 q2 : Int} {a b : Nat} {N1 N2 : List Int} {D1 D2 : List (List Int)} {K : List Bool} (ht1 : TxV w tv1 q1 N1 D1) (ht2 : TxV w tv2 q2 N2 D2) (hk : KSl w kv K) (hr1 : ∀ j, (D1.getD j []).length ≤ 140737488355328) (hr2 : ∀ j, (D2.getD j []).length ≤ 140737488355328) (hB1 : FewS N1 D1 = true) (hB2 : FewS N2 D2 = true) (h200 : ¬ 200 < K.length) (f1 f2 j1 j2 : Bool) (hf1 : (hasN 100 N1 && frmT N1 D1) = f1) (hf2 : (hasN 100 N2 && frmT N2 D2) = f2) (hj1 : inJS N1 = j1) (hj2 : inJS N2 = j2) (h : f1 = false ∨ f2 = false ∨ j1 = true ∨ j2 = true) :
    Calls Try.prog 4 #[tv1, tv2, .int .u8 b, kv, .int .u8 a] w fun e w' => e = .returned (.bool true) ∧ Below w.heap.size w w' := by
  have ht1' := ht1
  have ht2' := ht2
  obtain ⟨no1, nc1, ao1, dc1, rfl, hN1, hD1⟩ := ht1
  obtain ⟨no2, nc2, ao2, dc2, rfl, hN2, hD2⟩ := ht2
  have l1 : N1.length ≤ 60 := by
    unfold FewS at hB1
    rw [Bool.and_eq_true, decide_eq_true_eq] at hB1
    exact hB1.2
  have l2 : N2.length ≤ 60 := by
    unfold FewS at hB2
    rw [Bool.and_eq_true, decide_eq_true_eq] at hB2
    exact hB2.2
  have KF1 := Lib.hid (fun W (hb : Below w.heap.size w W) => Few9_is (ht1'.below hb) hr1 true hB1)
  have KF2 := Lib.hid (fun W (hb : Below w.heap.size w W) => Few9_is (ht2'.below hb) hr2 true hB2)
  have KT1 := Lib.hid (fun W (hb : Below w.heap.size w W) => show Calls Try.prog 10 #[.agg #[.int .u32 q1, .slice no1 N1.length nc1, .slice ao1 D1.length dc1], .int .i64 100] W fun e w' => e = .returned (.bool f1) ∧ Below W.heap.size W w' from fits10_is (ht1'.below hb) (by omega) 100 f1 hf1)
  have KT2 := Lib.hid (fun W (hb : Below w.heap.size w W) => show Calls Try.prog 10 #[.agg #[.int .u32 q2, .slice no2 N2.length nc2, .slice ao2 D2.length dc2], .int .i64 100] W fun e w' => e = .returned (.bool f2) ∧ Below W.heap.size W w' from fits10_is (ht2'.below hb) (by omega) 100 f2 hf2)
  have KJ1 := Lib.hid (fun W (hb : Below w.heap.size w W) => inJ10_is (ht1'.below hb) (by omega) j1 hj1)
  have KJ2 := Lib.hid (fun W (hb : Below w.heap.size w W) => inJ10_is (ht2'.below hb) (by omega) j2 hj2)
  obtain ⟨ko, kc, rfl⟩ := hk.shape
  obtain ⟨kl, hkl⟩ : ∃ kl, kl = K.length := ⟨_, rfl⟩
  obtain ⟨n1, hn1⟩ : ∃ n, n = N1.length := ⟨_, rfl⟩
  obtain ⟨m1, hm1⟩ : ∃ m, m = D1.length := ⟨_, rfl⟩
  obtain ⟨n2, hn2⟩ : ∃ n, n = N2.length := ⟨_, rfl⟩
  obtain ⟨m2, hm2⟩ : ∃ m, m = D2.length := ⟨_, rfl⟩
  rw [← hn1, ← hm1] at KF1 KT1 KJ1 ⊢
  rw [← hn2, ← hm2] at KF2 KT2 KJ2 ⊢
  rw [← hkl] at h200 ⊢
  have i200 : ¬ (200 : Int) < (kl : Int) := by omega
  have hbx := below_box w (.cells #[.int .u32 q1, .slice no1 n1 nc1, .slice ao1 m1 dc1] 26)
  have hnx := heap_alloc_new w (.cells #[.int .u32 q1, .slice no1 n1 nc1, .slice ao1 m1 dc1] 26)
  have hsx : (w.alloc (.cells #[.int .u32 q1, .slice no1 n1 nc1, .slice ao1 m1 dc1] 26)).heap.size = w.heap.size + 1 := by simp
  have hby := below_box (w.alloc (.cells #[.int .u32 q1, .slice no1 n1 nc1, .slice ao1 m1 dc1] 26)) (.cells #[.int .u32 q2, .slice no2 n2 nc2, .slice ao2 m2 dc2] 26)
  have hny := heap_alloc_new (w.alloc (.cells #[.int .u32 q1, .slice no1 n1 nc1, .slice ao1 m1 dc1] 26)) (.cells #[.int .u32 q2, .slice no2 n2 nc2, .slice ao2 m2 dc2] 26)
  clear hN1 hD1 hN2 hD2 hn1 hm1 hn2 hm2 ht1' ht2' hr1 hr2 hkl hB1 hB2 hf1 hf2 hj1 hj2 l1 l2 h200 hk
  go_enter Try.func4, Try.ntmps4
  go_upto_region 1 with (fail)
  rw [hsx] at hny hby
  have hno := (hby.block w.heap.size (by omega)).trans hnx
  have hb2 := hbx.trans (hby.mono (Nat.le_succ _))
  generalize (w.alloc (.cells #[.int .u32 q1, .slice no1 n1 nc1, .slice ao1 m1 dc1] 26)).alloc (.cells #[.int .u32 q2, .slice no2 n2 nc2, .slice ao2 m2 dc2] 26) = u at hno hny hb2 ⊢
  obtain ⟨d, hd⟩ : ∃ d, d = w.heap.size := ⟨_, rfl⟩
  rw [← hd] at hno hny ⊢
  obtain ⟨f, hf⟩ : ∃ f, f = d + 1 := ⟨_, rfl⟩
  rw [← hf] at hny ⊢
  have HDF : Hid (d = w.heap.size ∧ f = d + 1) := Lib.hid ⟨hd, hf⟩
  have R2 := Lib.hid (fun W (h : Below u.heap.size u W) => And.intro ((h.block d (Array.getElem?_eq_some_iff.1 hno).1).trans hno) ((h.block f (Array.getElem?_eq_some_iff.1 hny).1).trans hny))
  have C6 := Lib.hid (fun W (h : Below u.heap.size u W) => six_cells (R2.out W h).1 (R2.out W h).2)
  have HBT := Lib.hid (fun W (h : Below u.heap.size u W) => hb2.trans (h.mono hb2.size))
  clear hbx hnx hsx hby hny hno hb2 hd hf
  cases f1
  · clear h
    go_wp2_with (first
      | (go_at_call 6; (with_reducible refine (awake10_any u).mono ?_); rintro e w1 ⟨rfl, hb1⟩
         have HU1 := Lib.hid hb1
         obtain ⟨xa0, xa1, xa2, xa3, xa4, xa5⟩ := C6.out _ HU1.out
         clear hb1)
      | (go_at_call 7; (with_reducible refine (KF1.out w1 (HBT.out _ HU1.out)).mono ?_); rintro e w2 ⟨rfl, hb2⟩
         have HU2 := Lib.hid (HU1.out.trans (hb2.mono HU1.out.size))
         clear xa0 xa1 xa2 xa3 xa4 xa5
         obtain ⟨xb0, xb1, xb2, xb3, xb4, xb5⟩ := C6.out _ HU2.out
         clear hb2)
      | (go_at_call 7; (with_reducible refine (KF2.out w2 (HBT.out _ HU2.out)).mono ?_); rintro e w3 ⟨rfl, hb3⟩
         have HU3 := Lib.hid (HU2.out.trans (hb3.mono HU2.out.size))
         clear xb0 xb1 xb2 xb3 xb4 xb5
         obtain ⟨xc0, xc1, xc2, xc3, xc4, xc5⟩ := C6.out _ HU3.out
         clear hb3)
      | (go_at_call 10; (with_reducible refine (KT1.out w3 (HBT.out _ HU3.out)).mono ?_); rintro e w4 ⟨rfl, hb4⟩
         have HU4 := Lib.hid (HU3.out.trans (hb4.mono HU3.out.size))
         clear xc0 xc1 xc2 xc3 xc4 xc5
         obtain ⟨xd0, xd1, xd2, xd3, xd4, xd5⟩ := C6.out _ HU4.out
         clear hb4))
    go_ret
    exact ⟨rfl, HBT.out _ HU4.out⟩
  · cases f2
    · clear h
      go_wp2_with (first
        | (go_at_call 6; (with_reducible refine (awake10_any u).mono ?_); rintro e w1 ⟨rfl, hb1⟩
           have HU1 := Lib.hid hb1
           obtain ⟨xa0, xa1, xa2, xa3, xa4, xa5⟩ := C6.out _ HU1.out
           clear hb1)
        | (go_at_call 7; (with_reducible refine (KF1.out w1 (HBT.out _ HU1.out)).mono ?_); rintro e w2 ⟨rfl, hb2⟩
           have HU2 := Lib.hid (HU1.out.trans (hb2.mono HU1.out.size))
           clear xa0 xa1 xa2 xa3 xa4 xa5
           obtain ⟨xb0, xb1, xb2, xb3, xb4, xb5⟩ := C6.out _ HU2.out
           clear hb2)
        | (go_at_call 7; (with_reducible refine (KF2.out w2 (HBT.out _ HU2.out)).mono ?_); rintro e w3 ⟨rfl, hb3⟩
           have HU3 := Lib.hid (HU2.out.trans (hb3.mono HU2.out.size))
           clear xb0 xb1 xb2 xb3 xb4 xb5
           obtain ⟨xc0, xc1, xc2, xc3, xc4, xc5⟩ := C6.out _ HU3.out
           clear hb3)
        | (go_at_call 10; (with_reducible refine (KT1.out w3 (HBT.out _ HU3.out)).mono ?_); rintro e w4 ⟨rfl, hb4⟩
           have HU4 := Lib.hid (HU3.out.trans (hb4.mono HU3.out.size))
           clear xc0 xc1 xc2 xc3 xc4 xc5
           obtain ⟨xd0, xd1, xd2, xd3, xd4, xd5⟩ := C6.out _ HU4.out
           clear hb4)
        | (go_at_call 10; (with_reducible refine (KT2.out w4 (HBT.out _ HU4.out)).mono ?_); rintro e w5 ⟨rfl, hb5⟩
           have HU5 := Lib.hid (HU4.out.trans (hb5.mono HU4.out.size))
           clear xd0 xd1 xd2 xd3 xd4 xd5
           obtain ⟨xe0, xe1, xe2, xe3, xe4, xe5⟩ := C6.out _ HU5.out
           clear hb5))
      go_ret
      exact ⟨rfl, HBT.out _ HU5.out⟩
    · cases j1
      · cases j2
        · rcases h with h | h | h | h <;> cases h
        · clear h
          go_wp2_with (first
            | (go_at_call 6; (with_reducible refine (awake10_any u).mono ?_); rintro e w1 ⟨rfl, hb1⟩
               have HU1 := Lib.hid hb1
               obtain ⟨xa0, xa1, xa2, xa3, xa4, xa5⟩ := C6.out _ HU1.out
               clear hb1)
            | (go_at_call 7; (with_reducible refine (KF1.out w1 (HBT.out _ HU1.out)).mono ?_); rintro e w2 ⟨rfl, hb2⟩
               have HU2 := Lib.hid (HU1.out.trans (hb2.mono HU1.out.size))
               clear xa0 xa1 xa2 xa3 xa4 xa5
               obtain ⟨xb0, xb1, xb2, xb3, xb4, xb5⟩ := C6.out _ HU2.out
               clear hb2)
            | (go_at_call 7; (with_reducible refine (KF2.out w2 (HBT.out _ HU2.out)).mono ?_); rintro e w3 ⟨rfl, hb3⟩
               have HU3 := Lib.hid (HU2.out.trans (hb3.mono HU2.out.size))
               clear xb0 xb1 xb2 xb3 xb4 xb5
               obtain ⟨xc0, xc1, xc2, xc3, xc4, xc5⟩ := C6.out _ HU3.out
               clear hb3)
            | (go_at_call 10; (with_reducible refine (KT1.out w3 (HBT.out _ HU3.out)).mono ?_); rintro e w4 ⟨rfl, hb4⟩
               have HU4 := Lib.hid (HU3.out.trans (hb4.mono HU3.out.size))
               clear xc0 xc1 xc2 xc3 xc4 xc5
               obtain ⟨xd0, xd1, xd2, xd3, xd4, xd5⟩ := C6.out _ HU4.out
               clear hb4)
            | (go_at_call 10; (with_reducible refine (KT2.out w4 (HBT.out _ HU4.out)).mono ?_); rintro e w5 ⟨rfl, hb5⟩
               have HU5 := Lib.hid (HU4.out.trans (hb5.mono HU4.out.size))
               clear xd0 xd1 xd2 xd3 xd4 xd5
               obtain ⟨xe0, xe1, xe2, xe3, xe4, xe5⟩ := C6.out _ HU5.out
               clear hb5)
            | (go_at_call 20; (with_reducible refine (KJ1.out w5 (HBT.out _ HU5.out)).mono ?_); rintro e w6 ⟨rfl, hb6⟩
               have HU6 := Lib.hid (HU5.out.trans (hb6.mono HU5.out.size))
               clear xe0 xe1 xe2 xe3 xe4 xe5
               obtain ⟨xf0, xf1, xf2, xf3, xf4, xf5⟩ := C6.out _ HU6.out
               clear hb6)
            | (go_at_call 20; (with_reducible refine (KJ2.out w6 (HBT.out _ HU6.out)).mono ?_); rintro e w7 ⟨rfl, hb7⟩
               have HU7 := Lib.hid (HU6.out.trans (hb7.mono HU6.out.size))
               clear xf0 xf1 xf2 xf3 xf4 xf5
               clear hb7))
          go_ret
          exact ⟨rfl, HBT.out _ HU7.out⟩
      · clear h
        go_wp2_with (first
          | (go_at_call 6; (with_reducible refine (awake10_any u).mono ?_); rintro e w1 ⟨rfl, hb1⟩
             have HU1 := Lib.hid hb1
             obtain ⟨xa0, xa1, xa2, xa3, xa4, xa5⟩ := C6.out _ HU1.out
             clear hb1)
          | (go_at_call 7; (with_reducible refine (KF1.out w1 (HBT.out _ HU1.out)).mono ?_); rintro e w2 ⟨rfl, hb2⟩
             have HU2 := Lib.hid (HU1.out.trans (hb2.mono HU1.out.size))
             clear xa0 xa1 xa2 xa3 xa4 xa5
             obtain ⟨xb0, xb1, xb2, xb3, xb4, xb5⟩ := C6.out _ HU2.out
             clear hb2)
          | (go_at_call 7; (with_reducible refine (KF2.out w2 (HBT.out _ HU2.out)).mono ?_); rintro e w3 ⟨rfl, hb3⟩
             have HU3 := Lib.hid (HU2.out.trans (hb3.mono HU2.out.size))
             clear xb0 xb1 xb2 xb3 xb4 xb5
             obtain ⟨xc0, xc1, xc2, xc3, xc4, xc5⟩ := C6.out _ HU3.out
             clear hb3)
          | (go_at_call 10; (with_reducible refine (KT1.out w3 (HBT.out _ HU3.out)).mono ?_); rintro e w4 ⟨rfl, hb4⟩
             have HU4 := Lib.hid (HU3.out.trans (hb4.mono HU3.out.size))
             clear xc0 xc1 xc2 xc3 xc4 xc5
             obtain ⟨xd0, xd1, xd2, xd3, xd4, xd5⟩ := C6.out _ HU4.out
             clear hb4)
          | (go_at_call 10; (with_reducible refine (KT2.out w4 (HBT.out _ HU4.out)).mono ?_); rintro e w5 ⟨rfl, hb5⟩
             have HU5 := Lib.hid (HU4.out.trans (hb5.mono HU4.out.size))
             clear xd0 xd1 xd2 xd3 xd4 xd5
             obtain ⟨xe0, xe1, xe2, xe3, xe4, xe5⟩ := C6.out _ HU5.out
             clear hb5)
          | (go_at_call 20; (with_reducible refine (KJ1.out w5 (HBT.out _ HU5.out)).mono ?_); rintro e w6 ⟨rfl, hb6⟩
             have HU6 := Lib.hid (HU5.out.trans (hb6.mono HU5.out.size))
             clear xe0 xe1 xe2 xe3 xe4 xe5
             obtain ⟨xf0, xf1, xf2, xf3, xf4, xf5⟩ := C6.out _ HU6.out
             clear hb6))
        go_ret
        exact ⟨rfl, HBT.out _ HU6.out⟩
end Go.Proofs.Ytpjmnmkdegkfcaa

