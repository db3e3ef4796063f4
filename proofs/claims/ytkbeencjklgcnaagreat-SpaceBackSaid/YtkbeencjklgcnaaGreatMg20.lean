/- Layer 12's reference: Super. -/
import Derived.Deep.Cut
import Derived.Laws.StructEq
import Derived.Deep.RegionHeld3
import Derived.Test.YtkbeencjklgcnaaGreatMg11
import Derived.Test.YtkbeencjklgcnaaGreatMg18
import Derived.Test.YtkbeencjklgcnaaGreatMg19
import Derived.Test.YtkbeencjklgcnaaGreatMg5
import Derived.Test.YtkbeencjklgcnaaGreatMg7
namespace Go.Proofs.YtkbeencjklgcnaaGreat
set_option maxRecDepth 100000
open Go.RowKit
set_option linter.unusedVariables false

/-- The table, the blocks below k being seen. -/
def tblL (k : Nat) : List Int := (List.range 6).map fun i => if 43 + i < k then ((43 + i : Nat) : Int) else 0
def supL (n : Int) (k : Nat) : List Int := [n, 0, 0, 0, 0, 0] ++ tblL k
theorem supL_length (n : Int) (k : Nat) : (supL n k).length = 12 := by simp [supL, tblL]
theorem supL_set (n : Int) {k t : Nat} (h : k = 43 + t) (ht : t < 6) : (supL n k).set (6 + t) (k : Int) = supL n (k + 1) := by
  unfold supL
  rw [List.set_append_right _ _ (by simp)]
  congr 1
  apply List.ext_getElem (by simp [tblL])
  intro i h1 h2
  simp only [tblL, List.getElem_set, List.getElem_map, List.getElem_range, List.length_cons, List.length_nil]
  by_cases e : 6 + t - 6 = i
  · rw [if_pos (by omega), if_pos (by omega), h]; omega
  · rw [if_neg (by omega)]
    by_cases hc : 43 + i < k
    · rw [if_pos hc, if_pos (by omega)]
    · rw [if_neg hc, if_neg (by omega)]
theorem supL_same (n : Int) {k : Nat} (h : k < 43 ∨ 49 ≤ k) : supL n k = supL n (k + 1) := by
  unfold supL tblL
  congr 1
  apply List.map_congr_left
  intro i hi
  have := List.mem_range.1 hi
  by_cases hc : 43 + i < k
  · rw [if_pos hc, if_pos (by omega)]
  · rw [if_neg hc, if_neg (by omega)]
theorem Wrote.none' (w : World) (b : Nat) : Wrote w w b := ⟨rfl, rfl, rfl, rfl, fun _ _ => rfl⟩
theorem Wrote.on {a b c : World} {g : Nat} (h : Wrote a b g) (k : Wrote b c g) : Wrote a c g := ⟨k.1.trans h.1, k.2.1.trans h.2.1, k.2.2.1.trans h.2.2.1, k.2.2.2.1.trans h.2.2.2.1, fun x hx => (k.2.2.2.2 x hx).trans (h.2.2.2.2 x hx)⟩
theorem intsOne (L : List Int) : (L.map (Value.int .i64)).toArray.all (·.oneCell') = true := by
  rw [Array.all_eq_true']
  intro v hv
  simp at hv
  obtain ⟨x, _, rfl⟩ := hv
  rfl
theorem infoRS : (Tryz.prog.info? 98).map (·.size) = some 12 := by kernel_rfl
/-- A new Space, its row and its cells. -/
theorem rSpNew_at {kk : Nat} (h1 : 1 ≤ kk) (h2 : kk ≤ 12) (w : World) : Calls Tryz.prog 10 #[.int .i64 (64 * (kk : Int))] w fun e w' => ∃ b g cap M, e = .returned (.pointer (some ⟨b, 0, none⟩)) ∧ RSp w' M (.pointer (some ⟨b, 0, none⟩)) (64 * (kk : Int)) (newO kk) ∧ w'.cell? ⟨b, 1, none⟩ = some (.slice (some ⟨g, 0, none⟩) (64 * kk) cap) ∧ w.heap.size ≤ b ∧ w.heap.size ≤ g ∧ (∀ x, M x → w.heap.size ≤ x) ∧ b < w'.heap.size ∧ g < w'.heap.size ∧ 64 * kk ≤ cap ∧
    (∀ j, j < 64 * kk → w'.cell? ⟨g, j * 2, none⟩ = some (.int .u16 (tabJ (64 * kk) j).1) ∧ w'.cell? ⟨g, j * 2 + 1, none⟩ = some (.int .u16 (tabJ (64 * kk) j).2)) ∧ Below w.heap.size w w' := by
  refine (rSpNew_is h1 h2 w).mono fun e w' ⟨p, M, he, hR, hM, hb⟩ => ?_
  have hl : (newO kk).length = 64 * kk := tabN_length _ _
  have hR' := hR
  obtain ⟨b, v, rfl, _⟩ := hR'
  obtain ⟨g, cap, cur, r1, r2, r3, r4, r5, r6, r7, r8⟩ := hR.all (by rw [hl]; omega)
  refine ⟨b, g, cap, M, he, hR, by rw [cell_of_row _ _ _ _ _ _ r1, hl]; rfl, hM b ((r7 b).2 (.inl rfl)), hM g ((r7 g).2 (.inr rfl)), hM, (Array.getElem?_eq_some_iff.1 r1).1, (Array.getElem?_eq_some_iff.1 r2).1, by omega, fun j hj => ?_, hb⟩
  have := r8 j (by rw [hl]; exact hj)
  rwa [show (newO kk).getD j (0, 0) = tabJ (64 * kk) j from tabN_getD _ _ _ hj] at this
theorem rSuper_is {kk : Nat} (h1 : 1 ≤ kk) (h2 : kk ≤ 12) (w : World) : Calls Tryz.prog 57 #[.int .i64 (64 * (kk : Int))] w fun e w' => e = .returned (supV (supL (64 * (kk : Int)) (64 * kk))) ∧ Below w.heap.size w w' := by
  have KN := Lib.hid (fun (W : World) => rSpNew_at h1 h2 W)
  go_enter Tryz.func57, Tryz.ntmps57
  go_upto_region 2 with (fail)
  obtain ⟨a, ha⟩ : ∃ a, a = w.heap.size := ⟨_, rfl⟩
  have hb1 := (below_box w (supO (List.replicate 12 0) 98)).trans ((below_box (w.alloc (supO (List.replicate 12 0) 98)) (supO (supL (64 * (kk : Int)) 0) 98)).mono (below_box w (supO (List.replicate 12 0) 98)).size)
  have hr0 : ((w.alloc (supO (List.replicate 12 0) 98)).alloc (supO (supL (64 * (kk : Int)) 0) 98)).heap[w.heap.size]? = some (supO (List.replicate 12 0) 98) := below_hold (heap_alloc_new w _) (below_box _ _)
  have hr1 : ((w.alloc (supO (List.replicate 12 0) 98)).alloc (supO (supL (64 * (kk : Int)) 0) 98)).heap[w.heap.size + 1]? = some (supO (supL (64 * (kk : Int)) 0) 98) := by
    have := heap_alloc_new (w.alloc (supO (List.replicate 12 0) 98)) (supO (supL (64 * (kk : Int)) 0) 98)
    simpa using this
  obtain ⟨W1, hW1⟩ : ∃ W1, W1 = (w.alloc (supO (List.replicate 12 0) 98)).alloc (supO (supL (64 * (kk : Int)) 0) 98) := ⟨_, rfl⟩
  rw [← hW1] at hb1 hr0 hr1
  rw [show (w.alloc (Obj.cells #[.int .i64 0, .int .i64 0, .int .i64 0, .int .i64 0, .int .i64 0, .int .i64 0, .int .i64 0, .int .i64 0, .int .i64 0, .int .i64 0, .int .i64 0, .int .i64 0] 98)).alloc (Obj.cells #[.int .i64 (64 * (kk : Int)), .int .i64 0, .int .i64 0, .int .i64 0, .int .i64 0, .int .i64 0, .int .i64 0, .int .i64 0, .int .i64 0, .int .i64 0, .int .i64 0, .int .i64 0] 98) = W1 from hW1.symm]
  rw [← ha] at hb1 hr0 hr1 ⊢
  have hsz : a + 1 < W1.heap.size := (Array.getElem?_eq_some_iff.1 hr1).1
  obtain ⟨L, hL⟩ : ∃ L, L = 64 * kk := ⟨_, rfl⟩
  have hL768 : L ≤ 768 := by omega
  have hL64 : 64 ≤ L := by omega
  have HL := Lib.hid hL
  have HA := Lib.hid ha
  rw [← hL] at KN
  have HR0 := Lib.hid hr0
  have HR1 := Lib.hid hr1
  have HB1 := Lib.hid hb1
  clear hr0 hr1 hb1 hW1 ha hL
  go_wp2_with (go_at_call 10; refine (KN.out _).mono ?_; rintro e w2 ⟨b, g, cap, M, rfl, hR, c1, hab, hag, hM, hbl, hgl, hcap, hcc, hb2⟩)
  have HRS0 : Hid (w2.heap[a]? = some (supO (List.replicate 12 0) 98)) := Lib.hid (below_hold HR0.out hb2)
  have HRS1 : Hid (w2.heap[a + 1]? = some (supO (supL (64 * (kk : Int)) 0) 98)) := Lib.hid (below_hold HR1.out hb2)
  have HB2 : Hid (Below a w w2) := Lib.hid (HB1.out.trans (hb2.mono (by omega)))
  have HCC := Lib.hid hcc
  have hga : a + 1 < g := by omega
  clear hR c1 hM hcc hb2 hab hag hbl HR0 HR1 HB1 hsz
  go_loopw [15] (fun i wr => ∃ k : Nat, k ≤ L ∧ i = .int .i64 k ∧ Hid (wr.heap[a + 1]? = some (supO (supL (64 * (kk : Int)) k) 98)) ∧ Hid (Wrote w2 wr (a + 1))) (fun i _ => L - (intOf i).toNat)
  case atStart => exact ⟨0, by omega, rfl, HRS1, Lib.hid (Wrote.none' _ _)⟩
  case round =>
    obtain ⟨k, hk, rfl, HS, HW⟩ := hrel
    clear HRS1
    by_cases hlt : k < L
    · obtain ⟨k0, k1⟩ := HCC.out k hlt
      have ekL : (k : Int) < (L : Int) := by omega
      have c0 := (World.cell?_of_block (a := ⟨g, k * 2, none⟩) (HW.out.2.2.2.2 g (by omega))).trans k0
      have c1 := (World.cell?_of_block (a := ⟨g, k * 2 + 1, none⟩) (HW.out.2.2.2.2 g (by omega))).trans k1
      by_cases hm : 43 ≤ k ∧ k < 49
      · obtain ⟨t, ht⟩ : ∃ t : Nat, t = k - 43 := ⟨_, rfl⟩
        have hk43 : k = 43 + t := by omega
        have ht6 : t < 6 := by omega
        have et6 : (t : Int) < 6 := by omega
        have eT : tabJ L k = (65534, (t : Int)) := by
          unfold tabJ
          rw [(fix_tab (j := k)).2 hm.1 hm.2, if_neg (by decide), if_pos (by omega)]
          congr 1; omega
        rw [eT] at c0 c1
        have hset := supL_set (64 * (kk : Int)) hk43 ht6
        have hf := frozen_of_row wr (a + 1) (6 + t) _ _ HS.out
        have hcs := sup_cell HS.out (6 + t) (by rw [supL_length]; omega)
        have HS2 : (wr.setCell ⟨a + 1, 6 + t, none⟩ (.int .i64 k)).heap[a + 1]? = _ := heap_setCell_same wr (a + 1) (6 + t) _ _ _ HS.out
        have HX : Hid ((wr.setCell ⟨a + 1, 6 + t, none⟩ (.int .i64 k)).heap[a + 1]? = some (supO (supL (64 * (kk : Int)) (k + 1)) 98)) := Lib.hid (by
          rw [HS2, ← hset]; unfold supO
          rw [List.setIfInBounds_toArray, List.map_set])
        have HY : Hid (Wrote w2 (wr.setCell ⟨a + 1, 6 + t, none⟩ (.int .i64 k)) (a + 1)) := Lib.hid (HW.out.on (Wrote.setCell wr (a + 1) (6 + t) _))
        clear k0 k1 eT hset HS2 ht hm hk43
        go_wp2
        generalize wr.setCell ⟨a + 1, 6 + t, none⟩ (.int .i64 k) = Y at HX HY ⊢
        go_roundw
        case rel => exact ⟨k + 1, by omega, by go_num, HX, HY⟩
        case measure => simp [intOf]; omega
      · have hne : (tabJ L k).1 ≠ 65534 := by
          unfold tabJ
          split
          · decide
          · rw [if_neg (by omega)]; decide
        have hxb : ((tabJ L k).1 == 65534) = false := by simpa using hne
        have HX : Hid (wr.heap[a + 1]? = some (supO (supL (64 * (kk : Int)) (k + 1)) 98)) := Lib.hid (by rw [← supL_same _ (show k < 43 ∨ 49 ≤ k by omega)]; exact HS.out)
        obtain ⟨x, hx⟩ : ∃ x, x = (tabJ L k).1 := ⟨_, rfl⟩
        rw [← hx] at c0 hxb
        clear k0 k1 hne hm hx HS
        go_wp2
        go_roundw
        case rel => exact ⟨k + 1, by omega, by go_num, HX, HW⟩
        case measure => simp [intOf]; omega
    · obtain rfl : k = L := by omega
      have hs : wr.heap[a + 1]? = some (.cells ((supL (64 * (kk : Int)) k).map (Value.int .i64)).toArray 98 (0, 0)) := HS.out
      have hb : Below a w wr := HB2.out.trans (HW.out.below (by omega))
      have hr0 : wr.heap[a]? = some (.cells ((List.replicate 12 (0 : Int)).map (Value.int .i64)).toArray 98 (0, 0)) := by rw [HW.out.2.2.2.2 a (by omega)]; exact HRS0.out
      have HBE := Lib.hid hb
      have HLL : Hid (k = 64 * kk) := HL
      clear hb HS HW
      go_wp2_with (first
        | (with_reducible refine wpList_load_row rfl 98 (.tmp 3) rfl (a + 1) rfl 98 _ (0, 0) _ hs Tryz.underlying98 rfl (by rw [infoRS]; simp [supL_length]) ?_)
        | (with_reducible refine wpList_store_row rfl 98 (.tmp 2) (.tmp 33) rfl a ((supL (64 * (kk : Int)) k).map (Value.int .i64)).toArray rfl rfl 98 _ hr0 (by rw [infoRS]; simp [supL_length]) (by simp [supL_length]) (intsOne _) ?_))
      have hw5 := Wrote.setRow wr a ((supL (64 * (kk : Int)) k).map (Value.int .i64)).toArray
      have hr5 : (wr.setRow a ((supL (64 * (kk : Int)) k).map (Value.int .i64)).toArray).heap[a]? = _ := setRow_heap _ _ _ _ _ _ hr0
      refine bodyPost_ret (results_cell_row rfl _ _ a 98 _ (0, 0) _ rfl hr5 Tryz.underlying98 rfl (by rw [infoRS]; simp [supL_length])) rfl ⟨?_, ?_⟩
      · rw [← HLL.out]; rfl
      · have := HBE.out.trans (hw5.below (Nat.le_refl _))
        rw [← HA.out]; exact this
end Go.Proofs.YtkbeencjklgcnaaGreat

/- Contract: the reference's EncodeDesc. -/
namespace Go.Proofs.YtkbeencjklgcnaaGreat
set_option maxRecDepth 100000
open Go.RowKit BM
set_option linter.unusedVariables false

theorem rrEnc_no {w : World} {v : Value} {L : List Bool} (hk : KSl w v L) (g : Int) (h : ¬ (0 ≤ g ∧ g < 12 ∧ L.length = 64)) : Calls Tryz.prog 54 #[.agg #[.int .i64 g, v]] w fun e w' => e = .returned (.tuple #[.slice none 0 0, .int .i64 1]) ∧ Below w.heap.size w w' := by
  obtain ⟨ao, cap, rfl⟩ := hk.shape
  obtain ⟨n, hn⟩ : ∃ n, n = L.length := ⟨_, rfl⟩
  rw [← hn] at h ⊢
  have hb := below_box w (.cells #[.int .i64 g, .slice ao n cap] 92)
  clear hk hn
  by_cases g0 : g < 0
  · go_enter Tryz.func54, Tryz.ntmps54
    go_wp2
    go_ret2
    exact ⟨rfl, hb⟩
  · by_cases g1 : 11 < g
    · clear h
      go_enter Tryz.func54, Tryz.ntmps54
      go_wp2
      go_ret2
      exact ⟨rfl, hb⟩
    · have hne : ((n : Int) != 64) = true := by simp; omega
      clear h
      go_enter Tryz.func54, Tryz.ntmps54
      go_wp2
      go_ret2
      exact ⟨rfl, hb⟩
theorem rPut2 {w : World} {v : Value} {l : List Int} (hs : BSl w v l) (hl : l.length ≤ 1000) (x : Int) (h0 : 0 ≤ x) (h1 : x ≤ 65535) : Calls Tryz.prog 86 #[v, .int .u64 x, .int .i64 2] w (NewB w (l ++ lowB x 2)) :=
  rPut_at hs (by omega) x 2 2 (by omega) (by omega) rfl h0 (by omega)
set_option maxHeartbeats 1000000 in
theorem rrEnc_yes {w : World} {v : Value} {L : List Bool} (hk : KSl w v L) (g : Int) (h1 : 0 ≤ g) (h2 : g < 12) (hL : L.length = 64) :
    Calls Tryz.prog 54 #[.agg #[.int .i64 g, v]] w fun e w' => ∃ v, e = .returned (.tuple #[v, .int .i64 0]) ∧ OB w' w.heap.size v (descS g L) ∧ Below w.heap.size w w' := by
  obtain ⟨ao, cap, rfl⟩ := hk.shape
  rw [hL] at hk ⊢
  have hb1 : Below w.heap.size w ((w.alloc (.cells #[.int .i64 g, .slice ao 64 cap] 92)).alloc (.cells #[.slice ao 64 cap] 130)) := ((Below.refl _ _).alloc (Nat.le_refl _) _).alloc (by simp) _
  have hd1 := heap_alloc2_old w (.cells #[.int .i64 g, .slice ao 64 cap] 92) (.cells #[.slice ao 64 cap] 130)
  have hq1 := heap_alloc2_new w (.cells #[.int .i64 g, .slice ao 64 cap] 92) (.cells #[.slice ao 64 cap] 130)
  obtain ⟨w1, hw1⟩ : ∃ w1, w1 = (w.alloc (.cells #[.int .i64 g, .slice ao 64 cap] 92)).alloc (.cells #[.slice ao 64 cap] 130) := ⟨_, rfl⟩
  rw [← hw1] at hb1 hd1 hq1
  have HW1 := Lib.hid hw1
  have HK := Lib.hid (hk.below hb1)
  have hcb := countB_le L
  obtain ⟨C, hC⟩ : ∃ C, C = countB L := ⟨_, rfl⟩
  rw [← hC, hL] at hcb
  have HC := Lib.hid hC
  have HL := Lib.hid hL
  have hlq : w.heap.size + 1 < w1.heap.size := (Array.getElem?_eq_some_iff.1 hq1).1
  have c0 : w1.cell? ⟨w.heap.size, 0, none⟩ = some (.int .i64 g) := by rw [cell_of_row _ _ _ _ _ _ hd1]; rfl
  have HQ := Lib.hid (show w1.cell? ⟨w.heap.size + 1, 0, none⟩ = some (.slice ao 64 cap) by rw [cell_of_row _ _ _ _ _ _ hq1]; rfl)
  have kc := fun (w : World) (C : Array Value) (n c : Nat) => Lib.run_convert_bytes_const (P := Tryz.prog) w 62 5 C n c Tryz.underlying62 Tryz.underlying5
  have g0 : ¬ g < 0 := by omega
  have g1 : ¬ 11 < g := by omega
  clear hk hC hL hd1 hq1 hw1
  go_enter Tryz.func54, Tryz.ntmps54
  go_upto_region 4 with (fail)
  rw [← HW1.out]
  obtain ⟨q, hqq⟩ : ∃ q, q = w.heap.size + 1 := ⟨_, rfl⟩
  rw [← hqq] at HQ hlq ⊢
  have hlq0 : w.heap.size < w1.heap.size := by omega
  clear hqq
  go_wp2_with fail
  have hbm := bsl_desc w1
  have hb2 := below_box w1 (.cells #[.int .u8 100, .int .u8 101, .int .u8 115, .int .u8 99] 5 (4, 5))
  generalize w1.alloc (.cells #[.int .u8 100, .int .u8 101, .int .u8 115, .int .u8 99] 5 (4, 5)) = w2 at hbm hb2 ⊢
  have HMG := Lib.hid (rPut2 hbm (by decide) g h1 (by omega))
  clear hbm kc
  go_wp2_with (first
    | (go_at_call 86; (with_reducible refine HMG.out.mono ?_); rintro e w4 ⟨v4, rfl, hob4, hb4⟩
       have hb14 : Below w1.heap.size w1 w4 := hb2.trans (hb4.mono hb2.size)
       have hq4 := (hb14.cell (p := ⟨q, 0, none⟩) hlq).trans HQ.out)
    | (go_at_call 87; refine (rCount_k hq4 (HK.out.below hb14) (by rw [HL.out]; decide)).mono ?_; rw [← HC.out]; rintro e w5 ⟨rfl, rfl⟩
       have HP2 := Lib.hid (rPut2 hob4.bsl (by rw [List.length_append, lowB_length]; decide) (C : Int) (by omega) (by omega)))
    | (go_at_call 86; (with_reducible refine HP2.out.mono ?_); rintro e w6 ⟨v6, rfl, hob6, hb6⟩
       have hb16 : Below w1.heap.size w1 w6 := hb14.trans (hb6.mono hb14.size)
       have hq6 := (hb16.cell (p := ⟨q, 0, none⟩) hlq).trans HQ.out)
    | (go_at_call 89; refine (rBytes_k hq6 (Nat.lt_of_lt_of_le hlq hb16.size) (HK.out.below hb16) (by rw [HL.out]; decide) (bytesB L) (rep_bytesB L)).mono ?_; rintro e w7 ⟨v7, rfl, hs7, hb7⟩
       have hb17 : Below w1.heap.size w1 w7 := hb16.trans (hb7.mono hb16.size))
    | (at_builtin
       refine wpList_append_bytes w7 rfl (.tmp 35) (.tmp 37) rfl w1.heap.size _ ([100, 101, 115, 99] ++ lowB g 2 ++ lowB (C : Int) 2) rfl ((hob6.below hb7).more hb14.size) w7 v7 (bytesB L) rfl hs7 (fun _ _ => rfl) (by rw [bytesB_length, HL.out]; simp [lowB_length]) hb17.size ?_
       intro v8 w8 hob8 hb8 _
       have hb18 : Below w1.heap.size w1 w8 := hb17.trans hb8
       have HSE : Hid (Calls Tryz.prog 88 #[v8] w8 (SealOut (descC g L) w8)) := Lib.hid (by rw [descC, ← HC.out]; exact rSeal_yes hob8.bsl (by rw [List.length_append, bytesB_length, HL.out]; simp [lowB_length])))
    | (go_at_call 88; refine HSE.out.mono ?_; rintro e w9 ⟨v9, rfl, hob9, hb9⟩))
  go_ret2
  exact ⟨v9, rfl, hob9.more (Nat.le_trans hb1.size hb18.size), (hb1.trans (hb18.mono hb1.size)).trans (hb9.mono (Nat.le_trans hb1.size hb18.size))⟩
end Go.Proofs.YtkbeencjklgcnaaGreat

/- Two inodes are the same. -/
namespace Go.Proofs.YtkbeencjklgcnaaGreat
set_option maxRecDepth 100000
open Go.RowKit
set_option linter.unusedVariables false

theorem eq_arr10 (p0 p1 p2 p3 p4 p5 p6 p7 p8 p9 q0 q1 q2 q3 q4 q5 q6 q7 q8 q9 : Int) (w : World) :
    (Op.equalIn 9999 101 (.agg #[.int .i64 p0, .int .i64 p1, .int .i64 p2, .int .i64 p3, .int .i64 p4, .int .i64 p5, .int .i64 p6, .int .i64 p7, .int .i64 p8, .int .i64 p9]) (.agg #[.int .i64 q0, .int .i64 q1, .int .i64 q2, .int .i64 q3, .int .i64 q4, .int .i64 q5, .int .i64 q6, .int .i64 q7, .int .i64 q8, .int .i64 q9])).run Tryz.prog w
      = .ok (decide ([p0, p1, p2, p3, p4, p5, p6, p7, p8, p9] = [q0, q1, q2, q3, q4, q5, q6, q7, q8, q9])) w := by
  have u3 := Tryz.underlying3
  have a3 := Tryz.isAgg3
  have z3 := Tryz.sizeOf3
  rw [show (9999 : Nat) = 9998 + 1 from rfl, Op.equalIn]
  simp only [Sem.run_bind, run_underlying Tryz.underlying101, Result.andThen_ok]
  simp only [Std.Legacy.Range.forIn_eq_forIn_range', Std.Legacy.Range.size, Nat.sub_zero, Nat.add_sub_cancel, Nat.div_one, List.range'_succ, List.range'_zero, List.forIn_cons, List.forIn_nil]
  go_simp
  by_cases e0 : p0 = q0
  case neg => (rw [if_neg e0, decide_eq_false e0]; rfl)
  rw [if_pos e0, decide_eq_true e0, Bool.true_and]
  by_cases e1 : p1 = q1
  case neg => (rw [if_neg e1, decide_eq_false e1]; rfl)
  rw [if_pos e1, decide_eq_true e1, Bool.true_and]
  by_cases e2 : p2 = q2
  case neg => (rw [if_neg e2, decide_eq_false e2]; rfl)
  rw [if_pos e2, decide_eq_true e2, Bool.true_and]
  by_cases e3 : p3 = q3
  case neg => (rw [if_neg e3, decide_eq_false e3]; rfl)
  rw [if_pos e3, decide_eq_true e3, Bool.true_and]
  by_cases e4 : p4 = q4
  case neg => (rw [if_neg e4, decide_eq_false e4]; rfl)
  rw [if_pos e4, decide_eq_true e4, Bool.true_and]
  by_cases e5 : p5 = q5
  case neg => (rw [if_neg e5, decide_eq_false e5]; rfl)
  rw [if_pos e5, decide_eq_true e5, Bool.true_and]
  by_cases e6 : p6 = q6
  case neg => (rw [if_neg e6, decide_eq_false e6]; rfl)
  rw [if_pos e6, decide_eq_true e6, Bool.true_and]
  by_cases e7 : p7 = q7
  case neg => (rw [if_neg e7, decide_eq_false e7]; rfl)
  rw [if_pos e7, decide_eq_true e7, Bool.true_and]
  by_cases e8 : p8 = q8
  case neg => (rw [if_neg e8, decide_eq_false e8]; rfl)
  rw [if_pos e8, decide_eq_true e8, Bool.true_and]
  by_cases e9 : p9 = q9
  · rw [if_pos e9, decide_eq_true e9]
  · rw [if_neg e9, decide_eq_false e9]

theorem eqRIno_at (kp lp sp p0 p1 p2 p3 p4 p5 p6 p7 p8 p9 mp kq lq sq q0 q1 q2 q3 q4 q5 q6 q7 q8 q9 mq : Int) (w : World) :
    (Op.equalIn 10000 103 (.agg #[.int .i64 kp, .int .i64 lp, .int .i64 sp, .int .i64 p0, .int .i64 p1, .int .i64 p2, .int .i64 p3, .int .i64 p4, .int .i64 p5, .int .i64 p6, .int .i64 p7, .int .i64 p8, .int .i64 p9, .int .i64 mp]) (.agg #[.int .i64 kq, .int .i64 lq, .int .i64 sq, .int .i64 q0, .int .i64 q1, .int .i64 q2, .int .i64 q3, .int .i64 q4, .int .i64 q5, .int .i64 q6, .int .i64 q7, .int .i64 q8, .int .i64 q9, .int .i64 mq])).run Tryz.prog w
      = .ok (decide ([kp, lp, sp, p0, p1, p2, p3, p4, p5, p6, p7, p8, p9, mp] = [kq, lq, sq, q0, q1, q2, q3, q4, q5, q6, q7, q8, q9, mq])) w := by
  have hq := eq_arr10 p0 p1 p2 p3 p4 p5 p6 p7 p8 p9 q0 q1 q2 q3 q4 q5 q6 q7 q8 q9
  have u3 := Tryz.underlying3
  have a3 := Tryz.isAgg3
  have z3 := Tryz.sizeOf3
  go_simp
  by_cases e : kp = kq
  case neg => (rw [if_neg e, decide_eq_false e]; rfl)
  rw [if_pos e, decide_eq_true e]
  simp only [Bool.true_and]
  clear e
  by_cases e : lp = lq
  case neg => (rw [if_neg e, decide_eq_false e]; rfl)
  rw [if_pos e, decide_eq_true e]
  simp only [Bool.true_and]
  clear e
  by_cases e : sp = sq
  case neg => (rw [if_neg e, decide_eq_false e]; rfl)
  rw [if_pos e, decide_eq_true e]
  simp only [Bool.true_and]
  clear e
  by_cases e : p0 = q0
  case neg => (rw [decide_eq_false e]; rfl)
  rw [decide_eq_true e]
  simp only [Bool.true_and]
  clear e
  by_cases e : p1 = q1
  case neg => (rw [decide_eq_false e]; rfl)
  rw [decide_eq_true e]
  simp only [Bool.true_and]
  clear e
  by_cases e : p2 = q2
  case neg => (rw [decide_eq_false e]; rfl)
  rw [decide_eq_true e]
  simp only [Bool.true_and]
  clear e
  by_cases e : p3 = q3
  case neg => (rw [decide_eq_false e]; rfl)
  rw [decide_eq_true e]
  simp only [Bool.true_and]
  clear e
  by_cases e : p4 = q4
  case neg => (rw [decide_eq_false e]; rfl)
  rw [decide_eq_true e]
  simp only [Bool.true_and]
  clear e
  by_cases e : p5 = q5
  case neg => (rw [decide_eq_false e]; rfl)
  rw [decide_eq_true e]
  simp only [Bool.true_and]
  clear e
  by_cases e : p6 = q6
  case neg => (rw [decide_eq_false e]; rfl)
  rw [decide_eq_true e]
  simp only [Bool.true_and]
  clear e
  by_cases e : p7 = q7
  case neg => (rw [decide_eq_false e]; rfl)
  rw [decide_eq_true e]
  simp only [Bool.true_and]
  clear e
  by_cases e : p8 = q8
  case neg => (rw [decide_eq_false e]; rfl)
  rw [decide_eq_true e]
  simp only [Bool.true_and]
  clear e
  by_cases e : p9 = q9
  case neg => (rw [decide_eq_false e]; rfl)
  rw [decide_eq_true e]
  simp only [Bool.true_and]
  clear e
  by_cases e : mp = mq
  · rw [if_pos e, decide_eq_true e]; rfl
  · rw [if_neg e, decide_eq_false e]; rfl
theorem eqRIno (L M : List Int) (hL : L.length = 14) (hM : M.length = 14) (w : World) : (Op.equalIn 10000 103 (.agg (iC L).toArray) (.agg (iC M).toArray)).run Tryz.prog w = .ok (decide (L = M)) w := by
  match L, hL, M, hM with
  | [kp, lp, sp, p0, p1, p2, p3, p4, p5, p6, p7, p8, p9, mp], _, [kq, lq, sq, q0, q1, q2, q3, q4, q5, q6, q7, q8, q9, mq], _ => exact eqRIno_at kp lp sp p0 p1 p2 p3 p4 p5 p6 p7 p8 p9 mp kq lq sq q0 q1 q2 q3 q4 q5 q6 q7 q8 q9 mq w
theorem wpList_eqRIno {ops : Array Oper} {rest : List Oper} {o : Oper} {a : Act} {w : World} {Q : Exit → Act → World → Prop} (hgd : o.guard = none) (x y : Operand) (ho : o.op = .binOp .eql 103 x y 103)
    (L M : List Int) (hL : L.length = 14) (hM : M.length = 14) (hx : a.eval x = .agg (iC L).toArray) (hy : a.eval y = .agg (iC M).toArray)
    (h : wpList Tryz.prog ops Q rest (a.put o.dst (.bool (decide (L = M)))) w) : wpList Tryz.prog ops Q (o :: rest) a w := by
  refine wpList_plain hgd fun K hK => ?_
  have hg : Tryz.prog.eqGuardType Tryz.prog.depth 103 = false := by kernel_rfl
  unfold Oper.wp execOp
  simp only [ho, hx, hy, Sem.run_bind, run_eqGuard_agg w _ _ _ _ _ _ hg, Result.andThen_ok, run_eql_struct, eqRIno L M hL hM]
  exact hK _ _ h
end Go.Proofs.YtkbeencjklgcnaaGreat

/- Contracts: longest, Formed; the reference's FormedInode; awake of layer 7. -/
namespace Go.Proofs.YtkbeencjklgcnaaGreat
set_option maxRecDepth 100000
open Go.RowKit
set_option linter.unusedVariables false

/-- The greatest size of a kind. -/
def most (kd : Int) : Int := if kd = 3 then 200 else 35328
def zeroI : List Int := [0, 0, 0, 0, 0, 0, 0, 0, 0, 0, 0, 0, 0, 0]
def frmN (kd ln sz mp : Int) (D : List Int) : Bool := decide (1 ≤ kd ∧ kd ≤ 3) && (decide (0 ≤ ln ∧ ln ≤ 200) && (decide (0 ≤ sz ∧ sz ≤ most kd) && (locS D && inB mp)))
/-- Is the inode well formed? -/
def frmI (L : List Int) : Bool := if L.getD 0 0 = 0 then decide (L = zeroI) else frmN (L.getD 0 0) (L.getD 1 0) (L.getD 2 0) (L.getD 13 0) ((L.drop 3).take 10)

theorem run_slice_arr10 (W : World) (a : Addr) : (Instr.sliceAt 101 (.pointer (some a)) none none none).run Tryz.prog W = .ok (.slice (some a) 10 10) W := by
  obtain ⟨i, h2, h3, h4, h5⟩ := info_parts infoI64
  have l10 : Tryz.prog.arrayLen 101 = 10 := by kernel_rfl
  have e10 : Tryz.prog.elem 101 = 3 := by kernel_rfl
  obtain ⟨a1, a2, a3⟩ := a
  simp [Instr.sliceAt, run_underlying Tryz.underlying101, sizeOf, typeInfo, h2, h4, slicedAt, Addr.add, Instr.sureAddr, Instr.sliceBounds, asInt, asIntOf]
end Go.Proofs.YtkbeencjklgcnaaGreat

/- Plain facts on inodes: their bytes, there and back. -/
namespace Go.Proofs.YtkbeencjklgcnaaGreat
set_option maxRecDepth 100000
open Go.RowKit
set_option linter.unusedVariables false

/-- How many bytes number j of an inode has; where they begin. -/
def w7 (j : Nat) : Nat := if j < 2 then 1 else if j = 2 then 4 else 2
def p7 : Nat → Nat
  | 0 => 0
  | j + 1 => p7 j + w7 j
theorem w7_le (j : Nat) : 1 ≤ w7 j ∧ w7 j ≤ 4 := by unfold w7; split <;> (try split) <;> omega
theorem w7_two (j : Nat) : w7 (3 + j) = 2 := by unfold w7; rw [if_neg (by omega), if_neg (by omega)]
theorem p7_two : ∀ j, p7 (3 + j) = 6 + 2 * j
  | 0 => rfl
  | j + 1 => by
    have := p7_two j
    show p7 (3 + j) + w7 (3 + j) = _
    rw [this, w7_two]; omega
theorem p7_in (j : Nat) (hj : j < 14) : p7 j + w7 j ≤ 28 := by
  by_cases h : j < 3
  · have : j = 0 ∨ j = 1 ∨ j = 2 := by omega
    rcases this with rfl | rfl | rfl <;> decide
  · obtain ⟨k, rfl⟩ : ∃ k, j = 3 + k := ⟨j - 3, by omega⟩
    rw [p7_two, w7_two]; omega
theorem p7_end : p7 14 = 28 := rfl
/-- The bytes of an inode's first j numbers; all 32. -/
def con7 (L : List Int) : Nat → List Int
  | 0 => []
  | j + 1 => con7 L j ++ lowB (L.getD j 0) (w7 j)
theorem con7_length (L : List Int) : ∀ j, (con7 L j).length = p7 j
  | 0 => rfl
  | j + 1 => by rw [con7, List.length_append, con7_length L j, lowB_length]; rfl
def enc7 (L : List Int) : List Int := con7 L 14 ++ List.replicate 4 0
theorem enc7_length (L : List Int) : (enc7 L).length = 32 := by rw [enc7, List.length_append, con7_length, List.length_replicate]; rfl
theorem con7_split (L : List Int) (i : Nat) : ∀ j, i < j → ∃ B, con7 L j = con7 L i ++ (lowB (L.getD i 0) (w7 i) ++ B) := by
  intro j
  induction j with
  | zero => intro h; omega
  | succ j ih =>
    intro h
    by_cases e : i = j
    · subst e; exact ⟨[], by rw [con7]; simp⟩
    · obtain ⟨B, hB⟩ := ih (by omega)
      exact ⟨B ++ lowB (L.getD j 0) (w7 j), by rw [con7, hB]; simp⟩
theorem con7_byt (L : List Int) : ∀ j, Byt (con7 L j)
  | 0 => byt_nil
  | j + 1 => byt_append (con7_byt L j) (byt_low _ _)
theorem enc7_byt (L : List Int) : Byt (enc7 L) := byt_append (con7_byt L 14) (byt_replicate 4)
/-- Each number of a well formed inode fits its bytes. -/
theorem frm7_num {L : List Int} (hL : L.length = 14) (h : frmI L = true) (j : Nat) (hj : j < 14) : 0 ≤ L.getD j 0 ∧ L.getD j 0 < 256 ^ w7 j := by
  unfold frmI at h
  split at h
  · have e := of_decide_eq_true h
    have h0 : L.getD j 0 = 0 := by
      rw [e]
      match j, hj with
      | 0, _ | 1, _ | 2, _ | 3, _ | 4, _ | 5, _ | 6, _ | 7, _ | 8, _ | 9, _ | 10, _ | 11, _ | 12, _ | 13, _ => rfl
    have := pow256_pos (w7 j)
    rw [h0]; omega
  · unfold frmN at h
    simp only [Bool.and_eq_true, decide_eq_true_eq] at h
    obtain ⟨h1, h2, h3, h4, h5⟩ := h
    have hm : most (L.getD 0 0) ≤ 35328 := by unfold most; split <;> omega
    by_cases e0 : j = 0
    · subst e0; rw [show w7 0 = 1 from rfl, Int.pow_succ, Int.pow_zero]; omega
    by_cases e1 : j = 1
    · subst e1; rw [show w7 1 = 1 from rfl, Int.pow_succ, Int.pow_zero]; omega
    by_cases e2 : j = 2
    · subst e2; rw [show w7 2 = 4 from rfl, show (256 : Int) ^ 4 = 4294967296 from rfl]; omega
    obtain ⟨k, rfl⟩ : ∃ k, j = 3 + k := ⟨j - 3, by omega⟩
    rw [w7_two, show (256 : Int) ^ 2 = 65536 from rfl]
    by_cases ek : k = 10
    · subst ek
      have := inB_iff.1 h5
      show 0 ≤ L.getD 13 0 ∧ L.getD 13 0 < 65536
      omega
    · have hd := inB_iff.1 ((locS_iff _).1 h4 k (by simp [hL]; omega))
      have e : ((L.drop 3).take 10).getD k 0 = L.getD (3 + k) 0 := by
        simp only [List.getD_eq_getElem?_getD, List.getElem?_take, List.getElem?_drop]
        rw [if_pos (by omega)]
      rw [e] at hd; omega
/-- What stands in the places of the numbers. -/
def rd7 (c : List Int) : List Int := (List.range 14).map fun j => getV c (p7 j) (w7 j)
theorem rd7_length (c : List Int) : (rd7 c).length = 14 := by simp [rd7]
theorem rd7_get (c : List Int) (j : Nat) (hj : j < 14) : (rd7 c).getD j 0 = getV c (p7 j) (w7 j) := by
  simp [rd7, List.getD_eq_getElem?_getD, hj]
theorem list14 {L M : List Int} (h : L.length = 14) (h' : M.length = 14) (e : ∀ j, j < 14 → L.getD j 0 = M.getD j 0) : L = M := by
  apply List.ext_getElem (by rw [h, h'])
  intro i h1 h2
  have := e i (by omega)
  simpa [List.getD_eq_getElem?_getD, h1, h2] using this
theorem rd7_enc {L : List Int} (hL : L.length = 14) (h : frmI L = true) : rd7 (enc7 L) = L := by
  refine list14 (rd7_length _) hL fun j hj => ?_
  rw [rd7_get _ _ hj, enc7]
  obtain ⟨B, hB⟩ := con7_split L j 14 hj
  obtain ⟨h0, h1⟩ := frm7_num hL h j hj
  rw [hB, List.append_assoc, List.append_assoc, ← con7_length L j]
  exact getV_in _ _ _ _ h0 h1

/-- An inode whose first j numbers have been read. -/
def rdTo7 (c : List Int) (j : Nat) : List Int := (List.range 14).map fun i => if i < j then getV c (p7 i) (w7 i) else 0
theorem rdTo7_length (c : List Int) (j : Nat) : (rdTo7 c j).length = 14 := by simp [rdTo7]
theorem rdTo7_set (c : List Int) (j : Nat) : (rdTo7 c j).set j (getV c (p7 j) (w7 j)) = rdTo7 c (j + 1) := by
  apply List.ext_getElem (by rw [List.length_set, rdTo7_length, rdTo7_length])
  intro i h1 h2
  simp only [rdTo7, List.getElem_set, List.getElem_map, List.getElem_range]
  by_cases e : j = i
  · subst e; rw [if_pos rfl, if_pos (by omega)]
  · rw [if_neg e]
    by_cases h : i < j
    · rw [if_pos h, if_pos (by omega)]
    · rw [if_neg h, if_neg (by omega)]
theorem rdTo7_full (c : List Int) : rdTo7 c 14 = rd7 c := by
  unfold rdTo7 rd7
  apply List.map_congr_left
  intro i hi
  rw [if_pos (List.mem_range.1 hi)]
theorem rdTo7_zero (c : List Int) : rdTo7 c 0 = zeroI := by
  unfold rdTo7
  rw [List.map_congr_left (g := fun _ => (0 : Int)) (fun i _ => if_neg (Nat.not_lt_zero _))]
  rfl
theorem getV7 {c : List Int} (hb : Byt c) (j : Nat) : 0 ≤ getV c (p7 j) (w7 j) ∧ getV c (p7 j) (w7 j) < 4294967296 := by
  have h := getV_bound (byt_mem hb) (p7 j) (w7 j)
  have := pow256_le (w7_le j).2
  have e : (256 : Int) ^ 4 = 4294967296 := rfl
  omega

/-- The inodes of a block of the table. -/
def allF (O : List (List Int)) : Bool := decide (O.length = 8) && O.all frmI
def Len14 (O : List (List Int)) : Prop := ∀ x ∈ O, x.length = 14
theorem len14_get {O : List (List Int)} (h : Len14 O) (k : Nat) (hk : k < O.length) : (O.getD k []).length = 14 := by
  have : O.getD k [] = O[k] := by simp [List.getD_eq_getElem?_getD, hk]
  rw [this]; exact h _ (List.getElem_mem hk)
theorem all_iff (O : List (List Int)) : O.all frmI = true ↔ ∀ j, j < O.length → frmI (O.getD j []) = true := by
  rw [List.all_eq_true]
  constructor
  · intro h j hj
    have : O.getD j [] = O[j] := by simp [List.getD_eq_getElem?_getD, hj]
    rw [this]; exact h _ (List.getElem_mem hj)
  · intro h x hx
    obtain ⟨j, hj, rfl⟩ := List.getElem_of_mem hx
    have := h j hj
    simpa [List.getD_eq_getElem?_getD, hj] using this
theorem allF_yes {O : List (List Int)} (h8 : O.length = 8) (h : ∀ j, j < 8 → frmI (O.getD j []) = true) : allF O = true := by
  unfold allF
  rw [decide_eq_true h8, Bool.true_and, all_iff, h8]; exact h
theorem allF_no {O : List (List Int)} {k : Nat} (h8 : O.length = 8) (hk : k < 8) (h : frmI (O.getD k []) = false) : allF O = false := by
  cases ha : allF O
  · rfl
  · unfold allF at ha
    rw [Bool.and_eq_true] at ha
    have := (all_iff O).1 ha.2 k (by omega)
    rw [h] at this; cases this
theorem allF_len {O : List (List Int)} (h : allF O = true) : O.length = 8 ∧ ∀ j, j < 8 → frmI (O.getD j []) = true := by
  unfold allF at h
  rw [Bool.and_eq_true] at h
  have h8 := of_decide_eq_true h.1
  refine ⟨h8, fun j hj => (all_iff O).1 h.2 j (by omega)⟩
/-- The block, of the first k inodes; of all. -/
def encK7 (O : List (List Int)) : Nat → List Int
  | 0 => []
  | k + 1 => encK7 O k ++ enc7 (O.getD k [])
theorem encK7_length (O : List (List Int)) : ∀ k, (encK7 O k).length = 32 * k
  | 0 => rfl
  | k + 1 => by rw [encK7, List.length_append, encK7_length O k, enc7_length]; omega
theorem encK7_byt (O : List (List Int)) : ∀ k, Byt (encK7 O k)
  | 0 => byt_nil
  | k + 1 => byt_append (encK7_byt O k) (enc7_byt _)
def encT (O : List (List Int)) : List Int := encK7 O 8
/-- The bytes of inode k in a block; what inode they tell. -/
def chunk (l : List Int) (k : Nat) : List Int := (l.drop (32 * k)).take 32
theorem chunk_length {l : List Int} (h : l.length = 256) (k : Nat) (hk : k < 8) : (chunk l k).length = 32 := by simp [chunk]; omega
theorem chunk_byt {l : List Int} (h : Byt l) (k : Nat) : Byt (chunk l k) := byt_take (byt_drop h _) _
theorem encK7_split (O : List (List Int)) (i : Nat) : ∀ j, i < j → ∃ B, encK7 O j = encK7 O i ++ (enc7 (O.getD i []) ++ B) := by
  intro j
  induction j with
  | zero => intro h; omega
  | succ j ih =>
    intro h
    by_cases e : i = j
    · subst e; exact ⟨[], by rw [encK7]; simp⟩
    · obtain ⟨B, hB⟩ := ih (by omega)
      exact ⟨B ++ enc7 (O.getD j []), by rw [encK7, hB]; simp⟩
theorem chunk_enc (O : List (List Int)) (k : Nat) (hk : k < 8) : chunk (encT O) k = enc7 (O.getD k []) := by
  obtain ⟨B, hB⟩ := encK7_split O k 8 hk
  unfold chunk encT
  rw [hB, ← encK7_length O k, List.drop_left, ← enc7_length (O.getD k []), List.take_left]
def rdJ (l : List Int) (k : Nat) : List Int := rd7 (chunk l k)
def rdT (l : List Int) (n : Nat) : List (List Int) := (List.range n).map (rdJ l)
theorem rdT_length (l : List Int) (n : Nat) : (rdT l n).length = n := by simp [rdT]
theorem rdT_get (l : List Int) (n k : Nat) (h : k < n) : (rdT l n).getD k [] = rdJ l k := by simp [rdT, List.getD_eq_getElem?_getD, h]
theorem rdT_succ (l : List Int) (n : Nat) : rdT l (n + 1) = rdT l n ++ [rdJ l n] := by simp [rdT, List.range_succ]
theorem rdT_14 (l : List Int) (n : Nat) : Len14 (rdT l n) := fun x hx => by
  obtain ⟨j, _, rfl⟩ := List.mem_map.1 hx
  exact rd7_length _
/-- A list of n inodes of which the first k are laid. -/
def rdTill7 (l : List Int) (n k : Nat) : List (List Int) := (List.range n).map fun j => if j < k then rdJ l j else zeroI
theorem rdTill7_length (l : List Int) (n k : Nat) : (rdTill7 l n k).length = n := by simp [rdTill7]
theorem rdTill7_set (l : List Int) (n k : Nat) : (rdTill7 l n k).set k (rdJ l k) = rdTill7 l n (k + 1) := by
  apply List.ext_getElem (by rw [List.length_set, rdTill7_length, rdTill7_length])
  intro i h1 h2
  simp only [rdTill7, List.getElem_set, List.getElem_map, List.getElem_range]
  by_cases e : k = i
  · subst e; rw [if_pos rfl, if_pos (by omega)]
  · rw [if_neg e]
    by_cases h : i < k
    · rw [if_pos h, if_pos (by omega)]
    · rw [if_neg h, if_neg (by omega)]
theorem rdTill7_zero (l : List Int) (n : Nat) : rdTill7 l n 0 = List.replicate n zeroI := by
  rw [List.eq_replicate_iff]
  refine ⟨rdTill7_length l n 0, fun x hx => ?_⟩
  obtain ⟨i, _, rfl⟩ := List.mem_map.1 hx
  rw [if_neg (by omega)]
theorem rdTill7_full (l : List Int) (n : Nat) : rdTill7 l n n = rdT l n := by
  unfold rdTill7 rdT
  apply List.map_congr_left
  intro i hi
  rw [if_pos (List.mem_range.1 hi)]
theorem rdTill7_14 (l : List Int) (n k : Nat) : Len14 (rdTill7 l n k) := fun x hx => by
  obtain ⟨j, _, rfl⟩ := List.mem_map.1 hx
  split
  · exact rd7_length _
  · rfl
/-- The block tells inodes. -/
def hasT (l : List Int) : Prop := l.length = 256 ∧ allF (rdT l 8) = true ∧ encT (rdT l 8) = l
theorem rdT_enc {O : List (List Int)} (hO : Len14 O) (h : allF O = true) : rdT (encT O) 8 = O := by
  obtain ⟨h8, hf⟩ := allF_len h
  apply List.ext_getElem (by rw [rdT_length, h8])
  intro i h1 h2
  have hi : i < 8 := by omega
  have e : O.getD i [] = O[i] := by simp [List.getD_eq_getElem?_getD, h2]
  simp only [rdT, List.getElem_map, List.getElem_range, rdJ]
  rw [chunk_enc O i hi, rd7_enc (len14_get hO i h2) (hf i hi), e]
theorem has_enc7 {O : List (List Int)} (hO : Len14 O) (h : allF O = true) : hasT (encT O) := by
  have e := rdT_enc hO h
  exact ⟨by rw [encT, encK7_length], by rw [e]; exact h, by rw [e]⟩
end Go.Proofs.YtkbeencjklgcnaaGreat

/- Contract of fields: the places of an inode's fourteen numbers, and how many bytes each has. -/
namespace Go.Proofs.YtkbeencjklgcnaaGreat
set_option maxRecDepth 100000
open Go.RowKit
set_option linter.unusedVariables false

/-- A field's two cells. -/
def cF (x : Value × Int) : List Value := [x.1, .int .i64 x.2]
theorem cF_len (x : Value × Int) : (cF x).length = 2 := rfl
def fl7 (g j : Nat) : Value × Int := (.pointer (some ⟨g, j, none⟩), (w7 j : Int))
/-- Fourteen fields, of which the first k are laid. -/
def fldK7 (g k : Nat) : List (Value × Int) := (List.range 14).map fun j => if j < k then fl7 g j else (.pointer none, 0)
theorem fldK7_length (g k : Nat) : (fldK7 g k).length = 14 := by simp [fldK7]
theorem fldK7_set (g k : Nat) : (fldK7 g k).set k (fl7 g k) = fldK7 g (k + 1) := by
  apply List.ext_getElem (by rw [List.length_set, fldK7_length, fldK7_length])
  intro i h1 h2
  simp only [fldK7, List.getElem_set, List.getElem_map, List.getElem_range]
  by_cases e : k = i
  · subst e; rw [if_pos rfl, if_pos (by omega)]
  · rw [if_neg e]
    by_cases h : i < k
    · rw [if_pos h, if_pos (by omega)]
    · rw [if_neg h, if_neg (by omega)]
def fldC (g k : Nat) : List Value := (fldK7 g k).flatMap cF
theorem fldC_length (g k : Nat) : (fldC g k).length = 28 := by rw [fldC, flat_length (s := 2) (fun x _ => cF_len x), fldK7_length]
theorem fldC_one (g k : Nat) : ∀ v ∈ fldC g k, v.oneCell' = true := fun v hv => by
  obtain ⟨x, hx, hv⟩ := List.mem_flatMap.1 hv
  obtain ⟨j, _, rfl⟩ := List.mem_map.1 hx
  simp [cF] at hv
  rcases hv with rfl | rfl
  · split <;> rfl
  · rfl
theorem fldC_zero (g : Nat) : fldC g 0 = [.pointer none, .int .i64 0, .pointer none, .int .i64 0, .pointer none, .int .i64 0, .pointer none, .int .i64 0, .pointer none, .int .i64 0, .pointer none, .int .i64 0, .pointer none, .int .i64 0, .pointer none, .int .i64 0, .pointer none, .int .i64 0, .pointer none, .int .i64 0, .pointer none, .int .i64 0, .pointer none, .int .i64 0, .pointer none, .int .i64 0, .pointer none, .int .i64 0] := rfl
theorem fldC_three (g : Nat) : fldC g 3 = [.pointer (some ⟨g, 0, none⟩), .int .i64 1, .pointer (some ⟨g, 1, none⟩), .int .i64 1, .pointer (some ⟨g, 2, none⟩), .int .i64 4, .pointer none, .int .i64 0, .pointer none, .int .i64 0, .pointer none, .int .i64 0, .pointer none, .int .i64 0, .pointer none, .int .i64 0, .pointer none, .int .i64 0, .pointer none, .int .i64 0, .pointer none, .int .i64 0, .pointer none, .int .i64 0, .pointer none, .int .i64 0, .pointer none, .int .i64 0] := rfl
/-- A whole row stored over another. -/
theorem setCells_whole {W : World} {g : Nat} {T : TypeId} {D C : List Value} (hg : W.heap[g]? = some (.cells D.toArray T (0, 0))) (hl : C.length = D.length) (h1 : ∀ v ∈ C, v.oneCell' = true) :
    (W.setCells g 0 C).heap[g]? = some (.cells C.toArray T (0, 0)) ∧ Wrote W (W.setCells g 0 C) g := by
  have e := setCells_row hg (o := 0) (vs := C) (by omega) h1
  rw [e, splice_whole D C hl]
  exact ⟨setRow_heap _ _ _ _ _ _ hg, Wrote.setRow _ _ _⟩
end Go.Proofs.YtkbeencjklgcnaaGreat

/- Contracts of package inode: write, Encode. -/
namespace Go.Proofs.YtkbeencjklgcnaaGreat
set_option maxRecDepth 100000
open Go.RowKit
set_option linter.unusedVariables false

theorem grown_keep {w w' : World} {row : Option Nat} (h : w.grownBy w' row) (b o : Nat) (hb : b < w.heap.size) (hne : ∀ k, row = some k → k ≠ b) : w'.cell? ⟨b, o, none⟩ = w.cell? ⟨b, o, none⟩ := by
  apply World.cell?_of_block
  exact h.block b hb (fun e => hne b e.symm rfl)
/-- append of a []byte that is not empty onto a []byte of one's own, as one step of a region that draws. -/
theorem step_append_bytes {ops : Array Oper} {o : Oper} {a : Act} {w : World} {K : Act → World → Prop} {Q : Exit → Act → World → Prop} {E : Prop} (hgd : o.guard = none) (s x : Operand)
    (ho : o.op = .call { callee := .builtin .append, args := #[s, x], argTypes := #[62, 62] })
    (B : Nat) (v : Value) (l : List Int) (hs : a.eval s = v) (hown : OB w B v l) (u : Value) (m : List Int) (hx : a.eval x = u) (hr : BSl w u m) (hm : 0 < m.length)
    (hlen : l.length + m.length ≤ 140737488355328) (hB : B ≤ w.heap.size)
    (h : ∀ v' w', OB w' B v' (l ++ m) → Below B w w' → w.grownBy w' v.ownBlock → K (a.put o.dst v') w') :
    if Region.wanted o (yielded ops a.tmps) = true then Oper.wp Tryz.prog o a w K Q else E := by
  have hw : Region.wanted o (yielded ops a.tmps) = true := by simp [Region.wanted, hgd]
  rw [if_pos hw]
  obtain ⟨i, h2, h3, h4, h5⟩ := info_parts infoU8
  obtain ⟨ao, cap, rfl, hcap⟩ := hr.shape
  have hby := byt_append hown.1 hr.1
  have e1 : (l ++ m).length = l.length + m.length := List.length_append
  have e2 : (l ++ m).map (Value.int .u8) = l.map (Value.int .u8) ++ m.map (Value.int .u8) := List.map_append
  cases ao with
  | none =>
    rcases hr.2 with ⟨_, hl⟩ | ⟨_, _, hv, _⟩
    · rw [hl] at hm; simp at hm
    · simp at hv
  | some ad =>
    have hcells : ∀ j v, (m.map (Value.int .u8))[j]? = some v → w.cell? (ad.add j) = some v := by
      intro j v hj
      have hjl : j < m.length := by simpa using (List.getElem?_eq_some_iff.1 hj).1
      obtain ⟨ad', he, hc⟩ := src_cells hr (fun _ _ => rfl) m.length (by simp; omega)
      obtain rfl : ad = ad' := by simpa using he
      exact hc j v (by simpa using hj)
    refine wp_append_own w s x 62 ho B 5 i (.int .u8 0) 1 1 Tryz.underlying62 h2 h3 h4 h5 rfl (by decide) v l.length _ hs hown.2 ad m.length cap _ hx (by simp) hcells (ints_oneCell _ _) (by simp only [maxLen]; omega) (by omega) hB fun v' w' h6 h7 _ => ?_
    exact h v' w' ⟨hby, by rw [e1, e2]; exact h6⟩ ((Below.refl _ _).grown h7 hB fun k hk => (hown.2.lt k hk).1) h7
theorem ob_len7 {w : World} {B : Nat} {v : Value} {l : List Int} (h : OB w B v l) (n : Nat) (hn : l.length = n) (h0 : 0 < n) : ∃ g cap, v = .slice (some ⟨g, 0, none⟩) n cap := by
  rcases h.2.2 with ⟨_, h1⟩ | ⟨g, cap, cur, hv, _⟩
  · omega
  · exact ⟨g, cap, by rw [hv, hn]⟩
end Go.Proofs.YtkbeencjklgcnaaGreat

/- Slices of inodes; contract of package inode: Encode. -/
namespace Go.Proofs.YtkbeencjklgcnaaGreat
set_option maxRecDepth 100000
open Go.RowKit
set_option linter.unusedVariables false

theorem wpList_store_nums {ops : Array Oper} {rest : List Oper} {o : Oper} {a : Act} {w : World} {Q : Exit → Act → World → Prop} (hgd : o.guard = none) (T : TypeId) (x y : Operand) (ho : o.op = .store T x y)
    (g : Nat) (hx : a.eval x = .pointer (some ⟨g, 0, none⟩)) (L D : List Int) (hy : a.eval y = .agg (iC L).toArray) (hLD : D.length = L.length) (hi : (Tryz.prog.info? T).map (·.size) = some L.length) (T' : TypeId) (hg : w.heap[g]? = some (iO D T'))
    (h : ∀ w', Wrote w w' g → w'.heap[g]? = some (iO L T') → wpList Tryz.prog ops Q rest (a.put o.dst undef) w') : wpList Tryz.prog ops Q (o :: rest) a w :=
  wpList_store_row hgd T x y ho g _ hx hy T' _ hg (by rw [hi]; simp [iC]) (by simp [iC, hLD]) (all_oneCell_toArray (iC_one L)) (h _ (Wrote.setRow _ _ _) (setRow_heap _ _ _ _ _ _ hg))

/-- A value of type []Inode (of the code or of the reference) that reads as O. -/
def NSl (w : World) (v : Value) (O : List (List Int)) : Prop :=
  Len14 O ∧ ((v = .slice none 0 0 ∧ O = []) ∨ ∃ a cap, v = .slice (some a) O.length cap ∧ ∀ j, j < O.length → a.block < w.heap.size ∧ a.spot = none ∧ w.rangeAt a.block (a.off + j * 14) (iC (O.getD j [])))
theorem len14_nil : Len14 [] := fun x hx => by simp at hx
theorem nsl_nil (w : World) : NSl w (.slice none 0 0) [] := ⟨len14_nil, .inl ⟨rfl, rfl⟩⟩
theorem NSl.below {w w' : World} {v : Value} {O : List (List Int)} (h : NSl w v O) (hb : Below w.heap.size w w') : NSl w' v O := by
  refine ⟨h.1, ?_⟩
  rcases h.2 with h | ⟨a, cap, hv, hc⟩
  · exact .inl h
  · refine .inr ⟨a, cap, hv, fun j hj => ?_⟩
    obtain ⟨h1, h2, h3⟩ := hc j hj
    exact ⟨Nat.lt_of_lt_of_le h1 hb.size, h2, range_low h3 hb h1⟩
theorem NSl.open' {w : World} {v : Value} {O : List (List Int)} (h : NSl w v O) : ∃ ao cap, v = .slice ao O.length cap ∧ (0 < O.length → ∃ b off, ao = some ⟨b, off, none⟩ ∧ b < w.heap.size ∧
    ∀ j, j < O.length → w.rangeAt b (off + j * 14) (iC (O.getD j []))) := by
  rcases h.2 with ⟨hv, hk⟩ | ⟨⟨b, off, spot⟩, cap, hv, hc⟩
  · exact ⟨none, 0, by rw [hv, hk]; rfl, fun h => by rw [hk] at h; simp at h⟩
  · refine ⟨_, cap, hv, fun h0 => ?_⟩
    obtain ⟨h1, h2, _⟩ := hc 0 h0
    obtain rfl : spot = none := h2
    exact ⟨b, off, rfl, h1, fun j hj => (hc j hj).2.2⟩
theorem NSl.shape {w : World} {v : Value} {O : List (List Int)} (h : NSl w v O) : ∃ ao cap, v = .slice ao O.length cap := by
  obtain ⟨ao, cap, hv, _⟩ := h.open'
  exact ⟨ao, cap, hv⟩
theorem NSl.at {w : World} {v : Value} {O : List (List Int)} (h : NSl w v O) (h0 : 0 < O.length) : ∃ b off cap, v = .slice (some ⟨b, off, none⟩) O.length cap ∧ b < w.heap.size ∧ ∀ j, j < O.length → w.rangeAt b (off + j * 14) (iC (O.getD j [])) := by
  obtain ⟨ao, cap, hv, hc⟩ := h.open'
  obtain ⟨b, off, rfl, h1, h2⟩ := hc h0
  exact ⟨b, off, cap, hv, h1, h2⟩

/-- What Encode hands back. -/
def EncT7 (O : List (List Int)) (w : World) (e : Ending) (w' : World) : Prop :=
  (allF O = true ∧ ∃ u, e = .returned (.tuple #[u, .int .i64 0]) ∧ OB w' w.heap.size u (encT O) ∧ Below w.heap.size w w') ∨
  (allF O = false ∧ e = .returned (.tuple #[.slice none 0 0, .int .i64 1]) ∧ Below w.heap.size w w')
end Go.Proofs.YtkbeencjklgcnaaGreat

/- Contract of the reference's FormedInode. -/
namespace Go.Proofs.YtkbeencjklgcnaaGreat
set_option maxRecDepth 100000
open Go.RowKit
set_option linter.unusedVariables false

theorem frmN_iff (kd ln sz mp : Int) (D : List Int) : frmN kd ln sz mp D = true ↔ (1 ≤ kd ∧ kd ≤ 3) ∧ (0 ≤ ln ∧ ln ≤ 200) ∧ (0 ≤ sz ∧ sz ≤ 35328 ∧ (kd = 3 → sz ≤ 200)) ∧ locS D = true ∧ inB mp = true := by
  unfold frmN most
  simp only [Bool.and_eq_true, decide_eq_true_eq]
  by_cases h : kd = 3
  · rw [if_pos h]
    constructor
    · rintro ⟨h1, h2, h3, h4, h5⟩; exact ⟨h1, h2, ⟨h3.1, by omega, fun _ => h3.2⟩, h4, h5⟩
    · rintro ⟨h1, h2, h3, h4, h5⟩; exact ⟨h1, h2, ⟨h3.1, h3.2.2 h⟩, h4, h5⟩
  · rw [if_neg h]
    constructor
    · rintro ⟨h1, h2, h3, h4, h5⟩; exact ⟨h1, h2, ⟨h3.1, h3.2, fun e => absurd e h⟩, h4, h5⟩
    · rintro ⟨h1, h2, h3, h4, h5⟩; exact ⟨h1, h2, ⟨h3.1, h3.2.1⟩, h4, h5⟩
theorem rForm_zero (kd ln sz d0 d1 d2 d3 d4 d5 d6 d7 d8 d9 mp : Int) (h : kd = 0) (w : World) : Calls Tryz.prog 90 #[.agg #[.int .i64 kd, .int .i64 ln, .int .i64 sz, .int .i64 d0, .int .i64 d1, .int .i64 d2, .int .i64 d3, .int .i64 d4, .int .i64 d5, .int .i64 d6, .int .i64 d7, .int .i64 d8, .int .i64 d9, .int .i64 mp]] w fun e w' => e = .returned (.bool (decide ([kd, ln, sz, d0, d1, d2, d3, d4, d5, d6, d7, d8, d9, mp] = zeroI))) ∧ Below w.heap.size w w' := by
  have hb := below_box w (.cells #[.int .i64 kd, .int .i64 ln, .int .i64 sz, .int .i64 d0, .int .i64 d1, .int .i64 d2, .int .i64 d3, .int .i64 d4, .int .i64 d5, .int .i64 d6, .int .i64 d7, .int .i64 d8, .int .i64 d9, .int .i64 mp] 103)
  have hr := heap_alloc_new w (.cells #[.int .i64 kd, .int .i64 ln, .int .i64 sz, .int .i64 d0, .int .i64 d1, .int .i64 d2, .int .i64 d3, .int .i64 d4, .int .i64 d5, .int .i64 d6, .int .i64 d7, .int .i64 d8, .int .i64 d9, .int .i64 mp] 103)
  have hrg : (w.alloc (.cells #[.int .i64 kd, .int .i64 ln, .int .i64 sz, .int .i64 d0, .int .i64 d1, .int .i64 d2, .int .i64 d3, .int .i64 d4, .int .i64 d5, .int .i64 d6, .int .i64 d7, .int .i64 d8, .int .i64 d9, .int .i64 mp] 103)).rangeAt w.heap.size 0 (iC [kd, ln, sz, d0, d1, d2, d3, d4, d5, d6, d7, d8, d9, mp]) := io_range hr
  have HRG := Lib.hid hrg
  have u1 := Tryz.underlying103
  clear hr hrg
  have hk : (kd == 0) = true := by simp [h]
  clear h
  go_enter Tryz.func90, Tryz.ntmps90
  go_wp2_with (first
    | (with_reducible refine wpList_load_nums rfl 103 (.tmp 1) rfl w.heap.size 0 rfl [kd, ln, sz, d0, d1, d2, d3, d4, d5, d6, d7, d8, d9, mp] _ HRG.out u1 rfl rfl ?_)
    | (with_reducible refine wpList_eqRIno rfl (.tmp 7) (.tmp 8) rfl [kd, ln, sz, d0, d1, d2, d3, d4, d5, d6, d7, d8, d9, mp] zeroI rfl rfl rfl rfl ?_))
  go_ret
  exact ⟨rfl, hb⟩
set_option maxHeartbeats 8000000 in
theorem rForm_n (kd ln sz d0 d1 d2 d3 d4 d5 d6 d7 d8 d9 mp : Int) (h0 : kd ≠ 0) (B : Bool) (hB : B = frmN kd ln sz mp [d0, d1, d2, d3, d4, d5, d6, d7, d8, d9]) (w : World) : Calls Tryz.prog 90 #[.agg #[.int .i64 kd, .int .i64 ln, .int .i64 sz, .int .i64 d0, .int .i64 d1, .int .i64 d2, .int .i64 d3, .int .i64 d4, .int .i64 d5, .int .i64 d6, .int .i64 d7, .int .i64 d8, .int .i64 d9, .int .i64 mp]] w fun e w' => e = .returned (.bool B) ∧ Below w.heap.size w w' := by
  have hb := below_box w (.cells #[.int .i64 kd, .int .i64 ln, .int .i64 sz, .int .i64 d0, .int .i64 d1, .int .i64 d2, .int .i64 d3, .int .i64 d4, .int .i64 d5, .int .i64 d6, .int .i64 d7, .int .i64 d8, .int .i64 d9, .int .i64 mp] 103)
  have hr : (w.alloc (.cells #[.int .i64 kd, .int .i64 ln, .int .i64 sz, .int .i64 d0, .int .i64 d1, .int .i64 d2, .int .i64 d3, .int .i64 d4, .int .i64 d5, .int .i64 d6, .int .i64 d7, .int .i64 d8, .int .i64 d9, .int .i64 mp] 103)).heap[w.heap.size]? = some (iO [kd, ln, sz, d0, d1, d2, d3, d4, d5, d6, d7, d8, d9, mp] 103) := heap_alloc_new w _
  obtain ⟨W1, hW1⟩ : ∃ W1, W1 = w.alloc (.cells #[.int .i64 kd, .int .i64 ln, .int .i64 sz, .int .i64 d0, .int .i64 d1, .int .i64 d2, .int .i64 d3, .int .i64 d4, .int .i64 d5, .int .i64 d6, .int .i64 d7, .int .i64 d8, .int .i64 d9, .int .i64 mp] 103) := ⟨_, rfl⟩
  have hb1 : Below w.heap.size w W1 := by rw [hW1]; exact hb
  rw [← hW1] at hr
  have H2 := Lib.hid hW1.symm
  have hk : (kd == 0) = false := by simp [h0]
  have HD : Hid (∀ j, j < 10 → W1.cell? ⟨w.heap.size, 3 + j, none⟩ = some (.int .i64 ([d0, d1, d2, d3, d4, d5, d6, d7, d8, d9].getD j 0))) := fun j hj => by
    rw [io_cell hr (3 + j) (by simp; omega), show 3 + j = j + 3 by omega]
    have : j = 0 ∨ j = 1 ∨ j = 2 ∨ j = 3 ∨ j = 4 ∨ j = 5 ∨ j = 6 ∨ j = 7 ∨ j = 8 ∨ j = 9 := by omega
    rcases this with rfl | rfl | rfl | rfl | rfl | rfl | rfl | rfl | rfl | rfl <;> rfl
  have hiff := frmN_iff kd ln sz mp [d0, d1, d2, d3, d4, d5, d6, d7, d8, d9]
  rw [← hB] at hiff
  have hfalse : ∀ {P : Prop}, (B = true → P) → ¬ P → B = false := fun h hn => by
    cases hB : B
    · rfl
    · exact absurd (h hB) hn
  have HNO : Hid (¬ ((1 ≤ kd ∧ kd ≤ 3) ∧ (0 ≤ ln ∧ ln ≤ 200) ∧ (0 ≤ sz ∧ sz ≤ 35328 ∧ (kd = 3 → sz ≤ 200))) → B = false) := fun hn => hfalse (fun h => ⟨(hiff.1 h).1, (hiff.1 h).2.1, (hiff.1 h).2.2.1⟩) hn
  have HYE : Hid ((1 ≤ kd ∧ kd ≤ 3 ∧ (0 ≤ ln ∧ ln ≤ 200) ∧ (0 ≤ sz ∧ sz ≤ 35328) ∧ (kd = 3 → sz ≤ 200)) → inB mp = true → locS [d0, d1, d2, d3, d4, d5, d6, d7, d8, d9] = true → B = true) := fun h1 h2 h3 => hiff.2 ⟨⟨h1.1, h1.2.1⟩, h1.2.2.1, ⟨h1.2.2.2.1.1, h1.2.2.2.1.2, h1.2.2.2.2⟩, h3, h2⟩
  obtain ⟨B4, h4⟩ : ∃ b, inB mp = b := ⟨_, rfl⟩
  have HN4 : Hid (B4 = false → B = false) := fun h => hfalse (fun hh => (hiff.1 hh).2.2.2.2) (by rw [h4, h]; decide)
  have HND : Hid (∀ j, j < 10 → inB ([d0, d1, d2, d3, d4, d5, d6, d7, d8, d9].getD j 0) = false → B = false) := fun j hj h => hfalse (fun hh => (hiff.1 hh).2.2.2.1) (by rw [locS_no (l := [d0, d1, d2, d3, d4, d5, d6, d7, d8, d9]) (k := j) (by simpa using hj) h]; decide)
  rw [h4] at HYE
  have K4 := Lib.hid (rPlace_is mp B4 h4)
  clear hiff hfalse hW1 hr hB h4
  by_cases a1 : 0 ≤ kd
  case neg =>
    obtain rfl : B = false := HNO.out (by omega)
    go_enter Tryz.func90, Tryz.ntmps90
    go_wp2_with (go_at_call 118; with_reducible refine (K4.out _).mono ?_; rintro e w' ⟨rfl, rfl⟩)
    go_ret
    exact ⟨rfl, hb⟩
  by_cases a2 : kd ≤ 3
  case neg =>
    obtain rfl : B = false := HNO.out (by omega)
    go_enter Tryz.func90, Tryz.ntmps90
    go_wp2_with (go_at_call 118; with_reducible refine (K4.out _).mono ?_; rintro e w' ⟨rfl, rfl⟩)
    go_ret
    exact ⟨rfl, hb⟩
  by_cases a3 : 0 ≤ ln
  case neg =>
    obtain rfl : B = false := HNO.out (by omega)
    go_enter Tryz.func90, Tryz.ntmps90
    go_wp2_with (go_at_call 118; with_reducible refine (K4.out _).mono ?_; rintro e w' ⟨rfl, rfl⟩)
    go_ret
    exact ⟨rfl, hb⟩
  by_cases a4 : ln ≤ 200
  case neg =>
    obtain rfl : B = false := HNO.out (by omega)
    go_enter Tryz.func90, Tryz.ntmps90
    go_wp2_with (go_at_call 118; with_reducible refine (K4.out _).mono ?_; rintro e w' ⟨rfl, rfl⟩)
    go_ret
    exact ⟨rfl, hb⟩
  by_cases a5 : 0 ≤ sz
  case neg =>
    obtain rfl : B = false := HNO.out (by omega)
    go_enter Tryz.func90, Tryz.ntmps90
    go_wp2_with (go_at_call 118; with_reducible refine (K4.out _).mono ?_; rintro e w' ⟨rfl, rfl⟩)
    go_ret
    exact ⟨rfl, hb⟩
  by_cases a6 : sz ≤ 35328
  case neg =>
    obtain rfl : B = false := HNO.out (by omega)
    go_enter Tryz.func90, Tryz.ntmps90
    go_wp2_with (go_at_call 118; with_reducible refine (K4.out _).mono ?_; rintro e w' ⟨rfl, rfl⟩)
    go_ret
    exact ⟨rfl, hb⟩
  by_cases h3 : kd = 3
  case pos =>
    subst h3
    clear a1 a2 hk
    by_cases a7 : sz ≤ 200
    case neg =>
      obtain rfl : B = false := HNO.out (by omega)
      go_enter Tryz.func90, Tryz.ntmps90
      go_wp2_with (go_at_call 118; with_reducible refine (K4.out _).mono ?_; rintro e w' ⟨rfl, rfl⟩)
      go_ret
      exact ⟨rfl, hb⟩
    cases B4
    case false =>
      obtain rfl : B = false := HN4.out rfl
      go_enter Tryz.func90, Tryz.ntmps90
      go_wp2_with (go_at_call 118; with_reducible refine (K4.out _).mono ?_; rintro e w' ⟨rfl, rfl⟩)
      go_ret
      exact ⟨rfl, hb⟩
    case true =>
      have hyes := HYE.out ⟨by omega, by omega, by omega, by omega, by omega⟩ rfl
      have HYE2 := Lib.hid hyes
      clear hyes HYE HNO HN4
      go_enter Tryz.func90, Tryz.ntmps90
      go_wp2_with (go_at_call 118; with_reducible refine (K4.out _).mono ?_; rintro e w' ⟨rfl, rfl⟩)
      rw [H2.out]
      go_loop [54] (fun i => ∃ j : Nat, j ≤ 10 ∧ i = .int .i64 j ∧ Hid (∀ i, i < j → inB ([d0, d1, d2, d3, d4, d5, d6, d7, d8, d9].getD i 0) = true)) (fun i => 10 - (intOf i).toNat)
      case atStart => exact ⟨0, by omega, rfl, fun i hi => absurd hi (Nat.not_lt_zero _)⟩
      case round =>
        obtain ⟨j, hj, rfl, HJ⟩ := hrel
        by_cases hlt : j < 10
        · have hcx := HD.out j hlt
          have hnd := HND.out j hlt
          obtain ⟨x, hx⟩ : ∃ x, x = [d0, d1, d2, d3, d4, d5, d6, d7, d8, d9].getD j 0 := ⟨_, rfl⟩
          rw [← hx] at hcx hnd
          have HX := Lib.hid hx
          have ej : (j : Int) < 10 := by omega
          obtain ⟨Bx, hbx⟩ : ∃ b, inB x = b := ⟨_, rfl⟩
          have KX := Lib.hid (rPlace_is x Bx hbx)
          have HBX := Lib.hid hbx
          clear hx hbx
          cases Bx
          · obtain rfl : B = false := hnd HBX.out
            go_wp2_with (go_at_call 118; with_reducible refine (KX.out _).mono ?_; rintro e w' ⟨rfl, rfl⟩)
            go_ret
            exact ⟨rfl, hb1⟩
          · clear hnd
            go_wp2_with (go_at_call 118; with_reducible refine (KX.out _).mono ?_; rintro e w' ⟨rfl, rfl⟩)
            go_round
            case rel =>
              refine ⟨j + 1, by omega, by go_num, fun i hi => ?_⟩
              by_cases e : i = j
              · subst e; rw [← HX.out]; exact HBX.out
              · exact HJ.out i (by omega)
            case measure => simp [intOf]; omega
        · obtain rfl : j = 10 := by omega
          obtain rfl : B = true := HYE2.out ((locS_iff _).2 HJ.out)
          go_wp2
          go_ret
          exact ⟨rfl, hb1⟩
  case neg =>
    have hk3 : (kd == 3) = false := by simp [h3]
    cases B4
    case false =>
      obtain rfl : B = false := HN4.out rfl
      go_enter Tryz.func90, Tryz.ntmps90
      go_wp2_with (go_at_call 118; with_reducible refine (K4.out _).mono ?_; rintro e w' ⟨rfl, rfl⟩)
      go_ret
      exact ⟨rfl, hb⟩
    case true =>
      have hyes := HYE.out ⟨by omega, by omega, by omega, by omega, by omega⟩ rfl
      have HYE2 := Lib.hid hyes
      clear hyes HYE HNO HN4
      go_enter Tryz.func90, Tryz.ntmps90
      go_wp2_with (go_at_call 118; with_reducible refine (K4.out _).mono ?_; rintro e w' ⟨rfl, rfl⟩)
      rw [H2.out]
      go_loop [54] (fun i => ∃ j : Nat, j ≤ 10 ∧ i = .int .i64 j ∧ Hid (∀ i, i < j → inB ([d0, d1, d2, d3, d4, d5, d6, d7, d8, d9].getD i 0) = true)) (fun i => 10 - (intOf i).toNat)
      case atStart => exact ⟨0, by omega, rfl, fun i hi => absurd hi (Nat.not_lt_zero _)⟩
      case round =>
        obtain ⟨j, hj, rfl, HJ⟩ := hrel
        by_cases hlt : j < 10
        · have hcx := HD.out j hlt
          have hnd := HND.out j hlt
          obtain ⟨x, hx⟩ : ∃ x, x = [d0, d1, d2, d3, d4, d5, d6, d7, d8, d9].getD j 0 := ⟨_, rfl⟩
          rw [← hx] at hcx hnd
          have HX := Lib.hid hx
          have ej : (j : Int) < 10 := by omega
          obtain ⟨Bx, hbx⟩ : ∃ b, inB x = b := ⟨_, rfl⟩
          have KX := Lib.hid (rPlace_is x Bx hbx)
          have HBX := Lib.hid hbx
          clear hx hbx
          cases Bx
          · obtain rfl : B = false := hnd HBX.out
            go_wp2_with (go_at_call 118; with_reducible refine (KX.out _).mono ?_; rintro e w' ⟨rfl, rfl⟩)
            go_ret
            exact ⟨rfl, hb1⟩
          · clear hnd
            go_wp2_with (go_at_call 118; with_reducible refine (KX.out _).mono ?_; rintro e w' ⟨rfl, rfl⟩)
            go_round
            case rel =>
              refine ⟨j + 1, by omega, by go_num, fun i hi => ?_⟩
              by_cases e : i = j
              · subst e; rw [← HX.out]; exact HBX.out
              · exact HJ.out i (by omega)
            case measure => simp [intOf]; omega
        · obtain rfl : j = 10 := by omega
          obtain rfl : B = true := HYE2.out ((locS_iff _).2 HJ.out)
          go_wp2
          go_ret
          exact ⟨rfl, hb1⟩
theorem rForm_of {L : List Int} (hL : L.length = 14) (w : World) : Calls Tryz.prog 90 #[.agg (iC L).toArray] w fun e w' => e = .returned (.bool (frmI L)) ∧ Below w.heap.size w w' := by
  match L, hL with
  | [kd, ln, sz, d0, d1, d2, d3, d4, d5, d6, d7, d8, d9, mp], _ =>
    show Calls Tryz.prog 90 #[.agg #[.int .i64 kd, .int .i64 ln, .int .i64 sz, .int .i64 d0, .int .i64 d1, .int .i64 d2, .int .i64 d3, .int .i64 d4, .int .i64 d5, .int .i64 d6, .int .i64 d7, .int .i64 d8, .int .i64 d9, .int .i64 mp]] w fun e w' => e = .returned (.bool (if kd = 0 then decide ([kd, ln, sz, d0, d1, d2, d3, d4, d5, d6, d7, d8, d9, mp] = zeroI) else frmN kd ln sz mp [d0, d1, d2, d3, d4, d5, d6, d7, d8, d9])) ∧ Below w.heap.size w w'
    by_cases h0 : kd = 0
    · rw [if_pos h0]; exact rForm_zero kd ln sz d0 d1 d2 d3 d4 d5 d6 d7 d8 d9 mp h0 w
    · rw [if_neg h0]; exact rForm_n kd ln sz d0 d1 d2 d3 d4 d5 d6 d7 d8 d9 mp h0 _ rfl w
theorem rForm_is {L : List Int} (hL : L.length = 14) (B : Bool) (h : frmI L = B) (w : World) : Calls Tryz.prog 90 #[.agg (iC L).toArray] w fun e w' => e = .returned (.bool B) ∧ Below w.heap.size w w' := by
  rw [← h]; exact rForm_of hL w
end Go.Proofs.YtkbeencjklgcnaaGreat
