/- Contracts: the law's desc; Encode, the code's and the reference's. -/
import Derived.Test.YtflkggoknmgbnaaGrpG
import Derived.Lib.SlBytesConst
import Derived.StillTailTactics
namespace Go.Proofs.Ytflkggoknmgbnaa
open Go.RowKit BM
set_option linter.unusedVariables false

theorem bsl_desc (w2 : World) : BSl (w2.alloc (.cells #[.int .u8 100, .int .u8 101, .int .u8 115, .int .u8 99] 5 (4, 5))) (.slice (some ⟨w2.heap.size, 0, none⟩) 4 4) [100, 101, 115, 99] := by
  refine ⟨byt_of_mem (by decide), .inr ⟨_, 4, rfl, by decide, fun j hj => ⟨by simp, rfl, ?_⟩⟩⟩
  have hj : j < 4 := hj
  have hh : (w2.alloc (.cells #[.int .u8 100, .int .u8 101, .int .u8 115, .int .u8 99] 5 (4, 5))).heap[w2.heap.size]? = some (.cells #[.int .u8 100, .int .u8 101, .int .u8 115, .int .u8 99] 5 (4, 5)) := by
    show (w2.heap.push _)[w2.heap.size]? = _
    simp
  rw [Nat.zero_add, cell_of_row _ _ _ _ _ _ hh]
  have : j = 0 ∨ j = 1 ∨ j = 2 ∨ j = 3 := by omega
  rcases this with rfl | rfl | rfl | rfl <;> rfl
theorem BRow.low {w w' : World} {p r : Nat} {L : List Bool} (h : BRow w p r L) (hb : Below w.heap.size w w') : BRow w' p r L := h.below hb h.lt.1 h.lt.2

theorem grEnc_far {w : World} {po : Value} (g : Int) (h : ¬ (0 ≤ g ∧ g < 12)) (hpo : ∃ p, po = .pointer p) : Calls Try.prog 7 #[.agg #[.int .i64 g, po]] w fun e w' => e = .returned (.tuple #[.slice none 0 0, .int .i64 1]) ∧ Below w.heap.size w w' := by
  obtain ⟨p, rfl⟩ := hpo
  have hb := below_box w (.cells #[.int .i64 g, .pointer p] 30)
  go_enter Try.func7, Try.ntmps7
  go_wp2_with (go_at_call 24; refine (grPoss_no g h _).mono ?_; rintro e w2 ⟨rfl, rfl⟩)
  go_ret2
  exact ⟨rfl, hb⟩
theorem grEnc_len {w : World} {p r : Nat} {L : List Bool} (hr : BRow w p r L) (g : Int) (h1 : 0 ≤ g) (h2 : g < 12) (hL : L.length ≠ 64) : Calls Try.prog 7 #[.agg #[.int .i64 g, .pointer (some ⟨p, 0, none⟩)]] w fun e w' => e = .returned (.tuple #[.slice none 0 0, .int .i64 1]) ∧ Below w.heap.size w w' := by
  have hb := below_box w (.cells #[.int .i64 g, .pointer (some ⟨p, 0, none⟩)] 30)
  have HLEN := Lib.hid (bLen_row (hr.low hb))
  have hne : ((L.length : Int) != 64) = true := by simp; omega
  clear hr hL
  go_enter Try.func7, Try.ntmps7
  go_wp2_with (first
    | (go_at_call 24; refine (grPoss_yes g h1 h2 _).mono ?_; rintro e w2 ⟨rfl, rfl⟩)
    | (go_at_call 25; refine HLEN.out.mono ?_; rintro e w2 ⟨rfl, rfl⟩))
  go_ret2
  exact ⟨rfl, hb⟩
theorem pPut2 {w : World} {v : Value} {l : List Int} (hs : BSl w v l) (hl : l.length ≤ 1000) (x : Int) (h0 : 0 ≤ x) (h1 : x ≤ 65535) : Calls Try.prog 26 #[v, .int .u64 x, .int .i64 2] w (NewB w (l ++ lowB x 2)) :=
  pPut_at hs (by omega) x 2 2 (by omega) (by omega) rfl h0 (by omega)
set_option maxHeartbeats 1000000 in
theorem grEnc_yes {w : World} {p r : Nat} {L : List Bool} (hr : BRow w p r L) (g : Int) (h1 : 0 ≤ g) (h2 : g < 12) (hL : L.length = 64) :
    Calls Try.prog 7 #[.agg #[.int .i64 g, .pointer (some ⟨p, 0, none⟩)]] w fun e w' => ∃ v, e = .returned (.tuple #[v, .int .i64 0]) ∧ OB w' w.heap.size v (descS g L) ∧ Below w.heap.size w w' := by
  have hb1 := below_box w (.cells #[.int .i64 g, .pointer (some ⟨p, 0, none⟩)] 30)
  have hd1 := heap_alloc_new w (.cells #[.int .i64 g, .pointer (some ⟨p, 0, none⟩)] 30)
  obtain ⟨w1, hw1⟩ : ∃ w1, w1 = w.alloc (.cells #[.int .i64 g, .pointer (some ⟨p, 0, none⟩)] 30) := ⟨_, rfl⟩
  rw [← hw1] at hb1 hd1
  have H1 := Lib.hid hw1.symm
  have HROW := Lib.hid (hr.low hb1)
  have hlen := bLen_row HROW.out
  rw [hL] at hlen
  have HLEN := Lib.hid hlen
  have hcb := countB_le L
  obtain ⟨C, hC⟩ : ∃ C, C = countB L := ⟨_, rfl⟩
  rw [← hC, hL] at hcb
  have HC := Lib.hid hC
  have HL := Lib.hid hL
  have HD1 := Lib.hid hd1
  have hlt : w.heap.size < w1.heap.size := (Array.getElem?_eq_some_iff.1 hd1).1
  have c0 : w1.cell? ⟨w.heap.size, 0, none⟩ = some (.int .i64 g) := by rw [cell_of_row _ _ _ _ _ _ hd1]; rfl
  have c1 : w1.cell? ⟨w.heap.size, 1, none⟩ = some (.pointer (some ⟨p, 0, none⟩)) := by rw [cell_of_row _ _ _ _ _ _ hd1]; rfl
  have kc := fun (w : World) (C : Array Value) (n c : Nat) => Lib.run_convert_bytes_const (P := Try.prog) w 23 5 C n c Try.underlying23 Try.underlying5
  clear hr hlen hC hL hd1 hw1
  go_enter Try.func7, Try.ntmps7
  go_wp2_with (first
    | (go_at_call 24; rw [H1.out]; refine (grPoss_yes g h1 h2 _).mono ?_; rintro e w2 ⟨rfl, rfl⟩)
    | (go_at_call 25; refine HLEN.out.mono ?_; rintro e w2 ⟨rfl, rfl⟩))
  have hbm := bsl_desc w1
  have hb2 := below_box w1 (.cells #[.int .u8 100, .int .u8 101, .int .u8 115, .int .u8 99] 5 (4, 5))
  generalize w1.alloc (.cells #[.int .u8 100, .int .u8 101, .int .u8 115, .int .u8 99] 5 (4, 5)) = w2 at hbm hb2 ⊢
  have HMG := Lib.hid (pPut2 hbm (by decide) g h1 (by omega))
  clear hbm kc
  go_wp2_with (first
    | (go_at_call 26; (with_reducible refine HMG.out.mono ?_); rintro e w4 ⟨v4, rfl, hob4, hb4⟩
       have hb14 : Below w1.heap.size w1 w4 := hb2.trans (hb4.mono hb2.size)
       have x1 : w4.cell? ⟨w.heap.size, 1, none⟩ = some (.pointer (some ⟨p, 0, none⟩)) := (hb14.cell (p := ⟨w.heap.size, 1, none⟩) hlt).trans c1
       have HR4 := Lib.hid (HROW.out.low hb14))
    | (go_at_call 27; refine (bCount_any HR4.out).mono ?_; rw [← HC.out]; rintro e w5 ⟨rfl, m5, rfl⟩
       have y1 : (w4.drewN m5).cell? ⟨w.heap.size, 1, none⟩ = some (.pointer (some ⟨p, 0, none⟩)) := x1
       have HP2 := Lib.hid (pPut2 (hob4.bsl.drewN m5) (by rw [List.length_append, lowB_length]; decide) (C : Int) (by omega) (by omega)))
    | (go_at_call 26; (with_reducible refine HP2.out.mono ?_); rintro e w6 ⟨v6, rfl, hob6, hb6⟩
       have hb46 : Below w4.heap.size w4 w6 := ⟨hb6.os, hb6.tape, hb6.output, hb6.size, hb6.block⟩
       have hb16 : Below w1.heap.size w1 w6 := hb14.trans (hb46.mono hb14.size)
       have z1 : w6.cell? ⟨w.heap.size, 1, none⟩ = some (.pointer (some ⟨p, 0, none⟩)) := (hb16.cell (p := ⟨w.heap.size, 1, none⟩) hlt).trans c1
       have HR6 := Lib.hid (HROW.out.low hb16))
    | (go_at_call 29; refine (bBytes_any HR6.out (bytesB L) (rep_bytesB L)).mono ?_; rintro e w7 ⟨v7, rfl, hs7, hb7⟩
       have hb17 : Below w1.heap.size w1 w7 := hb16.trans (hb7.mono hb16.size))
    | (at_builtin
       refine wpList_append_bytes w7 rfl (.tmp 27) (.tmp 30) rfl w1.heap.size _ ([100, 101, 115, 99] ++ lowB g 2 ++ lowB (C : Int) 2) rfl ((hob6.below hb7).more (by have := hb14.size; simpa using this)) w7 v7 (bytesB L) rfl hs7 (fun _ _ => rfl) (by rw [bytesB_length, HL.out]; simp [lowB_length]) hb17.size ?_
       intro v8 w8 hob8 hb8 _
       have hb18 : Below w1.heap.size w1 w8 := hb17.trans hb8
       have HSE : Hid (Calls Try.prog 28 #[v8] w8 (SealOut (descC g L) w8)) := Lib.hid (by rw [descC, ← HC.out]; exact pSeal_yes hob8.bsl (by rw [List.length_append, bytesB_length, HL.out]; simp [lowB_length])))
    | (go_at_call 28; refine HSE.out.mono ?_; rintro e w9 ⟨v9, rfl, hob9, hb9⟩))
  go_ret2
  exact ⟨v9, rfl, hob9.more (Nat.le_trans hb1.size hb18.size), (hb1.trans (hb18.mono hb1.size)).trans (hb9.mono (Nat.le_trans hb1.size hb18.size))⟩
theorem bNew_len (n : Nat) (h : n ≤ 4096) (w : World) : Calls Try.prog 30 #[.int .i64 n] w fun e w' => e = .returned (.pointer (some ⟨w.heap.size + 1, 0, none⟩)) ∧ BRow w' (w.heap.size + 1) w.heap.size (List.replicate n false) ∧ Below w.heap.size w w' :=
  (bNew_at n n h w (by rw [if_neg (by omega), if_neg (by omega)])).mono fun _ _ ⟨h1, h2, h3, _⟩ => ⟨h1, h2, h3⟩
theorem desc6_any {w : World} {v : Value} {L : List Bool} (hk : KSl w v L) (hL : L.length ≤ 200) (g : Int) :
    Calls Try.prog 8 #[.int .i64 g, v] w fun e w' => ∃ p r, e = .returned (.agg #[.int .i64 g, .pointer (some ⟨p, 0, none⟩)]) ∧ BRow w' p r L ∧ Below w.heap.size w w' := by
  obtain ⟨ao, cap, rfl, hx⟩ := hk.open'
  have hb1 := below_box w (.cells #[.int .i64 0, .pointer none] 30)
  have hr1 := heap_alloc_new w (.cells #[.int .i64 0, .pointer none] 30)
  obtain ⟨w1, hw1⟩ : ∃ w1, w1 = w.alloc (.cells #[.int .i64 0, .pointer none] 30) := ⟨_, rfl⟩
  rw [← hw1] at hb1 hr1
  have hz1 : w.heap.size < w1.heap.size := by rw [hw1]; simp
  have H1 := Lib.hid hw1.symm
  have HR1 := Lib.hid hr1
  have HX := Lib.hid hx
  obtain ⟨n, hn⟩ : ∃ n, n = L.length := ⟨_, rfl⟩
  have HN := Lib.hid hn
  rw [← hn] at hL ⊢
  clear hk hx hw1 hr1 hn
  go_enter Try.func8, Try.ntmps8
  go_wp2_with (first
    | (go_at_call 30; rw [H1.out]; refine (bNew_len n (by omega) _).mono ?_; rintro e w2 ⟨rfl, hrow2, hb2⟩; have hr2 := below_hold HR1.out hb2))
  obtain ⟨r, hr⟩ : ∃ r, r = w1.heap.size := ⟨_, rfl⟩
  rw [← hr] at hrow2 ⊢
  obtain ⟨p, hp⟩ : ∃ p, p = r + 1 := ⟨_, rfl⟩
  rw [← hp] at hrow2 ⊢
  have hwr : w.heap.size < r := by omega
  have hwp : w.heap.size < p := by omega
  have hb3 := below_box w2 (.cells #[.int .i64 g, .pointer (some ⟨p, 0, none⟩)] 30)
  have hd3 := heap_alloc_new w2 (.cells #[.int .i64 g, .pointer (some ⟨p, 0, none⟩)] 30)
  have hrow3 := hrow2.low hb3
  have hlt := hrow2.lt
  generalize w2.alloc (.cells #[.int .i64 g, .pointer (some ⟨p, 0, none⟩)] 30) = w3 at hb3 hd3 hrow3 ⊢
  have hr3 := below_hold hr2 hb3
  obtain ⟨gd, hgd⟩ : ∃ gd, gd = w2.heap.size := ⟨_, rfl⟩
  rw [← hgd] at hd3 hlt ⊢
  have hgr : gd ≠ r := by omega
  have hgw : w.heap.size < gd := by omega
  have hb03 : Below w.heap.size w w3 := (hb1.trans (hb2.mono (by omega))).trans (hb3.mono (by omega))
  rw [HN.out, ← part_zero L] at hrow3
  have HROW3 := Lib.hid hrow3
  have HD3 := Lib.hid hd3
  have HR3 := Lib.hid hr3
  clear hr hp hrow2 hrow3 hd3 hr3 hr2 hb3 hb2 hgd hlt
  go_loopw [14] (fun i wr => ∃ k : Nat, k ≤ n ∧ i = .int .i64 k ∧ Hid (BRow wr p r (part L k)) ∧ Hid (wr.heap[gd]? = some (.cells #[.int .i64 g, .pointer (some ⟨p, 0, none⟩)] 30 (0, 0))) ∧ Hid (wr.heap[w.heap.size]? = some (.cells #[.int .i64 0, .pointer none] 30 (0, 0))) ∧ Below w.heap.size w wr) (fun i _ => n - (intOf i).toNat)
  case atStart => exact ⟨0, by omega, rfl, HROW3, HD3, HR3, hb03⟩
  case round =>
    obtain ⟨k, hk, rfl, HROW, HD, HRC, hbr⟩ := hrel
    clear HROW3 HD3 HR3 hb03
    by_cases hlt : k < n
    · obtain ⟨b, off, rfl, hbl, hcc⟩ := HX.out (by have := HN.out; omega)
      have hkL : k < L.length := by have := HN.out; omega
      have hck := (hbr.cell (p := ⟨b, off + k, none⟩) hbl).trans (hcc k hkL)
      obtain ⟨bt, hbt⟩ : ∃ bt, L.getD k false = bt := ⟨_, rfl⟩
      rw [hbt] at hck
      have hps := part_set L k hkL bt hbt
      have HPS := Lib.hid hps
      have d1 : wr.cell? ⟨gd, 1, none⟩ = some (.pointer (some ⟨p, 0, none⟩)) := by rw [cell_of_row _ _ _ _ _ _ HD.out]; rfl
      have ek : (k : Int) < (n : Int) := by omega
      have HSET := Lib.hid (bSet_nat (show BRow wr.drew p r (part L k) from HROW.out) k (by rw [part_length L k (by omega)]; exact hkL) bt)
      have hpr : p ≠ r := by
        have h := HROW.out
        obtain ⟨_, l, _, h3, h4⟩ := h
        intro e
        rw [e, h4] at h3; simp at h3
      clear hbt hps hcc
      go_wp2
      go_still_tail 7, (by kernel_rfl)
      go_wp2_with (go_at_call 31; refine HSET.out.mono ?_; rintro e w4 ⟨rfl, hrow4, hw4⟩)
      have hbd : Below w.heap.size w wr.drew := hbr.drew
      have hw4b : Below w.heap.size wr.drew w4 := hw4.below (by omega)
      go_roundw
      case rel => exact ⟨k + 1, by omega, by go_num, by show BRow _ _ _ (part L (k + 1)); rw [HPS.out]; exact hrow4, by show w4.heap[gd]? = _; rw [hw4.2.2.2.2 _ hgr]; exact HD.out, by show w4.heap[w.heap.size]? = _; rw [hw4.2.2.2.2 _ (by omega)]; exact HRC.out, hbd.trans hw4b⟩
      case measure => simp [intOf]; omega
    · obtain rfl : k = n := by omega
      have hrc := HRC.out
      have d0 : wr.cell? ⟨gd, 0, none⟩ = some (.int .i64 g) := by rw [cell_of_row _ _ _ _ _ _ HD.out]; rfl
      have d1 : wr.cell? ⟨gd, 1, none⟩ = some (.pointer (some ⟨p, 0, none⟩)) := by rw [cell_of_row _ _ _ _ _ _ HD.out]; rfl
      go_wp2_with (with_reducible refine wpList_store2 rfl 30 sizeD (.tmp 4) (.tmp 26) rfl w.heap.size rfl _ _ _ _ rfl rfl rfl _ hrc ?_; intro w5 hw5 hr5)
      refine bodyPost_ret (v := .agg #[.int .i64 g, .pointer (some ⟨p, 0, none⟩)]) (results_cell_row rfl _ _ w.heap.size _ _ (0, 0) _ rfl hr5 Try.underlying30 rfl (by rw [sizeD]; rfl)) rfl ⟨p, r, rfl, ?_, hbr.trans (hw5.below (Nat.le_refl _))⟩
      have hrow := HROW.out
      rw [part_all L k (by have := HN.out; omega)] at hrow
      exact hrow.of_heap (hw5.2.2.2.2 _ (by omega)) (hw5.2.2.2.2 _ (by omega))
end Go.Proofs.Ytflkggoknmgbnaa
