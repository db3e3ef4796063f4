/- DirentOnce: the walk of the law itself. -/
import Derived.Test.YteemjhnlnjkjcaaDirJ
import Derived.Test.YteemjhnlnjkjcaaPackN
namespace Go.Proofs.Yteemjhnlnjkjcaa
open Go.RowKit
set_option linter.unusedVariables false

theorem BSl.set8 {w : World} {g cap : Nat} {cur : Array Value} {l : List Int} {n : Nat} (h : BSl w (.slice (some ⟨g, 0, none⟩) n cap) l) (hn : l.length = n) (hg : w.heap[g]? = some (.cells cur 5 (0, 0))) (k : Nat) (hk : k < n) (y : Int) (hy : 0 ≤ y ∧ y ≤ 255) :
    BSl (w.setCell ⟨g, k, none⟩ (.int .u8 y)) (.slice (some ⟨g, 0, none⟩) n cap) (l.set k y) := by
  subst hn
  rcases h.2 with ⟨hv, _⟩ | ⟨a', c', hv, hc', hc⟩
  · simp at hv
  · obtain ⟨rfl, rfl⟩ : (⟨g, 0, none⟩ : Addr) = a' ∧ cap = c' := by simpa using hv
    have hg2 := heap_setCell_same w g k _ _ (.int .u8 y) hg
    refine ⟨byt_of_mem fun z hz => ?_, .inr ⟨_, cap, by rw [List.length_set], by rw [List.length_set]; exact hc', fun j hj => ?_⟩⟩
    · rcases List.mem_or_eq_of_mem_set hz with h1 | h1
      · exact byt_mem h.1 z h1
      · rw [h1]; exact hy
    · rw [List.length_set] at hj
      obtain ⟨h1, _, h3⟩ := hc j hj
      refine ⟨by simpa [World.setCell] using h1, rfl, ?_⟩
      simp only [Nat.zero_add] at h3 ⊢
      rw [cell_of_row _ _ _ _ _ _ hg] at h3
      rw [cell_of_row _ _ _ _ _ _ hg2]
      have hjc : j < cur.size := (Array.getElem?_eq_some_iff.1 h3).1
      by_cases e : k = j
      · subst e
        simp [List.getD_eq_getElem?_getD, hj, hjc]
      · rw [Array.getElem?_setIfInBounds_ne e, h3]
        simp [List.getD_eq_getElem?_getD, List.getElem?_set_ne e]
/-- Encode's block, by its place. -/
theorem eEnc_blk {O : List (Int × ByteArray)} {x : List Int} (hO : IsBlk O x) {w : World} {v : Value} (hs : ESl w v O) :
    Calls Try.prog 7 #[v] w fun e w' => ∃ g cap cur, e = .returned (.tuple #[.slice (some ⟨g, 0, none⟩) 256 cap, .int .i64 0]) ∧ BSl w' (.slice (some ⟨g, 0, none⟩) 256 cap) x ∧
      w.heap.size ≤ g ∧ 256 ≤ cap ∧ Hid (w'.heap[g]? = some (.cells cur 5 (0, 0))) ∧ Hid (cur.toList.take 256 = x.map (Value.int .u8)) ∧ Below w.heap.size w w' :=
  (eEnc_any hs).mono fun e w' h => by
    have hl2 := isBlk_len hO
    rcases h with ⟨_, v', h1, h2, h3⟩ | ⟨ht, _⟩
    · rw [hO.2] at h2
      rcases h2.2.2 with ⟨_, h0⟩ | ⟨g, cap, cur, hv, hg, hh, hc, _, _, ht⟩
      · omega
      · have hB := h2.bsl
        rw [hv, hl2] at hB
        exact ⟨g, cap, cur, by rw [h1, hv, hl2], hB, hg, by omega, hh, by rw [hl2] at ht; exact ht, h3⟩
    · rw [hO.1] at ht; cases ht
theorem eEnc_none {O : List (Int × ByteArray)} (hO : allE O = false) {w : World} {v : Value} (hs : ESl w v O) :
    Calls Try.prog 7 #[v] w fun e w' => e = .returned (.tuple #[.slice none 0 0, .int .i64 1]) ∧ Below w.heap.size w w' :=
  (eEnc_any hs).mono fun e w' h => by
    rcases h with ⟨ht, _⟩ | ⟨_, he, hb⟩
    · rw [hO] at ht; cases ht
    · exact ⟨he, hb⟩
theorem lOnce8_long (v2 v3 : Value) (ao : Option Addr) (len cap : Nat) (w : World) (h : 50 < len) : Calls Try.prog 5 #[.slice ao len cap, v2, v3] w fun e w' => e = .returned (.bool true) ∧ Below w.heap.size w w' := by
  have h50 : (50 : Int) < (len : Int) := by omega
  go_enter Try.func5, Try.ntmps5
  go_wp2_with (first
    | (go_at_call 6; with_reducible refine (awake8_any w).mono ?_; rintro e w1 ⟨rfl, hb1⟩)
    | (go_at_call 6; with_reducible refine (awake8_any w1).mono ?_; rintro e w2 ⟨rfl, hb2⟩))
  go_ret
  exact ⟨rfl, hb1.trans (hb2.mono hb1.size)⟩
theorem lOnce8_none {w : World} {v : Value} {O : List (Int × ByteArray)} (h : ESl w v O) (hO : O.length ≤ 50) (hn0 : allE O = false) (v2 v3 : Value) : Calls Try.prog 5 #[v, v2, v3] w fun e w' => e = .returned (.bool true) ∧ Below w.heap.size w w' := by
  have HTH := Lib.hid (fun W v (hs : ESl W v O) => theirs8_any (by omega) hs)
  have HEN := Lib.hid (fun W v (hs : ESl W v O) => eEnc_none hn0 hs)
  have HO1 := Lib.hid h
  obtain ⟨ao, cap, rfl, _⟩ := h.open'
  obtain ⟨n, hn⟩ : ∃ n, n = O.length := ⟨_, rfl⟩
  have hdl : decide ((50 : Int) < (n : Int)) = false := by simp; omega
  rw [← hn] at hO HO1 ⊢
  clear h hn hn0
  go_enter Try.func5, Try.ntmps5
  go_wp2_with (first
    | (go_at_call 6; refine (awake8_any _).mono ?_; rintro e w2 ⟨rfl, hb2⟩)
    | (go_at_call 8; (with_reducible refine (HTH.out _ _ (HO1.out.below hb2)).mono ?_); rintro e wt ⟨ut, rfl, hst, hbt⟩; have hb0t := hb2.trans (hbt.mono hb2.size))
    | (go_at_call 7; (with_reducible refine (HEN.out _ _ hst).mono ?_); rintro e w3 ⟨rfl, hb3⟩; have hb03 := hb0t.trans (hb3.mono hb0t.size)))
  go_ret
  exact ⟨rfl, hb03⟩
set_option maxHeartbeats 1000000 in
theorem lOnce8_blk {w : World} {v : Value} {O : List (Int × ByteArray)} {x : List Int} (h : ESl w v O) (hO : O.length ≤ 50) (hx : IsBlk O x) (a c : Int) (ha0 : 0 ≤ a) (ha1 : a ≤ 18446744073709551615) (hc0 : 0 ≤ c) (hc1 : c ≤ 255) :
    Calls Try.prog 5 #[v, .int .u64 a, .int .u8 c] w fun e w' => e = .returned (.bool true) ∧ Below w.heap.size w w' := by
  have hbx : Byt x := by rw [← hx.2]; exact encD_byt hx.1
  obtain ⟨k, hk⟩ : ∃ k : Nat, k = (a % 256).toNat := ⟨_, rfl⟩
  have hk1 : k < 256 := by omega
  have hki : (a % 256).toNat = k := hk.symm
  obtain ⟨z, hz⟩ : ∃ z, z = x.getD k 0 := ⟨_, rfl⟩
  have hzb : 0 ≤ z ∧ z ≤ 255 := by rw [hz]; exact hbx k
  have hy := (xor_ne z c hzb ⟨hc0, hc1⟩).1
  obtain ⟨y, hye⟩ : ∃ y, y = bits BinOp.xor IntKind.u8 z c := ⟨_, rfl⟩
  rw [← hye] at hy
  obtain ⟨Z, N, hZ, hN, Z1, Z2⟩ := dec_both8 (x.set k y)
  clear Z2
  have HTH := Lib.hid (fun W v (hs : ESl W v O) => theirs8_any (by omega) hs)
  have HEN := Lib.hid (fun W v (hs : ESl W v O) => eEnc_blk hx hs)
  have HST := Lib.hid (fun (W : World) g cap cur (h : BSl W (.slice (some ⟨g, 0, none⟩) 256 cap) x) hg => BSl.set8 (cur := cur) h (isBlk_len hx) hg k hk1 y hy)
  have HXL := Lib.hid (isBlk_len hx)
  have HO1 := Lib.hid h
  have HX := Lib.hid hz
  have HKI := Lib.hid hki
  have HYE := Lib.hid hye
  obtain ⟨l5, hl5⟩ : ∃ l5, l5 = x.set k y := ⟨_, rfl⟩
  rw [← hl5] at Z1 hN HST
  have HZ1 := Lib.hid Z1
  have HN := Lib.hid hN
  obtain ⟨ao, cap0, rfl, _⟩ := h.open'
  obtain ⟨n, hn⟩ : ∃ n, n = O.length := ⟨_, rfl⟩
  have hdl : decide ((50 : Int) < (n : Int)) = false := by simp; omega
  rw [← hn] at hO HO1 ⊢
  clear h hn hx hbx hk hki hz hy hye Z1 hN hl5
  rcases HN.out with ⟨rfl, hblk⟩ | ⟨rfl, _⟩
  · have KE := Lib.hid (fun W v (hs : ESl W v Z) => eEnc_blk hblk hs)
    clear hblk HN
    go_enter Try.func5, Try.ntmps5
    go_wp2_with (first
      | (go_at_call 6; refine (awake8_any _).mono ?_; rintro e w2 ⟨rfl, hb2⟩)
      | (go_at_call 8; (with_reducible refine (HTH.out _ _ (HO1.out.below hb2)).mono ?_); rintro e wt ⟨ut, rfl, hst, hbt⟩; have hb0t := hb2.trans (hbt.mono hb2.size))
      | (go_at_call 7; (with_reducible refine (HEN.out _ _ hst).mono ?_); rintro e w4 ⟨g, cap, cur, rfl, hs4, hg4, hc4, HG4, HT4, hb4⟩
         have hb04 := hb0t.trans (hb4.mono hb0t.size)
         have hgw : w.heap.size ≤ g := Nat.le_trans hb0t.size hg4
         have hxk : cur[k]? = some (.int .u8 z) := by
           have h0 := congrArg (fun L => L[k]?) HT4.out
           have hl2 := HXL.out
           simp only [List.getElem?_take, if_pos hk1, List.getElem?_map, Array.getElem?_toList] at h0
           rw [h0, HX.out]
           simp [List.getD_eq_getElem?_getD, show k < x.length by omega]
         have hcx : w4.cell? ⟨g, (a % 256).toNat, none⟩ = some (.int .u8 z) := by
           rw [cell_of_row _ _ _ _ _ _ HG4.out, HKI.out]; exact hxk
         have hfx : w4.frozen? ⟨g, (a % 256).toNat, none⟩ = false := by simp [World.frozen?, HG4.out]
         have HS4 := Lib.hid hs4
         clear hxk hs4)
      | (go_at_call 14
         have hs5 := HST.out w4 g cap cur HS4.out HG4.out
         have hb5 := hb04.setCell (p := ⟨g, k, none⟩) hgw (.int .u8 y)
         rw [HKI.out, ← HYE.out]
         generalize w4.setCell ⟨g, k, none⟩ (.int .u8 y) = w5 at hs5 hb5 ⊢
         refine (HZ1.out _ _ hs5).mono ?_
         rintro e w6 ⟨u6, rfl, ho6, hb6⟩
         have HS6 := Lib.hid (hs5.below hb6)
         have HO6 := Lib.hid ho6
         have hb06 := hb5.trans (hb6.mono hb5.size))
      | (go_at_call 7
         (with_reducible refine (KE.out _ _ HO6.out).mono ?_)
         rintro e w7 ⟨g7, cap7, cur7, rfl, hs7, _, _, _, _, hb7⟩
         have q1 := conv_bsl hs7
         have q2 := conv_bsl (HS6.out.below hb7)
         have hb07 := hb06.trans (hb7.mono hb06.size)))
    go_ret
    exact ⟨by simp, hb07⟩
  · clear HN
    go_enter Try.func5, Try.ntmps5
    go_wp2_with (first
      | (go_at_call 6; refine (awake8_any _).mono ?_; rintro e w2 ⟨rfl, hb2⟩)
      | (go_at_call 8; (with_reducible refine (HTH.out _ _ (HO1.out.below hb2)).mono ?_); rintro e wt ⟨ut, rfl, hst, hbt⟩; have hb0t := hb2.trans (hbt.mono hb2.size))
      | (go_at_call 7; (with_reducible refine (HEN.out _ _ hst).mono ?_); rintro e w4 ⟨g, cap, cur, rfl, hs4, hg4, hc4, HG4, HT4, hb4⟩
         have hb04 := hb0t.trans (hb4.mono hb0t.size)
         have hgw : w.heap.size ≤ g := Nat.le_trans hb0t.size hg4
         have hxk : cur[k]? = some (.int .u8 z) := by
           have h0 := congrArg (fun L => L[k]?) HT4.out
           have hl2 := HXL.out
           simp only [List.getElem?_take, if_pos hk1, List.getElem?_map, Array.getElem?_toList] at h0
           rw [h0, HX.out]
           simp [List.getD_eq_getElem?_getD, show k < x.length by omega]
         have hcx : w4.cell? ⟨g, (a % 256).toNat, none⟩ = some (.int .u8 z) := by
           rw [cell_of_row _ _ _ _ _ _ HG4.out, HKI.out]; exact hxk
         have hfx : w4.frozen? ⟨g, (a % 256).toNat, none⟩ = false := by simp [World.frozen?, HG4.out]
         have HS4 := Lib.hid hs4
         clear hxk hs4)
      | (go_at_call 14
         have hs5 := HST.out w4 g cap cur HS4.out HG4.out
         have hb5 := hb04.setCell (p := ⟨g, k, none⟩) hgw (.int .u8 y)
         rw [HKI.out, ← HYE.out]
         generalize w4.setCell ⟨g, k, none⟩ (.int .u8 y) = w5 at hs5 hb5 ⊢
         refine (HZ1.out _ _ hs5).mono ?_
         rintro e w6 ⟨u6, rfl, ho6, hb6⟩
         have HS6 := Lib.hid (hs5.below hb6)
         have HO6 := Lib.hid ho6
         have hb06 := hb5.trans (hb6.mono hb5.size)))
    go_ret
    exact ⟨rfl, hb06⟩
theorem lOnce8_any {w : World} {v : Value} (h : ∃ O, ESl w v O) (a c : Int) (ha0 : 0 ≤ a) (ha1 : a ≤ 18446744073709551615) (hc0 : 0 ≤ c) (hc1 : c ≤ 255) :
    Calls Try.prog 5 #[v, .int .u64 a, .int .u8 c] w fun e w' => e = .returned (.bool true) ∧ Below w.heap.size w w' := by
  obtain ⟨O, h⟩ := h
  by_cases hO : O.length ≤ 50
  · cases ha : allE O
    · exact lOnce8_none h hO ha _ _
    · exact lOnce8_blk h hO ⟨ha, rfl⟩ a c ha0 ha1 hc0 hc1
  · obtain ⟨ao, cap, rfl⟩ := h.shape
    exact lOnce8_long _ _ ao _ cap w (by omega)
end Go.Proofs.Yteemjhnlnjkjcaa
