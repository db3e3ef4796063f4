/- SuperOnce. -/
import Derived.Test.YtnpniackcdcooaaSupW
import Derived.Test.YtnpniackcdcooaaSupD
import Derived.StillTailTactics
namespace Go.Proofs.Ytnpniackcdcooaa
open Go.RowKit
set_option linter.unusedVariables false

theorem BSl.set5 {w : World} {g cap : Nat} {cur : Array Value} {l : List Int} {n : Nat} (h : BSl w (.slice (some ⟨g, 0, none⟩) n cap) l) (hn : l.length = n) (hg : w.heap[g]? = some (.cells cur 5 (0, 0))) (k : Nat) (hk : k < n) (y : Int) (hy : 0 ≤ y ∧ y ≤ 255) :
    BSl (w.setCell ⟨g, k, none⟩ (.int .u8 y)) (.slice (some ⟨g, 0, none⟩) n cap) (l.set k y) := by
  subst hn
  rcases h.2 with ⟨hv, _⟩ | ⟨a', c', hv, hc', hc⟩
  · simp at hv
  · obtain ⟨rfl, rfl⟩ : (⟨g, 0, none⟩ : Addr) = a' ∧ cap = c' := by simpa using hv
    have hg2 := heap_setCell_same w g k _ _ (.int .u8 y) hg
    refine ⟨byt_of_mem fun z hz => ?_, .inr ⟨_, cap, by rw [List.length_set], by rw [List.length_set]; exact hc', fun j hj => ?_⟩⟩
    · rcases List.mem_or_eq_of_mem_set hz with h1 | h1
      · exact byt_mem h.1 z h1
      · rw [h1]; exact hy
    · rw [List.length_set] at hj
      obtain ⟨h1, _, h3⟩ := hc j hj
      refine ⟨by simpa [World.setCell] using h1, rfl, ?_⟩
      simp only [Nat.zero_add] at h3 ⊢
      rw [cell_of_row _ _ _ _ _ _ hg] at h3
      rw [cell_of_row _ _ _ _ _ _ hg2]
      have hjc : j < cur.size := (Array.getElem?_eq_some_iff.1 h3).1
      by_cases e : k = j
      · subst e
        simp [List.getD_eq_getElem?_getD, hj, hjc]
      · rw [Array.getElem?_setIfInBounds_ne e, h3]
        simp [List.getD_eq_getElem?_getD, List.getElem?_set_ne e]

theorem encS_length (L : List Int) : (encS L).length = 256 := sealS_length _ (by rw [con_le]; decide)
/-- Encode's block, by its place. -/
theorem sEnc_blk {L : List Int} (hL : L.length = 12) (hT : Top L) (hf : frmS L = true) (w : World) :
    Calls Try.prog 7 #[supV L] w fun e w' => ∃ g cap cur, e = .returned (.tuple #[.slice (some ⟨g, 0, none⟩) 256 cap, .int .i64 0]) ∧ BSl w' (.slice (some ⟨g, 0, none⟩) 256 cap) (encS L) ∧
      w.heap.size ≤ g ∧ 256 ≤ cap ∧ Hid (w'.heap[g]? = some (.cells cur 5 (0, 0))) ∧ Hid (cur.toList.take 256 = (encS L).map (Value.int .u8)) ∧ Below w.heap.size w w' :=
  (sEnc_is hL hT hf w).mono fun e w' ⟨v', h1, h2, h3⟩ => by
    have hl2 := encS_length L
    rcases h2.2.2 with ⟨_, h0⟩ | ⟨g, cap, cur, hv, hg, hh, hc, _, _, ht⟩
    · omega
    · have hB := h2.bsl
      rw [hv, hl2] at hB
      exact ⟨g, cap, cur, by rw [h1, hv, hl2], hB, hg, by omega, hh, by rw [hl2] at ht; exact ht, h3⟩
theorem turned_not (L : List Int) (k : Nat) (hk : k < 252) (x b : Int) (hx : x = (encS L).getD k 0) (hxb : 0 ≤ x ∧ x ≤ 255) (hb0 : 0 ≤ b ∧ b ≤ 255) (hb : b ≠ 0) : ¬ sealed ((encS L).set k (bits BinOp.xor IntKind.u8 x b)) := by
  obtain ⟨h1, h2⟩ := xor_ne x b hxb hb0
  exact not_sealed (conS L 12) (conS_byt L 12) (by rw [con_le]; decide) k (by omega) _ h1 (by rw [show sealS (conS L 12) = encS L from rfl, ← hx]; exact fun e => hb (h2.1 e))
theorem zero_frm : frmS zeroS = false := by
  rw [frmS, show frmB (num zeroS 0) = false from by decide]; rfl
theorem zero_top : Top zeroS := fun i => by
  unfold num zeroS
  match i with
  | 0 | 1 | 2 | 3 | 4 | 5 | 6 | 7 | 8 | 9 | 10 | 11 => decide
  | n + 12 => exact (by decide : (0 : Int) ≤ 9223372036854775807)
theorem rSum_w {w0 w : World} {v : Value} {l : List Int} (hs : BSl w0 v l) (hk : Below w0.heap.size w0 w) (hl : l.length ≤ 140737488355300) (S : Int) (hS : S = sumS l) :
    Calls Try.prog 16 #[v] w fun e w' => e = .returned (.int .u32 S) ∧ w' = w := by
  rw [hS]; exact (rSum_any (hs.below hk) hl).mono fun e w' ⟨h1, h2⟩ => ⟨h1, h2.symm⟩

theorem infoRS5 : (Try.prog.info? 24).map (·.size) = some 12 := by kernel_rfl
theorem wpList_loadR5 {ops : Array Oper} {rest : List Oper} {o : Oper} {a : Act} {w : World} {Q : Exit → Act → World → Prop} (hgd : o.guard = none) (x : Operand) (ho : o.op = .load 24 x)
    (g : Nat) (hx : a.eval x = .pointer (some ⟨g, 0, none⟩)) (L : List Int) (hL : L.length = 12) (T : TypeId) (hg : w.heap[g]? = some (supO L T)) (h : wpList Try.prog ops Q rest (a.put o.dst (supV L)) w) : wpList Try.prog ops Q (o :: rest) a w :=
  wpList_load_row hgd 24 x ho g hx T _ (0, 0) _ hg Try.underlying24 rfl (by rw [infoRS5]; simp [hL]) h
theorem lOnce_bad (b st tg cu io ba t0 t1 t2 t3 t4 t5 : Int) (L : List Int) (hLL : L = [b, st, tg, cu, io, ba, t0, t1, t2, t3, t4, t5]) (hT : Top L) (hf : frmS L = false) (a c : Int) (w : World) : Calls Try.prog 5 #[.agg #[.int .i64 b, .int .i64 st, .int .i64 tg, .int .i64 cu, .int .i64 io, .int .i64 ba, .int .i64 t0, .int .i64 t1, .int .i64 t2, .int .i64 t3, .int .i64 t4, .int .i64 t5], .int .u64 a, .int .u8 c] w fun e w' => e = .returned (.bool true) ∧ Below w.heap.size w w' := by
  have hob := below_box w (supO L 24)
  have hh := heap_alloc_new w (supO L 24)
  obtain ⟨W1, hW1⟩ : ∃ W1, W1 = w.alloc (supO L 24) := ⟨_, rfl⟩
  rw [← hW1] at hob hh
  have hW2 : w.alloc (.cells #[.int .i64 b, .int .i64 st, .int .i64 tg, .int .i64 cu, .int .i64 io, .int .i64 ba, .int .i64 t0, .int .i64 t1, .int .i64 t2, .int .i64 t3, .int .i64 t4, .int .i64 t5] 24) = W1 := by rw [hW1, hLL]; rfl
  have hsz : w.heap.size < W1.heap.size := by rw [hW1]; simp
  have hL : L.length = 12 := by rw [hLL]; rfl
  have H2 := Lib.hid hW2
  have HH := Lib.hid hh
  have HEN := Lib.hid (sEnc_no hL hT hf)
  clear hW1 hW2 hh hLL hT hf
  go_enter Try.func5, Try.ntmps5
  go_wp2_with (first
    | (go_at_call 6; rw [H2.out]; refine (awake5_any _).mono ?_; rintro e w2 ⟨rfl, hb2⟩
       have hr2 : w2.heap[w.heap.size]? = some (supO L 24) := (hb2.block _ hsz).trans HH.out
       have hb02 := hob.trans (hb2.mono hob.size))
    | (with_reducible refine wpList_loadR5 rfl (.tmp 3) rfl w.heap.size rfl L hL _ hr2 ?_)
    | (go_at_call 7; refine (HEN.out _).mono ?_; rintro e w4 ⟨rfl, hb4⟩))
  go_ret
  exact ⟨rfl, hb02.trans (hb4.mono hb02.size)⟩
theorem lOnce_zero (b st tg cu io ba t0 t1 t2 t3 t4 t5 : Int) (L : List Int) (hLL : L = [b, st, tg, cu, io, ba, t0, t1, t2, t3, t4, t5]) (hT : Top L) (hf : frmS L = true) (a : Int) (w : World) : Calls Try.prog 5 #[.agg #[.int .i64 b, .int .i64 st, .int .i64 tg, .int .i64 cu, .int .i64 io, .int .i64 ba, .int .i64 t0, .int .i64 t1, .int .i64 t2, .int .i64 t3, .int .i64 t4, .int .i64 t5], .int .u64 a, .int .u8 0] w fun e w' => e = .returned (.bool true) ∧ Below w.heap.size w w' := by
  have hob := below_box w (supO L 24)
  have hh := heap_alloc_new w (supO L 24)
  obtain ⟨W1, hW1⟩ : ∃ W1, W1 = w.alloc (supO L 24) := ⟨_, rfl⟩
  rw [← hW1] at hob hh
  have hW2 : w.alloc (.cells #[.int .i64 b, .int .i64 st, .int .i64 tg, .int .i64 cu, .int .i64 io, .int .i64 ba, .int .i64 t0, .int .i64 t1, .int .i64 t2, .int .i64 t3, .int .i64 t4, .int .i64 t5] 24) = W1 := by rw [hW1, hLL]; rfl
  have hsz : w.heap.size < W1.heap.size := by rw [hW1]; simp
  have hL : L.length = 12 := by rw [hLL]; rfl
  have H2 := Lib.hid hW2
  have HH := Lib.hid hh
  have HEN := Lib.hid (sEnc_is hL hT hf)
  clear hW1 hW2 hh hLL hT hf
  go_enter Try.func5, Try.ntmps5
  go_wp2_with (first
    | (go_at_call 6; rw [H2.out]; refine (awake5_any _).mono ?_; rintro e w2 ⟨rfl, hb2⟩
       have hr2 : w2.heap[w.heap.size]? = some (supO L 24) := (hb2.block _ hsz).trans HH.out
       have hb02 := hob.trans (hb2.mono hob.size))
    | (with_reducible refine wpList_loadR5 rfl (.tmp 3) rfl w.heap.size rfl L hL _ hr2 ?_)
    | (go_at_call 7; refine (HEN.out _).mono ?_; rintro e w4 ⟨v4, rfl, hob4, hb4⟩))
  go_ret
  exact ⟨rfl, hb02.trans (hb4.mono hb02.size)⟩

set_option maxHeartbeats 1000000 in
theorem lOnce_turn (b st tg cu io ba t0 t1 t2 t3 t4 t5 : Int) (L : List Int) (hLL : L = [b, st, tg, cu, io, ba, t0, t1, t2, t3, t4, t5]) (hT : Top L) (hf : frmS L = true) (a c : Int) (ha0 : 0 ≤ a) (ha1 : a ≤ 18446744073709551615) (hc0 : 0 ≤ c) (hc1 : c ≤ 255) (hcz : c ≠ 0) (w : World) :
    Calls Try.prog 5 #[.agg #[.int .i64 b, .int .i64 st, .int .i64 tg, .int .i64 cu, .int .i64 io, .int .i64 ba, .int .i64 t0, .int .i64 t1, .int .i64 t2, .int .i64 t3, .int .i64 t4, .int .i64 t5], .int .u64 a, .int .u8 c] w fun e w' => e = .returned (.bool true) ∧ Below w.heap.size w w' := by
  have hob := below_box w (supO L 24)
  have hh := heap_alloc_new w (supO L 24)
  obtain ⟨W1, hW1⟩ : ∃ W1, W1 = w.alloc (supO L 24) := ⟨_, rfl⟩
  rw [← hW1] at hob hh
  have hW2 : w.alloc (.cells #[.int .i64 b, .int .i64 st, .int .i64 tg, .int .i64 cu, .int .i64 io, .int .i64 ba, .int .i64 t0, .int .i64 t1, .int .i64 t2, .int .i64 t3, .int .i64 t4, .int .i64 t5] 24) = W1 := by rw [hW1, hLL]; rfl
  have hsz : w.heap.size < W1.heap.size := by rw [hW1]; simp
  have hL : L.length = 12 := by rw [hLL]; rfl
  obtain ⟨k, hk⟩ : ∃ k : Nat, k = (a % 252).toNat := ⟨_, rfl⟩
  have hk1 : k < 252 := by omega
  have hki : (a % 252).toNat = k := hk.symm
  obtain ⟨x, hx⟩ : ∃ x, x = (encS L).getD k 0 := ⟨_, rfl⟩
  have hczb : (c == 0) = false := by simp [hcz]
  have H2 := Lib.hid hW2
  have HH := Lib.hid hh
  have HX := Lib.hid hx
  have HKI := Lib.hid hki
  have HCZ := Lib.hid hcz
  have HEN := Lib.hid (sEnc_blk hL hT hf)
  clear hW1 hW2 hh hLL hT hf hk hki hx hcz
  go_enter Try.func5, Try.ntmps5
  go_wp2_with (first
    | (go_at_call 6; rw [H2.out]; refine (awake5_any _).mono ?_; rintro e w2 ⟨rfl, hb2⟩
       have hr2 : w2.heap[w.heap.size]? = some (supO L 24) := (hb2.block _ hsz).trans HH.out
       have hb02 := hob.trans (hb2.mono hob.size))
    | (with_reducible refine wpList_loadR5 rfl (.tmp 3) rfl w.heap.size rfl L hL _ hr2 ?_)
    | (go_at_call 7; refine (HEN.out _).mono ?_; rintro e w4 ⟨g, cap, cur, rfl, hs4, hg4, hc4, HG4, HT4, hb4⟩
       have hb04 := hb02.trans (hb4.mono hb02.size)
       have hgw : w.heap.size ≤ g := Nat.le_trans hb02.size hg4
       have hxk : cur[k]? = some (.int .u8 x) := by
         have h0 := congrArg (fun L => L[k]?) HT4.out
         have hl2 := encS_length L
         simp only [List.getElem?_take, if_pos (show k < 256 by omega), List.getElem?_map, Array.getElem?_toList] at h0
         rw [h0, HX.out]
         simp [List.getD_eq_getElem?_getD, show k < (encS L).length by omega]
       have hcx : w4.cell? ⟨g, (a % 252).toNat, none⟩ = some (.int .u8 x) := by
         rw [cell_of_row _ _ _ _ _ _ HG4.out, HKI.out]; exact hxk
       have hfx : w4.frozen? ⟨g, (a % 252).toNat, none⟩ = false := by simp [World.frozen?, HG4.out]
       have hxb : 0 ≤ x ∧ x ≤ 255 := by rw [HX.out]; exact hs4.1 k
       have HS4 := Lib.hid hs4
       clear hxk hs4)
    | (go_at_call 13
       have hy := (xor_ne x c hxb ⟨hc0, hc1⟩).1
       have hn := turned_not L k hk1 x c HX.out hxb ⟨hc0, hc1⟩ HCZ.out
       have hs5 := BSl.set5 HS4.out (encS_length L) HG4.out k (by omega) _ hy
       have hb5 := hb04.setCell (p := ⟨g, k, none⟩) hgw (.int .u8 (bits BinOp.xor IntKind.u8 x c))
       rw [HKI.out]
       generalize w4.setCell ⟨g, k, none⟩ (.int .u8 (bits BinOp.xor IntKind.u8 x c)) = w5 at hs5 hb5 ⊢
       have hl5 : ((encS L).set k (bits BinOp.xor IntKind.u8 x c)).length = 256 := by rw [List.length_set, encS_length]
       generalize (encS L).set k (bits BinOp.xor IntKind.u8 x c) = l5 at hs5 hn hl5
       refine (sDec_not hs5 hn).mono ?_
       rintro e w6 ⟨rfl, hb6⟩
       have hs6 := hs5.below hb6
       have hb06 := hb5.trans (hb6.mono hb5.size))
    | (with_reducible refine wpList_storeS rfl (.tmp 9) (.tmp 46) rfl w6.heap.size rfl zeroS zeroS rfl rfl rfl _ (heap_alloc_new w6 _) ?_
       intro w7 hw7 hr7
       have hb7 : Below w6.heap.size w6 w7 := (below_box w6 _).trans (hw7.below (Nat.le_refl _))
       have hs7 := hs6.below hb7
       have hb07 := hb06.trans (hb7.mono hb06.size)))
  have hm : (l5.take 252).length = 252 := by rw [List.length_take]; omega
  have hsm : BSl w7 (.slice (some ⟨g, 0, none⟩) 252 cap) (l5.take 252) := BSl.take (by rw [hl5]; exact hs7) 252 (by omega)
  obtain ⟨m, hmm⟩ : ∃ m, m = l5.take 252 := ⟨_, rfl⟩
  rw [← hmm] at hm hsm
  obtain ⟨S, hS⟩ : ∃ S, S = sumS m := ⟨_, rfl⟩
  have hSb := sumS_bound m
  rw [← hS] at hSb
  have HS := Lib.hid hS
  have HM := Lib.hid hm
  have hbd : Below w7.heap.size w7 w7.drew := (Below.refl _ _).drew
  have HSM := Lib.hid (hsm.below hbd)
  have KS := Lib.hid (rSum_w hsm hbd (by omega) S hS)
  have HB7 := Lib.hid (hb07.trans (hbd.mono hb07.size))
  have hc252 : (252 : Int) ≤ (cap : Int) := by omega
  clear hs7 hs6 hs5 hn hm hsm hmm hS hb07 hb06 hb5 hb04 hgw hcx hfx hxb hb6 hb7 hw7 hr7 hb4 hg4 hr2 hb02 hob hb2 hsz hbd
  refine wp_region_still_tail 6 (by kernel_rfl) (by kernel_rfl) ?_
  simp only [List.take_succ_cons, List.take_zero, List.drop_succ_cons, List.drop_zero]
  repeat still_step
  still_call KS.out
  repeat still_step
  refine wpStill_nil ?_
  change wpList _ _ _ _ _ w7.drew
  generalize w7.drew = w8 at HSM HB7 ⊢
  obtain ⟨C, hC⟩ : ∃ C, C = m ++ lowB (sumS m) 4 := ⟨_, rfl⟩
  have KP : Hid (Calls Try.prog 15 #[.slice (some ⟨g, 0, none⟩) 252 cap, .int .u64 S, .int .i64 4] w8 (NewB w8 C)) := by rw [hC]; exact rPut4 HSM.out HM.out S HS.out
  clear hC KS
  by_cases hh : hasS C
  · obtain ⟨M, hMM⟩ : ∃ M, M = decS C := ⟨_, rfl⟩
    have hML : M.length = 12 := by rw [hMM]; exact rdS_length _
    have KD : ∀ (W : World) (v : Value), BSl W v C → Calls Try.prog 13 #[v] W fun e w' => e = .returned (.tuple #[supV M, .int .i64 0]) ∧ Below W.heap.size W w' := fun W v hs =>
      (sDec_of hs).mono fun e w' ⟨h1, h2⟩ => ⟨h2.elim (fun x => by rw [hMM]; exact x.2) (fun x => absurd hh x.1), h1⟩
    have hmf : frmS M = true := by rw [hMM]; exact hh.2.1
    have hme : encS M = C := by rw [hMM]; exact hh.2.2
    have KDH := Lib.hid KD
    have HME := Lib.hid hme
    have HMF := Lib.hid hmf
    have HMM := Lib.hid hMM
    clear KD hme hmf hMM hh
    go_wp2_with (first
      | (go_at_call 15; refine KP.out.mono ?_; rintro e w9 ⟨v9, rfl, hob9, hb9⟩
         have hb09 := HB7.out.trans (hb9.mono HB7.out.size)
         have htop : Top M := by rw [HMM.out]; exact top_rd (byt_take hob9.1 252))
      | (go_at_call 13; refine (KDH.out _ _ hob9.bsl).mono ?_; rintro e w10 ⟨rfl, hb10⟩
         have hb010 := hb09.trans (hb10.mono hb09.size))
      | (with_reducible refine wpList_storeS rfl (.tmp 12) (.tmp 58) rfl w10.heap.size rfl M zeroS rfl hML rfl _ (heap_alloc_new w10 _) ?_
         intro w11 hw11 hr11
         have hb11 : Below w10.heap.size w10 w11 := (below_box w10 _).trans (hw11.below (Nat.le_refl _))
         have hb011 := hb010.trans (hb11.mono hb010.size)
         have hs11 := (hob9.bsl.below hb10).below hb11)
      | (with_reducible refine wpList_loadS rfl (.tmp 12) rfl w10.heap.size rfl M hML _ hr11 ?_)
      | (go_at_call 7; refine (sEnc_is hML htop HMF.out _).mono ?_; rw [HME.out]; rintro e w12 ⟨v12, rfl, hob12, hb12⟩
         have hb012 := hb011.trans (hb12.mono hb011.size)
         have cv1 := conv_bsl hob12.bsl
         have cv2 := conv_bsl (hs11.below hb12)))
    go_ret
    exact ⟨by simp, hb012⟩
  · have KD : ∀ (W : World) (v : Value), BSl W v C → Calls Try.prog 13 #[v] W fun e w' => e = .returned (.tuple #[supV zeroS, .int .i64 18]) ∧ Below W.heap.size W w' := fun W v hs =>
      (sDec_of hs).mono fun e w' ⟨h1, h2⟩ => ⟨h2.elim (fun x => absurd x.1 hh) (fun x => x.2), h1⟩
    have KDH := Lib.hid KD
    clear KD hh
    go_wp2_with (first
      | (go_at_call 15; refine KP.out.mono ?_; rintro e w9 ⟨v9, rfl, hob9, hb9⟩
         have hb09 := HB7.out.trans (hb9.mono HB7.out.size))
      | (go_at_call 13; refine (KDH.out _ _ hob9.bsl).mono ?_; rintro e w10 ⟨rfl, hb10⟩
         have hb010 := hb09.trans (hb10.mono hb09.size))
      | (with_reducible refine wpList_storeS rfl (.tmp 12) (.tmp 58) rfl w10.heap.size rfl zeroS zeroS rfl rfl rfl _ (heap_alloc_new w10 _) ?_
         intro w11 hw11 hr11
         have hb11 : Below w10.heap.size w10 w11 := (below_box w10 _).trans (hw11.below (Nat.le_refl _))
         have hb011 := hb010.trans (hb11.mono hb010.size))
      | (with_reducible refine wpList_loadS rfl (.tmp 12) rfl w10.heap.size rfl zeroS rfl _ hr11 ?_)
      | (go_at_call 7; refine (sEnc_no (L := zeroS) rfl zero_top zero_frm _).mono ?_; rintro e w12 ⟨rfl, hb12⟩
         have hb012 := hb011.trans (hb12.mono hb011.size)))
    go_ret
    exact ⟨by simp, hb012⟩

theorem lOnce_of {v : Value} {w : World} (h : ∃ L : List Int, v = supV L ∧ L.length = 12 ∧ Top L) (a c : Int) (ha0 : 0 ≤ a) (ha1 : a ≤ 18446744073709551615) (hc0 : 0 ≤ c) (hc1 : c ≤ 255) :
    Calls Try.prog 5 #[v, .int .u64 a, .int .u8 c] w fun e w' => e = .returned (.bool true) ∧ Below w.heap.size w w' := by
  obtain ⟨L, rfl, hL, hT⟩ := h
  match L, hL with
  | [b, st, tg, cu, io, ba, t0, t1, t2, t3, t4, t5], _ =>
    cases hf : frmS [b, st, tg, cu, io, ba, t0, t1, t2, t3, t4, t5]
    · exact lOnce_bad b st tg cu io ba t0 t1 t2 t3 t4 t5 _ rfl hT hf a c w
    · by_cases hcz : c = 0
      · rw [hcz]; exact lOnce_zero b st tg cu io ba t0 t1 t2 t3 t4 t5 _ rfl hT hf a w
      · exact lOnce_turn b st tg cu io ba t0 t1 t2 t3 t4 t5 _ rfl hT hf a c ha0 ha1 hc0 hc1 hcz w
end Go.Proofs.Ytnpniackcdcooaa
