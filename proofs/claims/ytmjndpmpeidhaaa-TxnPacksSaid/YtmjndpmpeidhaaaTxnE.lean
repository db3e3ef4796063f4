/- Contracts of package txn: Pack. -/
import Derived.Test.YtmjndpmpeidhaaaTxnD
import Derived.Deep.RegionHeld3
namespace Go.Proofs.Ytmjndpmpeidhaaa
open Go.RowKit
set_option linter.unusedVariables false

/-- append of a [][]byte onto one of one's own, as one step of a region that draws. -/
theorem step_append_bbs (S : TypeId) (hS : Try.prog.underlying S = some (.slice 40)) {ops : Array Oper} {o : Oper} {a : Act} {w : World} {K : Act → World → Prop} {Q : Exit → Act → World → Prop} {E : Prop} (hgd : o.guard = none) (s y : Operand)
    (ho : o.op = .call { callee := .builtin .append, args := #[s, y], argTypes := #[S, S] })
    (B : Nat) (v : Value) (L : List (List Int)) (hs : a.eval s = v) (hown : BBR w B v L) (u : Value) (M : List (List Int)) (hy : a.eval y = u) (hr : BBE w B u M)
    (hlen : L.length + M.length ≤ 1000000) (hB : B ≤ w.heap.size)
    (h : ∀ v' w', BBR w' B v' (L ++ M) → Below B w w' → w.grownBy w' v.ownBlock → K (a.put o.dst v') w') :
    if Region.wanted o (yielded ops a.tmps) = true then Oper.wp Try.prog o a w K Q else E := by
  have hw : Region.wanted o (yielded ops a.tmps) = true := by simp [Region.wanted, hgd]
  rw [if_pos hw]
  obtain ⟨v', w', hr, h2, h3, h4⟩ := run_append_bbs S hS w B o.type v L hown u M hr hlen hB
  unfold Oper.wp execOp
  simp only [ho, resolve, invoke, builtin, Sem.run_bind, Sem.run_pure, Result.andThen_ok, List.map_toArray, List.map_cons, List.map_nil, hs, hy, hr]
  exact h v' w' h2 h3 h4
theorem grown_keep9 {w w' : World} {row : Option Nat} (h : w.grownBy w' row) (b o : Nat) (hb : b < w.heap.size) (hne : ∀ k, row = some k → k ≠ b) : w'.cell? ⟨b, o, none⟩ = w.cell? ⟨b, o, none⟩ := by
  apply World.cell?_of_block
  exact h.block b hb (fun e => hne b e.symm rfl)
theorem own_lit {g d n c : Nat} (h : d < g) : ∀ k, (Value.slice (some ⟨g, 0, none⟩) n c).ownBlock = some k → k ≠ d := fun k hk => by
  obtain rfl : g = k := by simpa [Value.ownBlock] using hk
  omega

theorem tPack_no {w : World} {v : Value} {q : Int} {N : List Int} {D : List (List Int)} (h : TxV w v q N D) (hf : frmT N D = false) :
    Calls Try.prog 7 #[v] w fun e w' => e = .returned (.tuple #[.slice none 0 0, .int .i64 1]) ∧ Below w.heap.size w w' := by
  have h' := h
  obtain ⟨no, nc, ao, dc, rfl, hN, hD⟩ := h
  obtain ⟨n, hn⟩ : ∃ n, n = N.length := ⟨_, rfl⟩
  obtain ⟨m, hm⟩ : ∃ m, m = D.length := ⟨_, rfl⟩
  rw [← hn, ← hm] at h' ⊢
  have hbx := below_box w (.cells #[.int .u32 q, .slice no n nc, .slice ao m dc] 33)
  have hnx := heap_alloc_new w (.cells #[.int .u32 q, .slice no n nc, .slice ao m dc] 33)
  have KF := Lib.hid (tForm_is (h'.below hbx) false hf)
  clear hN hD hn hm h' hf
  go_enter Try.func7, Try.ntmps7
  go_upto_region 1 with (fail)
  generalize w.alloc (.cells #[.int .u32 q, .slice no n nc, .slice ao m dc] 33) = u at hbx hnx KF ⊢
  have d0 : u.cell? ⟨w.heap.size, 0, none⟩ = some (.int .u32 q) := by rw [cell_of_row _ _ _ _ _ _ hnx]; rfl
  have d1 : u.cell? ⟨w.heap.size, 1, none⟩ = some (.slice no n nc) := by rw [cell_of_row _ _ _ _ _ _ hnx]; rfl
  have d2 : u.cell? ⟨w.heap.size, 2, none⟩ = some (.slice ao m dc) := by rw [cell_of_row _ _ _ _ _ _ hnx]; rfl
  clear hnx
  go_wp2_with (go_at_call 10; (with_reducible refine KF.out.mono ?_); rintro e w2 ⟨rfl, hb2⟩)
  go_ret2
  exact ⟨rfl, hbx.trans (hb2.mono hbx.size)⟩
set_option maxHeartbeats 1000000 in
theorem tPack_yes {w : World} {v : Value} {q : Int} {N : List Int} {D : List (List Int)} (h : TxV w v q N D) (hf : frmT N D = true) (q0 : 0 ≤ q) (q1 : q < 4294967296) :
    Calls Try.prog 7 #[v] w fun e w' => ∃ u, e = .returned (.tuple #[u, .int .i64 0]) ∧ BBSl w' u (packT q N D) ∧ Below w.heap.size w w' := by
  have h' := h
  obtain ⟨no, nc, ao, dc, rfl, hN, hD⟩ := h
  obtain ⟨f1, f2, f3⟩ := frmT_of hf
  have KH := Lib.hid (fun W (hb : Below w.heap.size w W) => tHead_of (hN.1.below hb) f1 (fun i hi => (f3 i hi).1) q0 q1)
  have KC := Lib.hid (fun W (hb : Below w.heap.size w W) => tCopies_of (hD.below hb) (by omega) (fun j => by
    by_cases hj : j < N.length
    · rw [(f3 j hj).2.1]; omega
    · rw [List.getD_eq_getElem?_getD, List.getElem?_eq_none (by omega)]; exact Nat.zero_le _) w.heap.size hb.size)
  have KE := Lib.hid (fun W => tEnd_of W q0 q1)
  have hD37 : D.length ≤ 37 := by omega
  have HL1 : Hid ([sealS (headL q N)].length + D.length ≤ 1000000) := Lib.hid (by simp; omega)
  have HL2 : Hid (([sealS (headL q N)] ++ D).length ≤ 100000) := Lib.hid (by simp; omega)
  have HPK : Hid (packT q N D = ([sealS (headL q N)] ++ D) ++ [sealS (endL q)]) := Lib.hid rfl
  have HLH : Hid ((sealS (headL q N)).length = 256) := Lib.hid (sealS_length _ (by rw [headL_length]; omega))
  have HLE : Hid ((sealS (endL q)).length = 256) := Lib.hid (sealS_length _ (by rw [endL_length]; omega))
  obtain ⟨n, hn⟩ : ∃ n, n = N.length := ⟨_, rfl⟩
  obtain ⟨m, hm⟩ : ∃ m, m = D.length := ⟨_, rfl⟩
  rw [← hn] at KH h' ⊢
  rw [← hm] at KC h' ⊢
  have hbx := below_box w (.cells #[.int .u32 q, .slice no n nc, .slice ao m dc] 33)
  have hnx := heap_alloc_new w (.cells #[.int .u32 q, .slice no n nc, .slice ao m dc] 33)
  have KF := Lib.hid (tForm_is (h'.below hbx) true hf)
  generalize sealS (headL q N) = HB at KH HL1 HL2 HPK HLH
  generalize sealS (endL q) = EB at KE HPK HLE
  clear hN hD hn hm h' hf f1 f2 f3 hD37 q0 q1
  go_enter Try.func7, Try.ntmps7
  go_upto_region 1 with (fail)
  have hzu : w.heap.size < (w.alloc (.cells #[.int .u32 q, .slice no n nc, .slice ao m dc] 33)).heap.size := by simp
  generalize w.alloc (.cells #[.int .u32 q, .slice no n nc, .slice ao m dc] 33) = u at hbx hnx KF hzu ⊢
  have d0 : u.cell? ⟨w.heap.size, 0, none⟩ = some (.int .u32 q) := by rw [cell_of_row _ _ _ _ _ _ hnx]; rfl
  have d1 : u.cell? ⟨w.heap.size, 1, none⟩ = some (.slice no n nc) := by rw [cell_of_row _ _ _ _ _ _ hnx]; rfl
  have d2 : u.cell? ⟨w.heap.size, 2, none⟩ = some (.slice ao m dc) := by rw [cell_of_row _ _ _ _ _ _ hnx]; rfl
  clear hnx
  go_wp2_with (go_at_call 10; (with_reducible refine KF.out.mono ?_); rintro e w2 ⟨rfl, hb2⟩)
  have HB2 : Hid (Below w.heap.size w w2.drew) := Lib.hid (below_drewN' (hbx.trans (hb2.mono hbx.size)) 1)
  have e0 : w2.drew.cell? ⟨w.heap.size, 0, none⟩ = some (.int .u32 q) := (hb2.cell (p := ⟨w.heap.size, 0, none⟩) hzu).trans d0
  have e1 : w2.drew.cell? ⟨w.heap.size, 1, none⟩ = some (.slice no n nc) := (hb2.cell (p := ⟨w.heap.size, 1, none⟩) hzu).trans d1
  have e2 : w2.drew.cell? ⟨w.heap.size, 2, none⟩ = some (.slice ao m dc) := (hb2.cell (p := ⟨w.heap.size, 2, none⟩) hzu).trans d2
  have hz2 : w.heap.size < w2.drew.heap.size := Nat.lt_of_lt_of_le hzu hb2.size
  obtain ⟨d, hd⟩ : ∃ d, d = w.heap.size := ⟨_, rfl⟩
  rw [← hd] at HB2 e0 e1 e2 hz2 KH KC ⊢
  have HD := Lib.hid hd
  clear d0 d1 d2 hbx hb2 hzu KF hd
  go_region_held3 (fun W => W.cell? ⟨d, 0, none⟩ = some (.int .u32 q) ∧ W.cell? ⟨d, 1, none⟩ = some (.slice no n nc) ∧ W.cell? ⟨d, 2, none⟩ = some (.slice ao m dc)) (first | exact ⟨i0, i1, i2⟩ | exact ⟨h0 _, h1 _, h2 _⟩ | exact ⟨g0, g1, g2⟩ | exact ⟨f0' _, f1' _, f2' _⟩ | exact ⟨f0, f1, f2⟩ | exact ⟨e0, e1, e2⟩) (first
    | (go_at_call 16; (with_reducible refine (KH.out _ HB2.out).mono ?_); rintro e w3 ⟨v3, rfl, hob3, hb3⟩
       obtain ⟨ho, hc, rfl, _⟩ := hob3.bsl.shape
       have HO3 := Lib.hid (hob3.elt (B := d))
       rw [HLH.out] at HO3 ⊢
       have f0 := (hb3.cell (p := ⟨d, 0, none⟩) hz2).trans e0
       have f1 := (hb3.cell (p := ⟨d, 1, none⟩) hz2).trans e1
       have f2 := (hb3.cell (p := ⟨d, 2, none⟩) hz2).trans e2
       have hz3 := Nat.lt_of_lt_of_le hz2 hb3.size
       have f0' := fun o => ((below_box w3 o).cell (p := ⟨d, 0, none⟩) hz3).trans f0
       have f1' := fun o => ((below_box w3 o).cell (p := ⟨d, 1, none⟩) hz3).trans f1
       have f2' := fun o => ((below_box w3 o).cell (p := ⟨d, 2, none⟩) hz3).trans f2
       have HB3 := Lib.hid (HB2.out.trans (hb3.mono (Nat.le_of_lt hz2)))
       clear hob3)
    | (go_at_call 17; (with_reducible refine (KC.out w3 HB3.out).mono ?_); rintro e w4 ⟨v4, rfl, hv4, hb4⟩
       have g0 := (hb4.cell (p := ⟨d, 0, none⟩) hz3).trans f0
       have g1 := (hb4.cell (p := ⟨d, 1, none⟩) hz3).trans f1
       have g2 := (hb4.cell (p := ⟨d, 2, none⟩) hz3).trans f2
       have hz4 := Nat.lt_of_lt_of_le hz3 hb4.size
       have h0 := fun o => ((below_box w4 o).cell (p := ⟨d, 0, none⟩) hz4).trans g0
       have h1 := fun o => ((below_box w4 o).cell (p := ⟨d, 1, none⟩) hz4).trans g1
       have h2 := fun o => ((below_box w4 o).cell (p := ⟨d, 2, none⟩) hz4).trans g2
       have HO4 := Lib.hid (HO3.out.below hb4)
       have HV4 := Lib.hid hv4.be
       have HB4 := Lib.hid (HB3.out.trans (hb4.mono (Nat.le_of_lt hz3))))
    | (go_at_call 17; (with_reducible refine (KC.out (w3.alloc _) (HB3.out.trans ((below_box w3 _).mono (Nat.le_of_lt hz3)))).mono ?_); rintro e w4 ⟨v4, rfl, hv4, hb4⟩
       have hza : d < (w3.alloc (.cells #[.slice ho 256 hc] 40)).heap.size := by simp; omega
       have g0 := (hb4.cell (p := ⟨d, 0, none⟩) hza).trans (f0' _)
       have g1 := (hb4.cell (p := ⟨d, 1, none⟩) hza).trans (f1' _)
       have g2 := (hb4.cell (p := ⟨d, 2, none⟩) hza).trans (f2' _)
       have HO4 := Lib.hid ((bbr_one HO3.out (Nat.le_of_lt hz3)).below hb4)
       have HV4 := Lib.hid hv4.be
       have hz4 := Nat.lt_of_lt_of_le hza hb4.size
       have HB4 := Lib.hid ((HB3.out.trans ((below_box w3 _).mono (Nat.le_of_lt hz3))).trans (hb4.mono (Nat.le_of_lt hza))))
    | (refine step_append_bbs 24 Try.underlying24 rfl (.tmp 13) (.tmp 16) rfl d _ [HB] rfl HO4.out v4 D rfl HV4.out HL1.out (Nat.le_of_lt hz4) ?_
       intro v5 w5 hv5 hb5 hg5
       have i0 := (grown_keep9 hg5 d 0 hz4 (own_lit hz3)).trans g0
       have i1 := (grown_keep9 hg5 d 1 hz4 (own_lit hz3)).trans g1
       have i2 := (grown_keep9 hg5 d 2 hz4 (own_lit hz3)).trans g2
       have HB5 := Lib.hid (HB4.out.trans hb5))
    | (refine step_append_bbs 24 Try.underlying24 rfl (.tmp 13) (.tmp 16) rfl d _ [HB] rfl (bbr_one HO4.out (Nat.le_of_lt hz4)) v4 D rfl (HV4.out.below (below_box w4 _)) HL1.out (Nat.le_trans (Nat.le_of_lt hz4) (below_box w4 _).size) ?_
       intro v5 w5 hv5 hb5 hg5
       have i0 := (grown_keep9 hg5 d 0 (Nat.lt_of_lt_of_le hz4 (below_box w4 _).size) (own_lit hz4)).trans (h0 _)
       have i1 := (grown_keep9 hg5 d 1 (Nat.lt_of_lt_of_le hz4 (below_box w4 _).size) (own_lit hz4)).trans (h1 _)
       have i2 := (grown_keep9 hg5 d 2 (Nat.lt_of_lt_of_le hz4 (below_box w4 _).size) (own_lit hz4)).trans (h2 _)
       have HB5 := Lib.hid ((HB4.out.trans ((below_box w4 _).mono (Nat.le_of_lt hz4))).trans hb5)))
  all_goals (
    have HBG := Lib.hid (by have := HB5.out.size; rw [← HD.out] at this; exact this)
    have HV5 := Lib.hid hv5
    clear g0 g1 g2 i1 i2 e0 e1 e2 f0 f1 f2 hv5 hv4
    go_wp2_with (first
      | (go_at_call 18; (with_reducible refine (KE.out _).mono ?_); rintro e w6 ⟨v6, rfl, hob6, hb6⟩
         obtain ⟨eo, ec, rfl, _⟩ := hob6.bsl.shape
         have HO6 := Lib.hid (hob6.elt (B := d))
         rw [HLE.out] at HO6 ⊢
         have HV6 := Lib.hid (HV5.out.below hb6)
         have HG6 := Lib.hid (Nat.le_trans HBG.out hb6.size)
         have HB6 := Lib.hid (HB5.out.trans (hb6.mono HBG.out))
         clear hob6)
      | (at_builtin; refine wpList_append_bb 24 Try.underlying24 w6 (.slice eo 256 ec) EB rfl (.tmp 18) (.tmp 22) rfl d v5 ([HB] ++ D) rfl HV6.out HO6.out w6.heap.size rfl rfl HL2.out HG6.out ?_; intro v7 w7 hv7 hb7))
    go_ret2
    exact ⟨_, rfl, by rw [HPK.out]; exact hv7.sl, by rw [← HD.out]; exact HB6.out.trans hb7⟩)
end Go.Proofs.Ytmjndpmpeidhaaa
