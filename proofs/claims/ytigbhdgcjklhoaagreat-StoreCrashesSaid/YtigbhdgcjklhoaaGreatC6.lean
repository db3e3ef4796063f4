/- Contracts of package txn: head, end. -/
import Derived.Lib.SlBytesConst
import Derived.Deep.RegionHeld3
import Derived.BigQuiet
import Derived.Test.YtigbhdgcjklhoaaGreatC1
import Derived.Test.YtigbhdgcjklhoaaGreatC4
import Derived.Test.YtigbhdgcjklhoaaGreatC5
namespace Go.Proofs.YtigbhdgcjklhoaaGreat
set_option maxRecDepth 100000
open Go.RowKit
set_option linter.unusedVariables false

theorem bsl_lit9 (w : World) (l : List Int) (hb : Byt l) (n : Nat) (hn : l.length = n) (C : Array Value) (hC : C = (l.map (Value.int .u8)).toArray) (fz : Nat × Nat) : BSl (w.alloc (.cells C 5 fz)) (.slice (some ⟨w.heap.size, 0, none⟩) n n) l := by
  subst hC hn
  have hh : (w.alloc (.cells (l.map (Value.int .u8)).toArray 5 fz)).heap[w.heap.size]? = some (.cells (l.map (Value.int .u8)).toArray 5 fz) := by
    show (w.heap.push _)[w.heap.size]? = _
    simp
  refine ⟨hb, .inr ⟨⟨w.heap.size, 0, none⟩, l.length, rfl, Nat.le_refl _, fun j hj => ⟨by simp, rfl, ?_⟩⟩⟩
  show (w.alloc _).cell? ⟨w.heap.size, 0 + j, none⟩ = _
  rw [Nat.zero_add, cell_of_row _ _ _ _ _ _ hh]
  simp [hj, List.getD_eq_getElem?_getD]
theorem bsl_jrnl (w : World) : BSl (w.alloc (.cells #[.int .u8 106, .int .u8 114, .int .u8 110, .int .u8 108] 5 (4, 5))) (.slice (some ⟨w.heap.size, 0, none⟩) 4 4) jrnl :=
  bsl_lit9 w jrnl byt_jrnl 4 rfl _ rfl _
theorem bsl_done (w : World) : BSl (w.alloc (.cells #[.int .u8 100, .int .u8 111, .int .u8 110, .int .u8 101] 5 (4, 5))) (.slice (some ⟨w.heap.size, 0, none⟩) 4 4) done9 :=
  bsl_lit9 w done9 byt_done 4 rfl _ rfl _
theorem below_boxF (w : World) (C : Array Value) (T : TypeId) (fz : Nat × Nat) : Below w.heap.size w (w.alloc (.cells C T fz)) := below_box w _

/-- The head's content as far as k numbers are laid. -/
def headK (q : Int) (N : List Int) (k : Nat) : List Int := jrnl ++ lowB q 4 ++ lowB (N.length : Int) 2 ++ numL (N.take k)
theorem headK_full (q : Int) (N : List Int) : headK q N N.length = headL q N := by unfold headK headL; rw [List.take_length]
theorem headK_succ (q : Int) (N : List Int) (k : Nat) (hk : k < N.length) : headK q N k ++ lowB (N.getD k 0) 2 = headK q N (k + 1) := by
  unfold headK
  rw [numL_take N k hk, List.append_assoc]
theorem headK_zero (q : Int) (N : List Int) : headK q N 0 = jrnl ++ lowB q 4 ++ lowB (N.length : Int) 2 := by
  unfold headK
  rw [List.take_zero]
  show _ ++ [] = _
  rw [List.append_nil]
theorem headK_length (q : Int) (N : List Int) (k : Nat) (h : k ≤ 37) : (headK q N k).length ≤ 252 := by
  unfold headK
  simp only [List.length_append, lowB_length, numL_length, List.length_take]
  have : jrnl.length = 4 := rfl
  omega

theorem tHead_of {w : World} {v : Value} {q : Int} {N : List Int} (hs : ISl w v N) (h37 : N.length ≤ 37) (hx : ∀ i, i < N.length → 0 ≤ N.getD i 0 ∧ N.getD i 0 ≤ 767) (q0 : 0 ≤ q) (q1 : q < 4294967296) :
    Calls Tryz.prog 71 #[.int .u32 q, v] w (NewB w (sealS (headL q N))) := by
  obtain ⟨ao, cap, rfl, hc⟩ := hs.open'
  have HZ := Lib.hid (headK_zero q N)
  have HS := Lib.hid (headK_succ q N)
  have HF := Lib.hid (headK_full q N)
  have HLN := Lib.hid (headK_length q N)
  have HX := Lib.hid hx
  obtain ⟨n, hn⟩ : ∃ n, n = N.length := ⟨_, rfl⟩
  rw [← hn] at hc h37 HZ HS HF HX ⊢
  have HC := Lib.hid hc
  have kc := fun (w : World) (C : Array Value) (n c : Nat) => Lib.run_convert_bytes_const (P := Tryz.prog) w 59 5 C n c Tryz.underlying59 Tryz.underlying5
  have hwq : IntKind.u64.wrap q = q := IntWalk.u64_in _ (by omega)
  have hwn : IntKind.u64.wrap (n : Int) = (n : Int) := IntWalk.u64_in _ (by omega)
  have K1 := Lib.hid (pPut_at (bsl_jrnl w) (by decide) q 4 4 (by omega) (by omega) rfl q0 (by omega))
  have K2 := Lib.hid (fun W v (hv : BSl W v (jrnl ++ lowB q 4)) => pPut_at hv (by rw [List.length_append, lowB_length]; decide) (n : Int) 2 2 (by omega) (by omega) rfl (by omega) (by omega))
  have hb1 := below_boxF w #[.int .u8 106, .int .u8 114, .int .u8 110, .int .u8 108] 5 (4, 5)
  clear hs hc hx hn q1 q0
  go_enter Tryz.func71, Tryz.ntmps71
  go_wp2_with (first
    | (go_at_call 77; (with_reducible refine K1.out.mono ?_); rintro e w2 ⟨v2, rfl, hob2, hb2⟩
       have HB2 := Lib.hid (hb1.trans (hb2.mono hb1.size)))
    | (go_at_call 77; (with_reducible refine (K2.out _ _ hob2.bsl).mono ?_); rintro e w3 ⟨v3, rfl, hob3, hb3⟩
       have HB3 := Lib.hid (HB2.out.trans (hb3.mono HB2.out.size))))
  have HV3 : Hid (BSl w3 v3 (headK q N 0)) := Lib.hid (by rw [HZ.out]; exact hob3.bsl)
  clear hob2 hob3 hb1 hb2 hb3 kc
  go_loopw [5, 22] (fun u i wr => ∃ k : Nat, k ≤ n ∧ i = .int .i64 k ∧ Hid (BSl wr u (headK q N k)) ∧ Hid (Below w.heap.size w wr)) (fun _ i _ => n - (intOf i).toNat)
  case atStart => exact ⟨0, by omega, rfl, HV3, HB3⟩
  case round =>
    obtain ⟨k, hk, rfl, HV, HB⟩ := hrel
    clear HV3 HB3
    by_cases hlt : k < n
    · obtain ⟨b, off, rfl, hb, hcc⟩ := HC.out (by omega)
      have hck := (HB.out.cell (p := ⟨b, off + k, none⟩) hb).trans (hcc k hlt)
      obtain ⟨x0, x1⟩ := HX.out k hlt
      have hs1 := HS.out k hlt
      obtain ⟨x, hxx⟩ : ∃ x, x = N.getD k 0 := ⟨_, rfl⟩
      rw [← hxx] at hck x0 x1 hs1
      have HS1 := Lib.hid hs1
      have ek : (k : Int) < (n : Int) := by omega
      have hwx : IntKind.u64.wrap x = x := IntWalk.u64_in _ (by omega)
      have KP := Lib.hid (pPut_at HV.out (by have := HLN.out k (by omega); omega) x 2 2 (by omega) (by omega) rfl x0 (by omega))
      clear hcc hb hxx hs1
      go_wp2_with (go_at_call 77; (with_reducible refine KP.out.mono ?_); rintro e w4 ⟨v4, rfl, hob4, hb4⟩)
      go_roundw
      case rel => exact ⟨k + 1, by omega, by go_num, by show BSl _ _ _; rw [← HS1.out]; exact hob4.bsl, HB.out.trans (hb4.mono HB.out.size)⟩
      case measure => simp [intOf]; omega
    · obtain rfl : k = n := by omega
      have KS := Lib.hid (pSeal_yes HV.out (HLN.out k (by omega)))
      go_wp2_with (go_at_call 76; (with_reducible refine KS.out.mono ?_); rintro e w5 ⟨v5, rfl, hob5, hb5⟩)
      go_ret
      refine ⟨_, rfl, ?_, HB.out.trans (hb5.mono HB.out.size)⟩
      rw [← HF.out]
      exact hob5.more HB.out.size
theorem tEnd_of (w : World) {q : Int} (q0 : 0 ≤ q) (q1 : q < 4294967296) : Calls Tryz.prog 62 #[.int .u32 q] w (NewB w (sealS (endL q))) := by
  have kc := fun (w : World) (C : Array Value) (n c : Nat) => Lib.run_convert_bytes_const (P := Tryz.prog) w 59 5 C n c Tryz.underlying59 Tryz.underlying5
  have hwq : IntKind.u64.wrap q = q := IntWalk.u64_in _ (by omega)
  have K1 := Lib.hid (pPut_at (bsl_done w) (by decide) q 4 4 (by omega) (by omega) rfl q0 (by omega))
  have K2 := Lib.hid (fun W v (hv : BSl W v (done9 ++ lowB q 4)) => pSeal_yes hv (by rw [List.length_append, lowB_length]; decide))
  have hb1 := below_boxF w #[.int .u8 100, .int .u8 111, .int .u8 110, .int .u8 101] 5 (4, 5)
  clear q1 q0
  go_enter Tryz.func62, Tryz.ntmps62
  go_wp2_with (first
    | (go_at_call 77; (with_reducible refine K1.out.mono ?_); rintro e w2 ⟨v2, rfl, hob2, hb2⟩
       have HB2 := Lib.hid (hb1.trans (hb2.mono hb1.size)))
    | (go_at_call 76; (with_reducible refine (K2.out _ _ hob2.bsl).mono ?_); rintro e w3 ⟨v3, rfl, hob3, hb3⟩))
  go_ret
  exact ⟨_, rfl, hob3.more HB2.out.size, HB2.out.trans (hb3.mono HB2.out.size)⟩
end Go.Proofs.YtigbhdgcjklhoaaGreat

/- Contracts of package txn: Pack. -/
namespace Go.Proofs.YtigbhdgcjklhoaaGreat
set_option maxRecDepth 100000
open Go.RowKit
set_option linter.unusedVariables false

/-- append of a [][]byte onto one of one's own, as one step of a region that draws. -/
theorem step_append_bbs (S : TypeId) (hS : Tryz.prog.underlying S = some (.slice 59)) {ops : Array Oper} {o : Oper} {a : Act} {w : World} {K : Act → World → Prop} {Q : Exit → Act → World → Prop} {E : Prop} (hgd : o.guard = none) (s y : Operand)
    (ho : o.op = .call { callee := .builtin .append, args := #[s, y], argTypes := #[S, S] })
    (B : Nat) (v : Value) (L : List (List Int)) (hs : a.eval s = v) (hown : BBR w B v L) (u : Value) (M : List (List Int)) (hy : a.eval y = u) (hr : BBE w B u M)
    (hlen : L.length + M.length ≤ 1000000) (hB : B ≤ w.heap.size)
    (h : ∀ v' w', BBR w' B v' (L ++ M) → Below B w w' → w.grownBy w' v.ownBlock → K (a.put o.dst v') w') :
    if Region.wanted o (yielded ops a.tmps) = true then Oper.wp Tryz.prog o a w K Q else E := by
  have hw : Region.wanted o (yielded ops a.tmps) = true := by simp [Region.wanted, hgd]
  rw [if_pos hw]
  obtain ⟨v', w', hr, h2, h3, h4⟩ := run_append_bbs S hS w B o.type v L hown u M hr hlen hB
  unfold Oper.wp execOp
  simp only [ho, resolve, invoke, builtin, Sem.run_bind, Sem.run_pure, Result.andThen_ok, List.map_toArray, List.map_cons, List.map_nil, hs, hy, hr]
  exact h v' w' h2 h3 h4
theorem step_append_bb2 (S : TypeId) (hS : Tryz.prog.underlying S = some (.slice 59)) {ops : Array Oper} {o : Oper} {a : Act} {w : World} {K : Act → World → Prop} {Q : Exit → Act → World → Prop} {X : Prop} (hgd : o.guard = none) (s y : Operand)
    (ho : o.op = .call { callee := .builtin .append, args := #[s, y], argTypes := #[S, S] })
    (B E : Nat) (hEB : E ≤ B) (v : Value) (L : List (List Int)) (hs : a.eval s = v) (hown : BB2 w B E v L) (u : Value) (M : List (List Int)) (hy : a.eval y = u) (hr : BBE w E u M)
    (hlen : L.length + M.length ≤ 1000000) (hB : B ≤ w.heap.size)
    (h : ∀ v' w', BB2 w' B E v' (L ++ M) → Below B w w' → w.grownBy w' v.ownBlock → K (a.put o.dst v') w') :
    if Region.wanted o (yielded ops a.tmps) = true then Oper.wp Tryz.prog o a w K Q else X := by
  have hw : Region.wanted o (yielded ops a.tmps) = true := by simp [Region.wanted, hgd]
  rw [if_pos hw]
  obtain ⟨v', w', hr, h2, h3, h4⟩ := run_append_bb2 S hS w B E hEB o.type v L hown u M hr hlen hB
  unfold Oper.wp execOp
  simp only [ho, resolve, invoke, builtin, Sem.run_bind, Sem.run_pure, Result.andThen_ok, List.map_toArray, List.map_cons, List.map_nil, hs, hy, hr]
  exact h v' w' h2 h3 h4
theorem grown_keep9 {w w' : World} {row : Option Nat} (h : w.grownBy w' row) (b o : Nat) (hb : b < w.heap.size) (hne : ∀ k, row = some k → k ≠ b) : w'.cell? ⟨b, o, none⟩ = w.cell? ⟨b, o, none⟩ := by
  apply World.cell?_of_block
  exact h.block b hb (fun e => hne b e.symm rfl)
theorem own_lit {g d n c : Nat} (h : d < g) : ∀ k, (Value.slice (some ⟨g, 0, none⟩) n c).ownBlock = some k → k ≠ d := fun k hk => by
  obtain rfl : g = k := by simpa [Value.ownBlock] using hk
  omega

theorem tPack_no {w : World} {v : Value} {q : Int} {N : List Int} {D : List (List Int)} (h : TxV w v q N D) (hf : frmT N D = false) :
    Calls Tryz.prog 74 #[v] w fun e w' => e = .returned (.tuple #[.slice none 0 0, .int .i64 1]) ∧ Below w.heap.size w w' := by
  have h' := h
  obtain ⟨no, nc, ao, dc, rfl, hN, hD⟩ := h
  obtain ⟨n, hn⟩ : ∃ n, n = N.length := ⟨_, rfl⟩
  obtain ⟨m, hm⟩ : ∃ m, m = D.length := ⟨_, rfl⟩
  rw [← hn, ← hm] at h' ⊢
  have hbx := below_box w (.cells #[.int .u32 q, .slice no n nc, .slice ao m dc] 71)
  have hnx := heap_alloc_new w (.cells #[.int .u32 q, .slice no n nc, .slice ao m dc] 71)
  have KF := Lib.hid (tForm_is (h'.below hbx) false hf)
  clear hN hD hn hm h' hf
  go_enter Tryz.func74, Tryz.ntmps74
  go_upto_region 1 with (fail)
  generalize w.alloc (.cells #[.int .u32 q, .slice no n nc, .slice ao m dc] 71) = u at hbx hnx KF ⊢
  have d0 : u.cell? ⟨w.heap.size, 0, none⟩ = some (.int .u32 q) := by rw [cell_of_row _ _ _ _ _ _ hnx]; rfl
  have d1 : u.cell? ⟨w.heap.size, 1, none⟩ = some (.slice no n nc) := by rw [cell_of_row _ _ _ _ _ _ hnx]; rfl
  have d2 : u.cell? ⟨w.heap.size, 2, none⟩ = some (.slice ao m dc) := by rw [cell_of_row _ _ _ _ _ _ hnx]; rfl
  clear hnx
  go_wp2_with (go_at_call 65; (with_reducible refine KF.out.mono ?_); rintro e w2 ⟨rfl, hb2⟩)
  go_ret2
  exact ⟨rfl, hbx.trans (hb2.mono hbx.size)⟩
set_option maxHeartbeats 1000000 in
theorem tPack_own {w : World} {v : Value} {q : Int} {N : List Int} {D : List (List Int)} (h : TxV w v q N D) (hf : frmT N D = true) (q0 : 0 ≤ q) (q1 : q < 4294967296) :
    Calls Tryz.prog 74 #[v] w fun e w' => ∃ u, e = .returned (.tuple #[u, .int .i64 0]) ∧ BB2 w' w.heap.size 0 u (packT q N D) ∧ Below w.heap.size w w' := by
  have h' := h
  obtain ⟨no, nc, ao, dc, rfl, hN, hD⟩ := h
  obtain ⟨f1, f2, f3⟩ := frmT_of hf
  have KH := Lib.hid (fun W (hb : Below w.heap.size w W) => tHead_of (hN.1.below hb) f1 (fun i hi => (f3 i hi).1) q0 q1)
  have KC := Lib.hid (fun W (hb : Below w.heap.size w W) => tCopies_of (hD.below hb) (by omega) (fun j => by
    by_cases hj : j < N.length
    · rw [(f3 j hj).2.1]; omega
    · rw [List.getD_eq_getElem?_getD, List.getElem?_eq_none (by omega)]; exact Nat.zero_le _) 0 (Nat.zero_le _))
  have KE := Lib.hid (fun W => tEnd_of W q0 q1)
  have hD37 : D.length ≤ 37 := by omega
  have HL1 : Hid ([sealS (headL q N)].length + D.length ≤ 1000000) := Lib.hid (by simp; omega)
  have HL2 : Hid (([sealS (headL q N)] ++ D).length ≤ 100000) := Lib.hid (by simp; omega)
  have HPK : Hid (packT q N D = ([sealS (headL q N)] ++ D) ++ [sealS (endL q)]) := Lib.hid rfl
  have HLH : Hid ((sealS (headL q N)).length = 256) := Lib.hid (sealS_length _ (by rw [headL_length]; omega))
  have HLE : Hid ((sealS (endL q)).length = 256) := Lib.hid (sealS_length _ (by rw [endL_length]; omega))
  obtain ⟨n, hn⟩ : ∃ n, n = N.length := ⟨_, rfl⟩
  obtain ⟨m, hm⟩ : ∃ m, m = D.length := ⟨_, rfl⟩
  rw [← hn] at KH h' ⊢
  rw [← hm] at KC h' ⊢
  have hbx := below_box w (.cells #[.int .u32 q, .slice no n nc, .slice ao m dc] 71)
  have hnx := heap_alloc_new w (.cells #[.int .u32 q, .slice no n nc, .slice ao m dc] 71)
  have KF := Lib.hid (tForm_is (h'.below hbx) true hf)
  generalize sealS (headL q N) = HB at KH HL1 HL2 HPK HLH
  generalize sealS (endL q) = EB at KE HPK HLE
  clear hN hD hn hm h' hf f1 f2 f3 hD37 q0 q1
  go_enter Tryz.func74, Tryz.ntmps74
  go_upto_region 1 with (fail)
  have hzu : w.heap.size < (w.alloc (.cells #[.int .u32 q, .slice no n nc, .slice ao m dc] 71)).heap.size := by simp
  generalize w.alloc (.cells #[.int .u32 q, .slice no n nc, .slice ao m dc] 71) = u at hbx hnx KF hzu ⊢
  have d0 : u.cell? ⟨w.heap.size, 0, none⟩ = some (.int .u32 q) := by rw [cell_of_row _ _ _ _ _ _ hnx]; rfl
  have d1 : u.cell? ⟨w.heap.size, 1, none⟩ = some (.slice no n nc) := by rw [cell_of_row _ _ _ _ _ _ hnx]; rfl
  have d2 : u.cell? ⟨w.heap.size, 2, none⟩ = some (.slice ao m dc) := by rw [cell_of_row _ _ _ _ _ _ hnx]; rfl
  clear hnx
  go_wp2_with (go_at_call 65; (with_reducible refine KF.out.mono ?_); rintro e w2 ⟨rfl, hb2⟩)
  have HB2 : Hid (Below w.heap.size w w2.drew) := Lib.hid (below_drewN' (hbx.trans (hb2.mono hbx.size)) 1)
  have e0 : w2.drew.cell? ⟨w.heap.size, 0, none⟩ = some (.int .u32 q) := (hb2.cell (p := ⟨w.heap.size, 0, none⟩) hzu).trans d0
  have e1 : w2.drew.cell? ⟨w.heap.size, 1, none⟩ = some (.slice no n nc) := (hb2.cell (p := ⟨w.heap.size, 1, none⟩) hzu).trans d1
  have e2 : w2.drew.cell? ⟨w.heap.size, 2, none⟩ = some (.slice ao m dc) := (hb2.cell (p := ⟨w.heap.size, 2, none⟩) hzu).trans d2
  have hz2 : w.heap.size < w2.drew.heap.size := Nat.lt_of_lt_of_le hzu hb2.size
  obtain ⟨d, hd⟩ : ∃ d, d = w.heap.size := ⟨_, rfl⟩
  rw [← hd] at HB2 e0 e1 e2 hz2 KH KC ⊢
  have HD := Lib.hid hd
  clear d0 d1 d2 hbx hb2 hzu KF hd
  go_region_held3 (fun W => W.cell? ⟨d, 0, none⟩ = some (.int .u32 q) ∧ W.cell? ⟨d, 1, none⟩ = some (.slice no n nc) ∧ W.cell? ⟨d, 2, none⟩ = some (.slice ao m dc)) (first | exact ⟨i0, i1, i2⟩ | exact ⟨h0 _, h1 _, h2 _⟩ | exact ⟨g0, g1, g2⟩ | exact ⟨f0' _, f1' _, f2' _⟩ | exact ⟨f0, f1, f2⟩ | exact ⟨e0, e1, e2⟩) (first
    | (go_at_call 71; (with_reducible refine (KH.out _ HB2.out).mono ?_); rintro e w3 ⟨v3, rfl, hob3, hb3⟩
       obtain ⟨ho, hc, rfl, _⟩ := hob3.bsl.shape
       have HO3 := Lib.hid (hob3.elt (B := 0))
       rw [HLH.out] at HO3 ⊢
       have f0 := (hb3.cell (p := ⟨d, 0, none⟩) hz2).trans e0
       have f1 := (hb3.cell (p := ⟨d, 1, none⟩) hz2).trans e1
       have f2 := (hb3.cell (p := ⟨d, 2, none⟩) hz2).trans e2
       have hz3 := Nat.lt_of_lt_of_le hz2 hb3.size
       have f0' := fun o => ((below_box w3 o).cell (p := ⟨d, 0, none⟩) hz3).trans f0
       have f1' := fun o => ((below_box w3 o).cell (p := ⟨d, 1, none⟩) hz3).trans f1
       have f2' := fun o => ((below_box w3 o).cell (p := ⟨d, 2, none⟩) hz3).trans f2
       have HB3 := Lib.hid (HB2.out.trans (hb3.mono (Nat.le_of_lt hz2)))
       clear hob3)
    | (go_at_call 64; (with_reducible refine (KC.out w3 HB3.out).mono ?_); rintro e w4 ⟨v4, rfl, hv4, hb4⟩
       have g0 := (hb4.cell (p := ⟨d, 0, none⟩) hz3).trans f0
       have g1 := (hb4.cell (p := ⟨d, 1, none⟩) hz3).trans f1
       have g2 := (hb4.cell (p := ⟨d, 2, none⟩) hz3).trans f2
       have hz4 := Nat.lt_of_lt_of_le hz3 hb4.size
       have h0 := fun o => ((below_box w4 o).cell (p := ⟨d, 0, none⟩) hz4).trans g0
       have h1 := fun o => ((below_box w4 o).cell (p := ⟨d, 1, none⟩) hz4).trans g1
       have h2 := fun o => ((below_box w4 o).cell (p := ⟨d, 2, none⟩) hz4).trans g2
       have HO4 := Lib.hid (HO3.out.below hb4)
       have HV4 := Lib.hid hv4.be
       have HB4 := Lib.hid (HB3.out.trans (hb4.mono (Nat.le_of_lt hz3))))
    | (go_at_call 64; (with_reducible refine (KC.out (w3.alloc _) (HB3.out.trans ((below_box w3 _).mono (Nat.le_of_lt hz3)))).mono ?_); rintro e w4 ⟨v4, rfl, hv4, hb4⟩
       have hza : d < (w3.alloc (.cells #[.slice ho 256 hc] 59)).heap.size := by simp; omega
       have g0 := (hb4.cell (p := ⟨d, 0, none⟩) hza).trans (f0' _)
       have g1 := (hb4.cell (p := ⟨d, 1, none⟩) hza).trans (f1' _)
       have g2 := (hb4.cell (p := ⟨d, 2, none⟩) hza).trans (f2' _)
       have HO4 := Lib.hid ((bb2_one HO3.out (Nat.le_of_lt hz3)).below hb4)
       have HV4 := Lib.hid hv4.be
       have hz4 := Nat.lt_of_lt_of_le hza hb4.size
       have HB4 := Lib.hid ((HB3.out.trans ((below_box w3 _).mono (Nat.le_of_lt hz3))).trans (hb4.mono (Nat.le_of_lt hza))))
    | (refine step_append_bb2 34 Tryz.underlying34 rfl (.tmp 13) (.tmp 16) rfl d 0 (Nat.zero_le _) _ [HB] rfl HO4.out v4 D rfl HV4.out HL1.out (Nat.le_of_lt hz4) ?_
       intro v5 w5 hv5 hb5 hg5
       have i0 := (grown_keep9 hg5 d 0 hz4 (own_lit hz3)).trans g0
       have i1 := (grown_keep9 hg5 d 1 hz4 (own_lit hz3)).trans g1
       have i2 := (grown_keep9 hg5 d 2 hz4 (own_lit hz3)).trans g2
       have HB5 := Lib.hid (HB4.out.trans hb5))
    | (refine step_append_bb2 34 Tryz.underlying34 rfl (.tmp 13) (.tmp 16) rfl d 0 (Nat.zero_le _) _ [HB] rfl (bb2_one HO4.out (Nat.le_of_lt hz4)) v4 D rfl (HV4.out.below (below_box w4 _)) HL1.out (Nat.le_trans (Nat.le_of_lt hz4) (below_box w4 _).size) ?_
       intro v5 w5 hv5 hb5 hg5
       have i0 := (grown_keep9 hg5 d 0 (Nat.lt_of_lt_of_le hz4 (below_box w4 _).size) (own_lit hz4)).trans (h0 _)
       have i1 := (grown_keep9 hg5 d 1 (Nat.lt_of_lt_of_le hz4 (below_box w4 _).size) (own_lit hz4)).trans (h1 _)
       have i2 := (grown_keep9 hg5 d 2 (Nat.lt_of_lt_of_le hz4 (below_box w4 _).size) (own_lit hz4)).trans (h2 _)
       have HB5 := Lib.hid ((HB4.out.trans ((below_box w4 _).mono (Nat.le_of_lt hz4))).trans hb5)))
  all_goals (
    have HBG := Lib.hid (by have := HB5.out.size; rw [← HD.out] at this; exact this)
    have HV5 := Lib.hid hv5
    clear g0 g1 g2 i1 i2 e0 e1 e2 f0 f1 f2 hv5 hv4
    go_wp2_with (first
      | (go_at_call 62; (with_reducible refine (KE.out _).mono ?_); rintro e w6 ⟨v6, rfl, hob6, hb6⟩
         obtain ⟨eo, ec, rfl, _⟩ := hob6.bsl.shape
         have HO6 := Lib.hid (hob6.elt (B := 0))
         rw [HLE.out] at HO6 ⊢
         have HV6 := Lib.hid (HV5.out.below hb6)
         have HG6 := Lib.hid (Nat.le_trans HBG.out hb6.size)
         have HB6 := Lib.hid (HB5.out.trans (hb6.mono HBG.out))
         clear hob6)
      | (at_builtin; refine wpList_append_bb2one 34 Tryz.underlying34 w6 (.slice eo 256 ec) EB rfl (.tmp 18) (.tmp 22) rfl d 0 (Nat.zero_le _) v5 ([HB] ++ D) rfl HV6.out HO6.out w6.heap.size rfl rfl HL2.out HG6.out ?_; intro v7 w7 hv7 hb7))
    go_ret2
    exact ⟨_, rfl, by rw [HPK.out, ← HD.out]; exact hv7, by rw [← HD.out]; exact HB6.out.trans hb7⟩)
theorem tPack_yes {w : World} {v : Value} {q : Int} {N : List Int} {D : List (List Int)} (h : TxV w v q N D) (hf : frmT N D = true) (q0 : 0 ≤ q) (q1 : q < 4294967296) :
    Calls Tryz.prog 74 #[v] w fun e w' => ∃ u, e = .returned (.tuple #[u, .int .i64 0]) ∧ BBSl w' u (packT q N D) ∧ Below w.heap.size w w' :=
  (tPack_own h hf q0 q1).mono fun e w' ⟨u, h1, h2, h3⟩ => ⟨u, h1, h2.zero.sl, h3⟩
end Go.Proofs.YtigbhdgcjklhoaaGreat

/- Contracts of package pack and of the reference: Open. -/
namespace Go.Proofs.YtigbhdgcjklhoaaGreat
set_option maxRecDepth 100000
open Go.RowKit
set_option linter.unusedVariables false

theorem BSl.take {w : World} {a : Addr} {cap : Nat} {l : List Int} (h : BSl w (.slice (some a) l.length cap) l) (n : Nat) (hn : n ≤ l.length) : BSl w (.slice (some a) n cap) (l.take n) := by
  refine ⟨byt_take h.1 n, .inr ⟨a, cap, by rw [List.length_take, Nat.min_eq_left hn], ?_, fun j hj => ?_⟩⟩
  · rcases h.2 with ⟨hv, _⟩ | ⟨_, _, hv, hc, _⟩
    · simp at hv
    · obtain ⟨_, rfl⟩ : _ ∧ _ := by simpa using hv
      rw [List.length_take]; omega
  · rw [List.length_take, Nat.min_eq_left hn] at hj
    rcases h.2 with ⟨hv, _⟩ | ⟨a', c', hv, _, hc⟩
    · simp at hv
    · obtain ⟨rfl, rfl⟩ : a = a' ∧ cap = c' := by simpa using hv
      obtain ⟨h1, h2, h3⟩ := hc j (by omega)
      exact ⟨h1, h2, by rw [h3]; simp [List.getD_eq_getElem?_getD, hj]⟩

/-- What Open hands back. -/
def OpenOut (l : List Int) (w : World) (e : Ending) (w' : World) : Prop :=
  (sealed l ∧ ∃ v, e = .returned (.tuple #[v, .bool true]) ∧ OB w' w.heap.size v (l.take 252) ∧ Below w.heap.size w w') ∨
  (¬ sealed l ∧ e = .returned (.tuple #[.slice none 0 0, .bool false]) ∧ Below w.heap.size w w')

theorem pOpen_len {w : World} {ao : Option Addr} {len cap : Nat} (h : len ≠ 256) :
    Calls Tryz.prog 68 #[.slice ao len cap] w fun e w' => e = .returned (.tuple #[.slice none 0 0, .bool false]) ∧ w = w' := by
  have hne : ((len : Int) != 256) = true := by simp; omega
  go_enter Tryz.func68, Tryz.ntmps68
  go_wp2_with fail
  go_ret2
  exact ⟨rfl, rfl⟩
theorem pGet4 {w : World} {b off cap : Nat} {l : List Int} (hs : BSl w (.slice (some ⟨b, off, none⟩) 256 cap) l) (hl : l.length = 256) (G : Int) (hG : G = getV l 252 4) :
    Calls Tryz.prog 69 #[.slice (some ⟨b, off, none⟩) 256 cap, .int .i64 252, .int .i64 4] w fun e w' => e = .returned (.tuple #[.int .u64 G, .bool true]) ∧ w = w' := by
  rcases hs.2 with ⟨hv, _⟩ | ⟨a', c', hv, _, hc⟩
  · simp at hv
  · obtain ⟨rfl, _, rfl⟩ : _ ∧ _ ∧ _ := by simpa using hv
    have := pGet_at (w := w) (b := b) (off := off) (cap := cap) hs.1 (by omega) (fun j hj => (hc j hj).2.2) 252 4 (by omega) (by omega) (by omega)
    rw [hl] at this
    rw [hG]; exact this
theorem pOpen_no {w : World} {b off cap : Nat} {l : List Int} (hs : BSl w (.slice (some ⟨b, off, none⟩) 256 cap) l) (hl : l.length = 256) (hcap : 256 ≤ cap) (hne : getV l 252 4 ≠ sumS (l.take 252)) :
    Calls Tryz.prog 68 #[.slice (some ⟨b, off, none⟩) 256 cap] w fun e w' => e = .returned (.tuple #[.slice none 0 0, .bool false]) ∧ w = w' := by
  have ht : BSl w (.slice (some ⟨b, off, none⟩) 252 cap) (l.take 252) := BSl.take (by rw [hl]; exact hs) 252 (by omega)
  have hbd := getV_bound (byt_mem hs.1) 252 4
  have hSb := sumS_bound (l.take 252)
  have htl : (l.take 252).length ≤ 140737488355300 := by rw [List.length_take]; omega
  obtain ⟨G, hG⟩ : ∃ G, G = getV l 252 4 := ⟨_, rfl⟩
  obtain ⟨S, hS⟩ : ∃ S, S = sumS (l.take 252) := ⟨_, rfl⟩
  rw [← hG] at hbd hne
  rw [← hS] at hSb hne
  have hne' : (G != S) = true := by simpa using hne
  have hG1 : G < 4294967296 := by simpa using hbd.2
  have hG0 := hbd.1
  have HS := Lib.hid hs
  have HT := Lib.hid ht
  have HG := Lib.hid hG
  have HSS := Lib.hid hS
  have HL := Lib.hid hl
  have HTL := Lib.hid htl
  clear hs ht hG hS hl htl hbd
  go_enter Tryz.func68, Tryz.ntmps68
  go_wp2_with (first
    | (go_at_call 69; refine (pGet4 HS.out HL.out G HG.out).mono ?_; rintro e w' ⟨rfl, rfl⟩)
    | (go_at_call 79; refine (pSum_c HT.out (Below.refl _ _) HTL.out S HSS.out).mono ?_; rintro e w' ⟨rfl, rfl⟩))
  go_ret2
  exact ⟨rfl, rfl⟩

theorem pOpen_yes {w : World} {b off cap : Nat} {l : List Int} (hs : BSl w (.slice (some ⟨b, off, none⟩) 256 cap) l) (hl : l.length = 256) (hcap : 256 ≤ cap) (heq : getV l 252 4 = sumS (l.take 252)) :
    Calls Tryz.prog 68 #[.slice (some ⟨b, off, none⟩) 256 cap] w fun e w' => ∃ v, e = .returned (.tuple #[v, .bool true]) ∧ OB w' w.heap.size v (l.take 252) ∧ Below w.heap.size w w' := by
  have ht : BSl w (.slice (some ⟨b, off, none⟩) 252 cap) (l.take 252) := BSl.take (by rw [hl]; exact hs) 252 (by omega)
  have hSb := sumS_bound (l.take 252)
  have htl : (l.take 252).length = 252 := by rw [List.length_take]; omega
  obtain ⟨S, hS⟩ : ∃ S, S = sumS (l.take 252) := ⟨_, rfl⟩
  have hG : S = getV l 252 4 := by rw [hS, heq]
  rw [← hS] at hSb
  obtain ⟨M, hMM⟩ : ∃ M : Nat, M = 252 := ⟨_, rfl⟩
  have hMI : (252 : Int) = (M : Int) := by omega
  have hpos := src_cells hs (w1 := w.alloc (.cells (Array.replicate M (.int .u8 0)) 5)) (fun p hp => World.cell?_alloc_lt w _ p hp) 252
  have hg2 : (w.alloc (.cells (Array.replicate M (.int .u8 0)) 5)).heap[w.heap.size]? = some (.cells (List.replicate M (Value.int .u8 0)).toArray 5 (0, 0)) := by
    rw [heap_alloc_new]; simp
  have hcl : ((l.take 252).map (Value.int .u8)).length = M := by rw [List.length_map, htl, hMM]
  have hmm : M = Nat.min 256 M := (Nat.min_eq_right (by omega)).symm
  have hfit : 0 + ((l.take 252).map (Value.int .u8)).length ≤ (List.replicate M (Value.int .u8 0)).length := by rw [List.length_map, htl, List.length_replicate]; omega
  have hbl : Below w.heap.size w (w.alloc (.cells (Array.replicate M (.int .u8 0)) 5)) := (Below.refl _ _).alloc (Nat.le_refl _) _
  have HMM := Lib.hid hMM
  have HMI := Lib.hid hMI
  have hMle : M ≤ 200000000000000 := by omega
  have HS := Lib.hid hs
  have HT := Lib.hid ht
  have HG := Lib.hid hG
  have HSS := Lib.hid hS
  have HL := Lib.hid hl
  have HTL := Lib.hid htl
  have HP := Lib.hid hpos
  have HG2 := Lib.hid hg2
  have HC := Lib.hid hcl
  have HM := Lib.hid hmm
  have HF := Lib.hid hfit
  clear hs ht hG hS hl htl heq hpos hg2 hcl hmm hfit hMM hMI
  go_enter Tryz.func68, Tryz.ntmps68
  go_wp2_with (first
    | (go_at_call 69; refine (pGet4 HS.out HL.out S HG.out).mono ?_; rintro e w' ⟨rfl, rfl⟩)
    | (go_at_call 79; refine (pSum_c HT.out (Below.refl _ _) (by rw [HTL.out]; omega) S HSS.out).mono ?_; rintro e w' ⟨rfl, rfl⟩)
    | (at_make; refine wpList_make_u8 _ rfl _ _ rfl _ M rfl rfl HMI.out hMle ?_)
    | (with_reducible refine wpList_copy_wrote rfl _ _ 59 59 rfl 5 Tryz.underlying59 (by kernel_rfl) _ _ _ _ _ _ rfl rfl w.heap.size 0 (List.replicate M (Value.int .u8 0)) 5 HG2.out ((l.take 252).map (Value.int .u8)) M HC.out HM.out (fun h => ⟨rfl, HP.out h⟩) HF.out (ints_oneCell _ _) ?_
       intro w2 HG3 HW2))
  go_ret2
  refine ⟨_, rfl, ?_, hbl.trans (HW2.below (Nat.le_refl _))⟩
  have h3 := HG3.out
  rw [splice_whole _ _ (by rw [HC.out, List.length_replicate])] at h3
  have h5 := OB.of_heap (cap := M) (rest := []) (l := l.take 252) (B := w.heap.size) (byt_take HS.out.1 _) (Nat.le_refl _) (by rw [List.append_nil]; exact h3) (by rw [HTL.out, HMM.out]; rfl) (by rw [HMM.out]; decide)
  have e : (l.take 252).length = M := by rw [HTL.out, HMM.out]
  rw [e] at h5; exact h5

theorem pOpen_any {w : World} {v : Value} {l : List Int} (hs : BSl w v l) : Calls Tryz.prog 68 #[v] w (OpenOut l w) := by
  by_cases hl : l.length = 256
  · rcases hs.2 with ⟨_, rfl⟩ | ⟨⟨b, off, spot⟩, cap, rfl, hcap, hc⟩
    · simp at hl
    · obtain rfl : spot = none := (hc 0 (by omega)).2.1
      rw [hl] at hs hcap ⊢
      by_cases h : getV l 252 4 = sumS (l.take 252)
      · exact (pOpen_yes hs hl hcap h).mono fun e w' ⟨v, h1, h2, h3⟩ => .inl ⟨⟨hl, h⟩, v, h1, h2, h3⟩
      · exact (pOpen_no hs hl hcap h).mono fun e w' ⟨h1, h2⟩ => .inr ⟨fun hh => h hh.2, h1, by rw [← h2]; exact Below.refl _ _⟩
  · obtain ⟨ao, cap, rfl, _⟩ := hs.shape
    exact (pOpen_len hl).mono fun e w' ⟨h1, h2⟩ => .inr ⟨fun hh => hl hh.1, h1, by rw [← h2]; exact Below.refl _ _⟩
theorem pOpen_not {w : World} {v : Value} {l : List Int} (hs : BSl w v l) (h : ¬ sealed l) : Calls Tryz.prog 68 #[v] w fun e w' => e = .returned (.tuple #[.slice none 0 0, .bool false]) ∧ Below w.heap.size w w' :=
  (pOpen_any hs).mono fun e w' ho => ho.elim (fun h1 => absurd h1.1 h) fun h1 => h1.2
theorem pOpen_is {w : World} {v : Value} {l : List Int} (hs : BSl w v l) (h : sealed l) : Calls Tryz.prog 68 #[v] w fun e w' => ∃ v, e = .returned (.tuple #[v, .bool true]) ∧ OB w' w.heap.size v (l.take 252) ∧ Below w.heap.size w w' :=
  (pOpen_any hs).mono fun e w' ho => ho.elim (fun h1 => h1.2) fun h1 => absurd h h1.1
theorem take_len {l : List Int} (h : sealed l) : (l.take 252).length = 252 := by
  have := h.1
  rw [List.length_take]; omega

theorem ob_shape {w : World} {B : Nat} {v : Value} {c : List Int} (h : OB w B v c) (hc : c.length = 252) : ∃ gc cap, v = .slice (some ⟨gc, 0, none⟩) 252 cap ∧ ∀ j, j < 252 → w.cell? ⟨gc, j, none⟩ = some (.int .u8 (c.getD j 0)) := by
  rcases h.2.2 with ⟨_, h0⟩ | ⟨g, cap, cur, hv, hg, hh, hnc, hcm, hcs, ht⟩
  · omega
  · refine ⟨g, cap, by rw [hv, hc], fun j hj => ?_⟩
    rw [cell_of_row _ _ _ _ _ _ hh]
    have : (cur.toList.take (c.length * 1))[j]? = (c.map (Value.int .u8))[j]? := by rw [ht]
    rw [List.getElem?_take, if_pos (by omega)] at this
    simpa [List.getD_eq_getElem?_getD, hc, hj] using this

end Go.Proofs.YtigbhdgcjklhoaaGreat

/- The checksum tells any one byte that is turned. -/
namespace Go.Proofs.YtigbhdgcjklhoaaGreat
set_option maxRecDepth 100000
open Go

theorem xor_cancel_nat (a b c : Nat) (h : a ^^^ b = a ^^^ c) : b = c := by
  have : a ^^^ (a ^^^ b) = a ^^^ (a ^^^ c) := by rw [h]
  rwa [← Nat.xor_assoc, ← Nat.xor_assoc, Nat.xor_self, Nat.zero_xor, Nat.zero_xor] at this

theorem mul_inj32 (a b : Int) (ha0 : 0 ≤ a) (ha : a < 4294967296) (hb0 : 0 ≤ b) (hb : b < 4294967296) (h : a * 16777619 % 4294967296 = b * 16777619 % 4294967296) : a = b := by
  have key : ∀ x : Int, (x * 16777619 % 4294967296) * 899433627 % 4294967296 = x % 4294967296 := fun x => by
    rw [Int.mul_emod, Int.emod_emod, ← Int.mul_emod, Int.mul_assoc]
    have : (16777619 : Int) * 899433627 = 1 + 4294967296 * 3513497 := by decide
    rw [this, Int.mul_add, Int.mul_one, Int.mul_left_comm, Int.add_mul_emod_self_left]
  have h1 := key a
  have h2 := key b
  rw [h] at h1
  rw [h1] at h2
  rw [Int.emod_eq_of_lt ha0 ha, Int.emod_eq_of_lt hb0 hb] at h2
  exact h2

theorem fnvStep_nat (h c : Nat) (hh : h < 4294967296) (hc : c < 4294967296) : fnvStep h c = ((h ^^^ c : Nat) : Int) * 16777619 % 4294967296 := by
  unfold fnvStep
  rw [u32_xor_nat h c hh hc]

theorem fnv_byte (h x y : Int) (hh0 : 0 ≤ h) (hh : h < 4294967296) (hx : 0 ≤ x ∧ x ≤ 255) (hy : 0 ≤ y ∧ y ≤ 255) (he : fnvStep h x = fnvStep h y) : x = y := by
  obtain ⟨m, rfl⟩ : ∃ m : Nat, h = m := ⟨h.toNat, by omega⟩
  obtain ⟨a, rfl⟩ : ∃ a : Nat, x = a := ⟨x.toNat, by omega⟩
  obtain ⟨b, rfl⟩ : ∃ b : Nat, y = b := ⟨y.toNat, by omega⟩
  rw [fnvStep_nat m a (by omega) (by omega), fnvStep_nat m b (by omega) (by omega)] at he
  have l1 : m ^^^ a < 2 ^ 32 := Nat.xor_lt_two_pow (by omega) (by omega)
  have l2 : m ^^^ b < 2 ^ 32 := Nat.xor_lt_two_pow (by omega) (by omega)
  have l3 : ((m ^^^ a : Nat) : Int) < 4294967296 := by clear he; omega
  have l4 : ((m ^^^ b : Nat) : Int) < 4294967296 := by clear he; omega
  have h1 := mul_inj32 _ _ (Int.natCast_nonneg _) l3 (Int.natCast_nonneg _) l4 he
  clear he
  have := xor_cancel_nat m a b (Int.ofNat_inj.1 h1)
  omega

theorem fnv_state (h g x : Int) (hh0 : 0 ≤ h) (hh : h < 4294967296) (hg0 : 0 ≤ g) (hg : g < 4294967296) (hx : 0 ≤ x ∧ x ≤ 255) (he : fnvStep h x = fnvStep g x) : h = g := by
  obtain ⟨m, rfl⟩ : ∃ m : Nat, h = m := ⟨h.toNat, by omega⟩
  obtain ⟨n, rfl⟩ : ∃ n : Nat, g = n := ⟨g.toNat, by omega⟩
  obtain ⟨a, rfl⟩ : ∃ a : Nat, x = a := ⟨x.toNat, by omega⟩
  rw [fnvStep_nat m a (by omega) (by omega), fnvStep_nat n a (by omega) (by omega)] at he
  have l1 : m ^^^ a < 2 ^ 32 := Nat.xor_lt_two_pow (by omega) (by omega)
  have l2 : n ^^^ a < 2 ^ 32 := Nat.xor_lt_two_pow (by omega) (by omega)
  have l3 : ((m ^^^ a : Nat) : Int) < 4294967296 := by clear he; omega
  have l4 : ((n ^^^ a : Nat) : Int) < 4294967296 := by clear he; omega
  have h1 := mul_inj32 _ _ (Int.natCast_nonneg _) l3 (Int.natCast_nonneg _) l4 he
  clear he
  have := xor_cancel_nat a m n (by rw [Nat.xor_comm a m, Nat.xor_comm a n]; exact Int.ofNat_inj.1 h1)
  omega

theorem fold_inj (B : List Int) (hB : ∀ x ∈ B, 0 ≤ x ∧ x ≤ 255) : ∀ (h g : Int), 0 ≤ h → h < 4294967296 → 0 ≤ g → g < 4294967296 → B.foldl fnvStep h = B.foldl fnvStep g → h = g := by
  induction B with
  | nil => intro h g _ _ _ _ he; exact he
  | cons x r ih =>
    intro h g h0 h1 g0 g1 he
    have := ih (fun y hy => hB y (by simp [hy])) (fnvStep h x) (fnvStep g x) (fnvStep_bound h x).1 (fnvStep_bound h x).2 (fnvStep_bound g x).1 (fnvStep_bound g x).2 he
    exact fnv_state h g x h0 h1 g0 g1 (hB x (by simp)) this

theorem sumS_set (F : List Int) (hF : ∀ x ∈ F, 0 ≤ x ∧ x ≤ 255) (k : Nat) (hk : k < F.length) (y : Int) (hy : 0 ≤ y ∧ y ≤ 255) (hne : y ≠ F.getD k 0) : sumS (F.set k y) ≠ sumS F := by
  have hx : F.getD k 0 = F[k] := by simp [List.getD_eq_getElem?_getD, hk]
  have e1 : F = F.take k ++ F[k] :: F.drop (k + 1) := by rw [List.getElem_cons_drop, List.take_append_drop]
  have e2 : F.set k y = F.take k ++ y :: F.drop (k + 1) := List.set_eq_take_append_cons_drop ▸ by rw [if_pos hk]
  intro h
  rw [e2] at h
  conv at h => rhs; rw [e1]
  unfold sumS at h
  rw [List.foldl_append, List.foldl_append, List.foldl_cons, List.foldl_cons] at h
  have hb := sumS_bound (F.take k)
  unfold sumS at hb
  have h2 := fold_inj (F.drop (k + 1)) (fun x hx => hF x (List.mem_of_mem_drop hx)) _ _ (fnvStep_bound _ _).1 (fnvStep_bound _ _).2 (fnvStep_bound _ _).1 (fnvStep_bound _ _).2 h
  have h3 := fnv_byte _ y F[k] hb.1 hb.2 hy (hF _ (List.getElem_mem hk)) h2
  rw [hx] at hne
  exact hne h3

theorem leB_set (l : List Int) (k : Nat) (hk : k < l.length) (y : Int) : leB (l.set k y) = leB l + (y - l.getD k 0) * 256 ^ k := by
  induction l generalizing k with
  | nil => simp at hk
  | cons x r ih =>
    cases k with
    | zero => simp [leB]; omega
    | succ k =>
      have := ih k (by simpa using hk)
      simp only [List.set_cons_succ, leB, this, List.getD_cons_succ, Int.pow_succ]
      rw [Int.mul_add, Int.mul_left_comm 256 (y - r.getD k 0), Int.mul_comm 256 (256 ^ k)]
      omega

theorem leB_lowB4 (S : Int) (h0 : 0 ≤ S) (h1 : S < 4294967296) : leB (lowB S 4) = S := by
  rw [leB_lowB S 4 h0]; exact Int.emod_eq_of_lt h0 h1

theorem sealed_sealS (l : List Int) (hl : l.length ≤ 252) : sealed (sealS l) := by
  have hf := fillS_length l hl
  have hb := sumS_bound (fillS l)
  refine ⟨sealS_length l hl, ?_⟩
  have e1 : (sealS l).take 252 = fillS l := by rw [sealS, ← hf, List.take_left']; rfl
  rw [e1]
  have : getV (sealS l) 252 4 = sumS (fillS l) % 256 ^ 4 := by
    have := getV_put (fillS l) (sumS (fillS l)) 4 hb.1
    rw [hf] at this; exact this
  rw [this]; exact Int.emod_eq_of_lt hb.1 hb.2

theorem not_sealed (l : List Int) (hb : ∀ x ∈ l, 0 ≤ x ∧ x ≤ 255) (hl : l.length ≤ 252) (k : Nat) (hk : k < 256) (y : Int) (hy : 0 ≤ y ∧ y ≤ 255) (hne : y ≠ (sealS l).getD k 0) : ¬ sealed ((sealS l).set k y) := by
  have hf := fillS_length l hl
  have hS := sumS_bound (fillS l)
  have hFb : ∀ x ∈ fillS l, 0 ≤ x ∧ x ≤ 255 := fun x hx => by
    unfold fillS at hx
    rcases List.mem_append.1 hx with h | h
    · exact hb x h
    · rw [List.eq_of_mem_replicate h]; decide
  rintro ⟨_, hs⟩
  by_cases h252 : k < 252
  · have hkF : k < (fillS l).length := by omega
    have e : (sealS l).set k y = (fillS l).set k y ++ lowB (sumS (fillS l)) 4 := by rw [sealS, List.set_append_left _ _ hkF]
    have hg : (sealS l).getD k 0 = (fillS l).getD k 0 := by
      rw [sealS, List.getD_eq_getElem?_getD, List.getD_eq_getElem?_getD, List.getElem?_append_left hkF]
    rw [hg] at hne
    have e1 : ((sealS l).set k y).take 252 = (fillS l).set k y := by
      rw [e, List.take_left' (by rw [List.length_set, hf])]
    have e2 : getV ((sealS l).set k y) 252 4 = sumS (fillS l) := by
      unfold getV
      rw [e, List.drop_left' (by rw [List.length_set, hf]), List.take_of_length_le (by rw [lowB_length]; exact Nat.le_refl _), leB_lowB4 _ hS.1 hS.2]
    rw [e1, e2] at hs
    exact sumS_set _ hFb k hkF y hy hne hs.symm
  · have hkF : (fillS l).length ≤ k := by omega
    have e : (sealS l).set k y = fillS l ++ (lowB (sumS (fillS l)) 4).set (k - 252) y := by rw [sealS, List.set_append_right _ _ hkF, hf]
    have hg : (sealS l).getD k 0 = (lowB (sumS (fillS l)) 4).getD (k - 252) 0 := by
      rw [sealS, List.getD_eq_getElem?_getD, List.getD_eq_getElem?_getD, List.getElem?_append_right hkF, hf]
    rw [hg] at hne
    have e1 : ((sealS l).set k y).take 252 = fillS l := by rw [e, List.take_left' hf]
    have e2 : getV ((sealS l).set k y) 252 4 = leB ((lowB (sumS (fillS l)) 4).set (k - 252) y) := by
      unfold getV
      rw [e, List.drop_left' hf, List.take_of_length_le (by rw [List.length_set, lowB_length]; exact Nat.le_refl _)]
    rw [e1, e2, leB_set _ _ (by rw [lowB_length]; omega), leB_lowB4 _ hS.1 hS.2] at hs
    have hp := pow256_pos (k - 252)
    have hz : (y - (lowB (sumS (fillS l)) 4).getD (k - 252) 0) * 256 ^ (k - 252) = 0 := by omega
    rcases Int.mul_eq_zero.1 hz with h | h
    · omega
    · omega

theorem xor_ne (x b : Int) (hx : 0 ≤ x ∧ x ≤ 255) (hb : 0 ≤ b ∧ b ≤ 255) : (0 ≤ bits BinOp.xor IntKind.u8 x b ∧ bits BinOp.xor IntKind.u8 x b ≤ 255) ∧ (bits BinOp.xor IntKind.u8 x b = x ↔ b = 0) := by
  obtain ⟨m, rfl⟩ : ∃ m : Nat, x = m := ⟨x.toNat, by omega⟩
  obtain ⟨n, rfl⟩ : ∃ n : Nat, b = n := ⟨b.toNat, by omega⟩
  rw [u8_xor_nat m n (by omega) (by omega)]
  have l1 : m ^^^ n < 2 ^ 8 := Nat.xor_lt_two_pow (by omega) (by omega)
  refine ⟨by omega, fun h => ?_, fun h => ?_⟩
  · have : n = 0 := xor_cancel_nat m n 0 (by rw [Nat.xor_zero]; omega)
    omega
  · have : n = 0 := by omega
    rw [this, Nat.xor_zero]

end Go.Proofs.YtigbhdgcjklhoaaGreat

/- Plain facts on inodes and maps: whether they are well formed, their bytes. -/
namespace Go.Proofs.YtigbhdgcjklhoaaGreat
set_option maxRecDepth 100000
open Go.RowKit

/-- A block's number, or 0. -/
def inB (n : Int) : Bool := decide (0 ≤ n ∧ n ≤ 767)
def locS (l : List Int) : Bool := l.all inB
theorem locS_iff (l : List Int) : locS l = true ↔ ∀ j, j < l.length → inB (l.getD j 0) = true := by
  unfold locS
  rw [List.all_eq_true]
  constructor
  · intro h j hj
    have : l.getD j 0 = l[j] := by simp [List.getD_eq_getElem?_getD, hj]
    rw [this]; exact h _ (List.getElem_mem hj)
  · intro h x hx
    obtain ⟨j, hj, rfl⟩ := List.getElem_of_mem hx
    have := h j hj
    simpa [List.getD_eq_getElem?_getD, hj] using this
theorem locS_no {l : List Int} {k : Nat} (hk : k < l.length) (h : inB (l.getD k 0) = false) : locS l = false := by
  cases hl : locS l
  · rfl
  · have := (locS_iff l).1 hl k hk
    rw [h] at this; cases this
theorem getV_in (A B : List Int) (n : Int) (k : Nat) (h : 0 ≤ n) (h1 : n < 256 ^ k) : getV (A ++ (lowB n k ++ B)) A.length k = n := by
  unfold getV
  rw [List.drop_left, List.take_left' (lowB_length n k), leB_lowB n k h]
  exact Int.emod_eq_of_lt h h1

/-- The bytes of a map, the first k blocks. -/
def mapK (l : List Int) : Nat → List Int
  | 0 => []
  | k + 1 => mapK l k ++ lowB (l.getD k 0) 2
theorem mapK_length (l : List Int) : ∀ k, (mapK l k).length = 2 * k
  | 0 => rfl
  | k + 1 => by rw [mapK, List.length_append, mapK_length l k, lowB_length]; omega
def mapS (l : List Int) : List Int := mapK l 128
/-- The blocks of a map's bytes, the first k. -/
def rdK (b : List Int) (k : Nat) : List Int := (List.range k).map fun j => getV b (2 * j) 2
theorem rdK_length (b : List Int) (k : Nat) : (rdK b k).length = k := by simp [rdK]
theorem rdK_succ (b : List Int) (k : Nat) : rdK b (k + 1) = rdK b k ++ [getV b (2 * k) 2] := by simp [rdK, List.range_succ]
theorem rdK_get (b : List Int) (k j : Nat) (h : j < k) : (rdK b k).getD j 0 = getV b (2 * j) 2 := by
  simp [rdK, List.getD_eq_getElem?_getD, h]
/-- A list of n numbers of which the first k are laid. -/
def rdTill (b : List Int) (n k : Nat) : List Int := (List.range n).map fun j => if j < k then getV b (2 * j) 2 else 0
theorem rdTill_length (b : List Int) (n k : Nat) : (rdTill b n k).length = n := by simp [rdTill]
theorem rdTill_set (b : List Int) (n k : Nat) : (rdTill b n k).set k (getV b (2 * k) 2) = rdTill b n (k + 1) := by
  apply List.ext_getElem (by rw [List.length_set, rdTill_length, rdTill_length])
  intro i h1 h2
  simp only [rdTill, List.getElem_set, List.getElem_map, List.getElem_range]
  by_cases e : k = i
  · subst e; rw [if_pos rfl, if_pos (by omega)]
  · rw [if_neg e]
    by_cases h : i < k
    · rw [if_pos h, if_pos (by omega)]
    · rw [if_neg h, if_neg (by omega)]
theorem rdTill_zero (b : List Int) (n : Nat) : rdTill b n 0 = List.replicate n 0 := by
  rw [List.eq_replicate_iff]
  refine ⟨rdTill_length b n 0, fun x hx => ?_⟩
  obtain ⟨i, _, rfl⟩ := List.mem_map.1 hx
  rw [if_neg (by omega)]
theorem rdTill_full (b : List Int) (n : Nat) : rdTill b n n = rdK b n := by
  unfold rdTill rdK
  apply List.map_congr_left
  intro i hi
  rw [if_pos (List.mem_range.1 hi)]
theorem mapK_split (l : List Int) (i : Nat) : ∀ j, i < j → ∃ B, mapK l j = mapK l i ++ (lowB (l.getD i 0) 2 ++ B) := by
  intro j
  induction j with
  | zero => intro h; omega
  | succ j ih =>
    intro h
    by_cases e : i = j
    · subst e; exact ⟨[], by rw [mapK]; simp⟩
    · obtain ⟨B, hB⟩ := ih (by omega)
      exact ⟨B ++ lowB (l.getD j 0) 2, by rw [mapK, hB]; simp⟩
theorem inB_iff {n : Int} : inB n = true ↔ 0 ≤ n ∧ n ≤ 767 := decide_eq_true_iff
theorem rd_map {l : List Int} (hl : l.length = 128) (h : locS l = true) : rdK (mapS l) 128 = l := by
  apply List.ext_getElem (by rw [rdK_length, hl])
  intro i h1 h2
  have hi : i < 128 := by rw [rdK_length] at h1; exact h1
  obtain ⟨B, hB⟩ := mapK_split l i 128 hi
  have hb := inB_iff.1 ((locS_iff l).1 h i (by omega))
  have e : l.getD i 0 = l[i] := by simp [List.getD_eq_getElem?_getD, h2]
  simp only [rdK, List.getElem_map, List.getElem_range]
  rw [mapS, hB, ← mapK_length l i, getV_in _ _ _ _ hb.1 (by have : (256 : Int) ^ 2 = 65536 := rfl; omega), e]
theorem byt_low (n : Int) (k : Nat) : Byt (lowB n k) := byt_of_mem (lowB_mem n k)
/-- The blocks of a map's bytes, if they are such. -/
def hasM (b : List Int) : Prop := b.length = 256 ∧ locS (rdK b 128) = true
theorem has_map {l : List Int} (hl : l.length = 128) (h : locS l = true) : hasM (mapS l) := ⟨by rw [mapS, mapK_length], by rw [rd_map hl h]; exact h⟩
theorem getV2_le {l : List Int} (h : ∀ x ∈ l, 0 ≤ x ∧ x ≤ 255) (a : Nat) : 0 ≤ getV l a 2 ∧ getV l a 2 ≤ 65535 := by
  have := getV_bound h a 2
  have e : (256 : Int) ^ 2 = 65536 := rfl
  omega
end Go.Proofs.YtigbhdgcjklhoaaGreat

/- Contracts of package inode: within, isBlock, located, Place; the reference's place, two; the law's ints. -/
namespace Go.Proofs.YtigbhdgcjklhoaaGreat
set_option maxRecDepth 100000
open Go.RowKit
set_option linter.unusedVariables false

theorem pGetW {w : World} {v : Value} {c : List Int} (hs : BSl w v c) (hc : c.length ≤ 100000) (a k : Nat) (A K : Int) (hA : A = a) (hK : K = k) (hk1 : 1 ≤ k) (hk : k ≤ 8) (ha : a + k ≤ c.length) (y : Int) (hy : y = getV c a k) :
    Calls Tryz.prog 69 #[v, .int .i64 A, .int .i64 K] w fun e w' => e = .returned (.tuple #[.int .u64 y, .bool true]) ∧ w = w' := by
  subst hA hK
  have hg := pGet_any hs (by omega) (a : Int) k (by omega) (by omega)
  have hn : getN c (a : Int) k = y := by unfold getN; rw [if_pos (by omega), hy]; rfl
  have hb : gotB c (a : Int) k = true := decide_eq_true (by omega)
  rw [hn, hb] at hg
  exact hg
theorem ob_made (w : World) (M : Nat) (hM : M ≤ 1000) : OB (w.alloc (.cells (Array.replicate M (.int .u8 0)) 5)) w.heap.size (.slice (some ⟨w.heap.size, 0, none⟩) 0 M) [] :=
  OB.of_heap (w := w.alloc (.cells (Array.replicate M (.int .u8 0)) 5)) (B := w.heap.size) (g := w.heap.size) (cap := M) (l := []) (rest := List.replicate M (.int .u8 0)) byt_nil (Nat.le_refl _) (by rw [heap_alloc_new]; simp) (by simp) (by unfold maxLen; omega)
end Go.Proofs.YtigbhdgcjklhoaaGreat

/- Contracts of package txn: readNumbers, readHead, Seq, of blocks that begin with a head. -/
namespace Go.Proofs.YtigbhdgcjklhoaaGreat
set_option maxRecDepth 100000
open Go.RowKit
set_option linter.unusedVariables false

/-- make([]int, n), n a uint64. -/
theorem wpList_make_int64 (w : World) {ops : Array Oper} {rest : List Oper} {o : Oper} {a : Act} {Q : Exit → Act → World → Prop}
    (hg : o.guard = none) (l c : Operand) (hop : o.op = Op.makeSlice 69 l c) (C : Int) (n : Nat) (hl : a.eval l = .int .u64 C) (hc : a.eval c = .int .u64 C) (hC : C = n) (hn : n ≤ 1000000)
    (hK : wpList Tryz.prog ops Q rest (a.put o.dst (.slice (some ⟨w.heap.size, 0, none⟩) n n)) (w.alloc (iO (List.replicate n 0) 3))) :
    wpList Tryz.prog ops Q (o :: rest) a w := by
  refine wpList_plain hg fun K hK' => ?_
  obtain ⟨i, h2, h3, h4, h5⟩ := info_parts infoI64
  subst hC
  have hrun := run_make (P := Tryz.prog) w 69 3 i (.int .i64 0) Tryz.underlying69 h2 h3 .u64 .u64 n n (by omega) (by omega) (by rw [h5]; omega) (by omega)
  unfold Oper.wp
  simp only [Int.toNat_natCast, h4, Nat.mul_one, made_int] at hrun
  simp [execOp, hop, hl, hc, hrun, Result.andThen]
  exact hK' _ _ hK
/-- A row of numbers of which k are laid. -/
def RowI (w : World) (g : Nat) (N : List Int) (k : Nat) : Prop := ∃ l : List Int, l.length = N.length ∧ w.heap[g]? = some (iO l 3) ∧ ∀ j, j < k → l.getD j 0 = N.getD j 0
theorem RowI.make (w : World) (N : List Int) : RowI (w.alloc (iO (List.replicate N.length 0) 3)) w.heap.size N 0 :=
  ⟨List.replicate N.length 0, List.length_replicate, heap_alloc_new w _, fun j hj => absurd hj (Nat.not_lt_zero _)⟩
theorem RowI.row {w : World} {g : Nat} {N : List Int} {k : Nat} (h : RowI w g N k) : ∃ l : List Int, l.length = N.length ∧ w.heap[g]? = some (iO l 3) := by
  obtain ⟨l, h1, h2, _⟩ := h
  exact ⟨l, h1, h2⟩
theorem RowI.set {w : World} {g : Nat} {N : List Int} {k : Nat} (h : RowI w g N k) (hk : k < N.length) {y : Int} (hy : y = N.getD k 0) : RowI (w.setCell ⟨g, k, none⟩ (.int .i64 y)) g N (k + 1) := by
  obtain ⟨l, h1, h2, h3⟩ := h
  refine ⟨l.set k y, by rw [List.length_set]; exact h1, io_set h2 k y, fun j hj => ?_⟩
  by_cases e : j = k
  · subst e
    have hjl : j < l.length := by omega
    rw [← hy]
    simp [List.getD_eq_getElem?_getD, hjl]
  · rw [List.getD_eq_getElem?_getD, List.getElem?_set_ne (by omega), ← List.getD_eq_getElem?_getD]
    exact h3 j (by omega)
theorem RowI.done {w : World} {B g : Nat} {N : List Int} (h : RowI w g N N.length) (hB : B ≤ g) (hm : N.length ≤ 1000000) : IR w B (.slice (some ⟨g, 0, none⟩) N.length N.length) N := by
  obtain ⟨l, h1, h2, h3⟩ := h
  have e : l = N := by
    apply List.ext_getElem h1
    intro i a b
    have := h3 i b
    simpa [List.getD_eq_getElem?_getD, a, b] using this
  subst e
  exact IR.of_row hB h2 (by unfold maxLen; omega)

theorem IR.more9 {w : World} {B : Nat} {v : Value} {l : List Int} (h : IR w B v l) : IR w 0 v l := by
  refine ⟨h.1, ?_⟩
  rcases h.2 with h | ⟨g, cap, cur, hv, hg, r⟩
  · exact .inl h
  · exact .inr ⟨g, cap, cur, hv, Nat.zero_le _, r⟩
theorem tReadN_of {w : World} {v : Value} {c : List Int} {N : List Int} (hs : BSl w v c) (hc : c.length = 252) (h37 : N.length ≤ 37) (hcnt : getV c 8 2 = (N.length : Int)) (hnum : ∀ i, i < N.length → getV c (10 + 2 * i) 2 = N.getD i 0)
    (hx : ∀ i, i < N.length → 0 ≤ N.getD i 0 ∧ N.getD i 0 ≤ 65535) (B : Bool) (hB : frmNs N = B) :
    Calls Tryz.prog 70 #[v] w fun e w' => ∃ u, e = .returned (.tuple #[u, .bool B]) ∧ IR w' 0 u N ∧ Below w.heap.size w w' := by
  have KN := Lib.hid (fun W u (h : ISc W u N) => tFormN_of h)
  rw [hB] at KN
  have K8 := Lib.hid (pGetW hs (by omega) 8 2 8 2 rfl rfl (by omega) (by omega) (by omega) _ hcnt.symm)
  have KG := Lib.hid (fun W (hb : Below w.heap.size w W) i (hi : i < N.length) (A : Int) (hA : A = ((10 + 2 * i : Nat) : Int)) => pGetW (hs.below hb) (by omega) (10 + 2 * i) 2 A 2 hA rfl (by omega) (by omega) (by omega) _ (hnum i hi).symm)
  have HX := Lib.hid hx
  have HR0 := Lib.hid (RowI.make w N)
  have HDN := Lib.hid (fun W (h : RowI W w.heap.size N N.length) => (h.done (Nat.le_refl _) (by omega)).more9)
  have HST := Lib.hid (fun W k (h : RowI W w.heap.size N k) hk y hy => h.set hk (y := y) hy)
  have HRW := Lib.hid (fun W k (h : RowI W w.heap.size N k) => h.row)
  obtain ⟨ao, cap, rfl, _⟩ := hs.shape
  obtain ⟨n, hn⟩ : ∃ n, n = N.length := ⟨_, rfl⟩
  rw [← hn] at K8 KG HX HR0 HDN HST HRW h37
  rw [hc] at K8 KG ⊢
  have hbx := below_box w (iO (List.replicate n 0) 3)
  have hn37 : ¬ (37 : Int) < (n : Int) := by omega
  have hnm : n ≤ 1000000 := by omega
  clear hs hc hcnt hnum hx hB hn
  go_enter Tryz.func70, Tryz.ntmps70
  go_wp2_with (first
    | (go_at_call 69; (with_reducible refine K8.out.mono ?_); rintro e w2 ⟨rfl, rfl⟩)
    | (at_make; refine wpList_make_int64 w rfl _ _ rfl (n : Int) n rfl rfl rfl hnm ?_))
  generalize w.alloc (iO (List.replicate n 0) 3) = w1 at hbx HR0 ⊢
  have HBX := Lib.hid hbx
  obtain ⟨g, hg⟩ : ∃ g, g = w.heap.size := ⟨_, rfl⟩
  rw [← hg] at HR0 HDN HST HRW ⊢
  have HG := Lib.hid hg
  clear hbx hg
  go_loopw [21] (fun i wr => ∃ k : Nat, k ≤ n ∧ i = .int .i64 k ∧ Hid (RowI wr g N k) ∧ Hid (Below w.heap.size w wr)) (fun i _ => n - (intOf i).toNat)
  case atStart => exact ⟨0, by omega, rfl, HR0, HBX⟩
  case round =>
    obtain ⟨k, hk, rfl, HR, HB⟩ := hrel
    clear HR0 HBX K8
    by_cases hlt : k < n
    · have KK := Lib.hid (KG.out _ HB.out k hlt (10 + (k : Int) * 2) (by push_cast; omega))
      obtain ⟨x0, x1⟩ := HX.out k hlt
      obtain ⟨l, hl1, hl2⟩ := HRW.out _ k HR.out
      have hst := HST.out _ k HR.out hlt _ rfl
      obtain ⟨x, hxx⟩ : ∃ x, x = N.getD k 0 := ⟨_, rfl⟩
      rw [← hxx] at KK x0 x1 hst
      have HS1 := Lib.hid hst
      have hfz := io_free hl2 k
      have hce : ∃ z, wr.cell? ⟨g, k, none⟩ = some z := by
        by_cases hkl : k < l.length
        · exact ⟨_, io_cell hl2 k hkl⟩
        · exact absurd (Nat.lt_of_lt_of_le hlt (Nat.le_of_not_lt fun h => hkl (by omega))) (Nat.lt_irrefl _)
      obtain ⟨z, hz⟩ := hce
      have ek : (k : Int) < (n : Int) := by omega
      have hwx : IntKind.i64.wrap x = x := IntWalk.i64_in _ (by omega)
      clear hxx hst hl1 hl2
      go_wp2_with (go_at_call 69; (with_reducible refine KK.out.mono ?_); rintro e w2 ⟨rfl, rfl⟩)
      go_roundw
      case rel => exact ⟨k + 1, by omega, by go_num, HS1, HB.out.trans ((Wrote.setCell wr g k _).below (by rw [HG.out]; exact Nat.le_refl _))⟩
      case measure => simp [intOf]; omega
    · obtain rfl : k = n := by omega
      have KF := Lib.hid (KN.out _ _ (HDN.out _ HR.out).isc)
      go_wp2_with (go_at_call 78; (with_reducible refine KF.out.mono ?_); rintro e w2 ⟨rfl, rfl⟩)
      go_ret2
      exact ⟨_, rfl, HDN.out _ HR.out, HB.out⟩
end Go.Proofs.YtigbhdgcjklhoaaGreat

/- Contracts of package txn: readHead, Seq, of blocks that begin with a head. -/
namespace Go.Proofs.YtigbhdgcjklhoaaGreat
set_option maxRecDepth 100000
open Go.RowKit
set_option linter.unusedVariables false

set_option maxHeartbeats 1000000 in
theorem tReadH_of {w : World} {v : Value} {q : Int} {N : List Int} {L : List (List Int)} (hs : BBSl w v L) (h0 : 0 < L.length) (hh : L.getD 0 [] = sealS (headL q N)) (hN : frmNs N = true) (q0 : 0 ≤ q) (q1 : q < 4294967296) :
    Calls Tryz.prog 54 #[v] w fun e w' => ∃ u, e = .returned (.tuple #[.int .u32 q, u, .bool true]) ∧ IR w' 0 u N ∧ Below w.heap.size w w' := by
  obtain ⟨h37, hx⟩ := frmNs_of hN
  have hl252 : (headL q N).length ≤ 252 := by rw [headL_length]; omega
  have hfl := fillS_length _ hl252
  obtain ⟨ao, cap, rfl, _, hc⟩ := hs.open'
  obtain ⟨b, off, rfl, hb, hcc⟩ := hc h0
  obtain ⟨u0, hu0, hb0⟩ := hcc 0 h0
  rw [hh] at hb0
  rw [Nat.add_zero] at hu0
  obtain ⟨uo, uc, rfl, _⟩ := hb0.shape
  have h256 := sealS_length _ hl252
  rw [h256] at hu0 hb0
  have KO := Lib.hid (pOpen_is hb0 (sealed_sealS _ hl252))
  rw [head_take q N h37] at KO
  have K4 := Lib.hid (fun W v (h : BSl W v (fillS (headL q N))) => pGetW h (by omega) 4 4 4 4 rfl rfl (by omega) (by omega) (by omega) q (head_seq q N q0 q1).symm)
  have KR := Lib.hid (fun W v (h : BSl W v (fillS (headL q N))) => tReadN_of h hfl h37 (head_count q N h37) (fun i hi => head_number q N i hi (hx i hi)) (fun i hi => ⟨(hx i hi).1, by have := (hx i hi).2; omega⟩) true hN)
  have KH := Lib.hid (fun W u (h : IR W 0 u N) => tHead_of h.sl h37 hx q0 q1)
  have HU0 := Lib.hid hb0
  generalize sealS (headL q N) = HS at KO KH HU0
  generalize fillS (headL q N) = HC at KO K4 KR
  obtain ⟨m, hm⟩ : ∃ m, m = L.length := ⟨_, rfl⟩
  rw [← hm] at h0 ⊢
  have hm0 : ¬ (m : Int) = 0 := by omega
  have hm1 : ((m : Int) == 0) = false := by simpa using hm0
  have hm2 : (0 : Int) < (m : Int) := by omega
  have hwq : IntKind.u32.wrap q = q := IntWalk.u32_in _ (by omega)
  clear hs hc hh hcc hb0 h256 hfl hl252 hx hN h37 q0 q1 hm
  go_enter Tryz.func54, Tryz.ntmps54
  go_wp2_with (first
    | (go_at_call 68; (with_reducible refine KO.out.mono ?_); rintro e w2 ⟨v2, rfl, hob2, hb2⟩
       have HV2 := Lib.hid hob2.bsl
       have HB2 := Lib.hid hb2)
    | (go_at_call 69; (with_reducible refine (K4.out _ _ HV2.out).mono ?_); rintro e w3 ⟨rfl, rfl⟩)
    | (go_at_call 70; (with_reducible refine (KR.out _ _ HV2.out).mono ?_); rintro e w4 ⟨v4, rfl, hv4, hb4⟩))
  have HB4 : Hid (Below w.heap.size w w4.drew) := Lib.hid (below_drewN' (HB2.out.trans (hb4.mono HB2.out.size)) 1)
  have HV4 : Hid (IR w4.drew 0 v4 N) := Lib.hid hv4
  have e0 : w4.drew.cell? ⟨b, off, none⟩ = some (.slice uo 256 uc) := (HB4.out.cell (p := ⟨b, off, none⟩) hb).trans hu0
  have hz4 : b < w4.drew.heap.size := Nat.lt_of_lt_of_le hb HB4.out.size
  have HU4 := Lib.hid (HU0.out.below HB4.out)
  clear hob2 hb2 hv4 hb4 hu0 HU0
  go_region_held3 (fun W => W.cell? ⟨b, off, none⟩ = some (.slice uo 256 uc)) (first | exact f0 | exact e0) (first
    | (go_at_call 71; (with_reducible refine (KH.out _ _ HV4.out).mono ?_); rintro e w5 ⟨v5, rfl, hob5, hb5⟩
       have f0 := (hb5.cell (p := ⟨b, off, none⟩) hz4).trans e0
       have K6 := Lib.hid (bEqual_of hob5.bsl (HU4.out.below hb5))
       rw [decide_eq_true (rfl : HS = HS)] at K6
       have HB5 := Lib.hid (HB4.out.trans (hb5.mono HB4.out.size))
       have HV5 := Lib.hid (HV4.out.below hb5))
    | (go_at_call 61; (with_reducible refine K6.out.mono ?_); rintro e w6 ⟨rfl, rfl⟩))
  go_wp2
  go_ret3
  exact ⟨_, rfl, HV5.out, HB5.out⟩
theorem tSeq_of {w : World} {v : Value} {q : Int} {N : List Int} {L : List (List Int)} (hs : BBSl w v L) (h0 : 0 < L.length) (hh : L.getD 0 [] = sealS (headL q N)) (hN : frmNs N = true) (q0 : 0 ≤ q) (q1 : q < 4294967296) :
    Calls Tryz.prog 35 #[v] w fun e w' => e = .returned (.tuple #[.int .u32 q, .bool true]) ∧ Below w.heap.size w w' := by
  have K := Lib.hid (tReadH_of hs h0 hh hN q0 q1)
  clear hs h0 hh hN q0 q1
  go_enter Tryz.func35, Tryz.ntmps35
  go_wp2_with (go_at_call 54; (with_reducible refine K.out.mono ?_); rintro e w2 ⟨v2, rfl, hv2, hb2⟩)
  go_ret2
  exact ⟨rfl, hb2⟩
end Go.Proofs.YtigbhdgcjklhoaaGreat
