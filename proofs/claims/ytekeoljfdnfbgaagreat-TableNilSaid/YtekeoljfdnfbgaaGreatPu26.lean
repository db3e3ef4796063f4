/- What the law rests on: part 26. -/
import Derived.Test.YtekeoljfdnfbgaaGreatPu25
set_option linter.unusedVariables false
namespace Go.Proofs.YtekeoljfdnfbgaaGreat
set_option maxRecDepth 100000
open Go.RowKit
theorem KeptG.chg {w w' : World} {g : Nat} (h : KeptG w w' g) : Chg (fun x => x = g) (fun x => x = g) w w' := ⟨h.1, h.2.1, h.2.2.1, h.2.2.2.1, fun k hk hn => ⟨h.2.2.2.2 k hk hn, hn⟩⟩
theorem wpList_buildM (w : World) {ops : Array Oper} {rest : List Oper} {o : Oper} {a : Act} {Q : Exit → Act → World → Prop} (hg : o.guard = none) (x y : Operand) (hop : o.op = Op.build 47 #[(1, x), (2, y)]) (S : List Int) (hS : S.length = 12) (r : Option Addr)
    (hx : a.eval x = .agg (iC S).toArray) (hy : a.eval y = .pointer r) (hK : wpList Tryz.prog ops Q rest (a.put o.dst (.agg (mC (List.replicate 48 zeroI) S (.pointer r)).toArray)) w) : wpList Tryz.prog ops Q (o :: rest) a w := by
  refine wpList_plain hg fun K hK' => ?_
  have hb : Tryz.prog.built 47 ((#[(1, x), (2, y)] : Array (Nat × Operand)).map fun (i, x) => (i, a.eval x)).toList = some (mC (List.replicate 48 zeroI) S (.pointer r)).toArray := by
    have := build_m13 hS r
    simpa [hx, hy] using this
  exact wp_build 47 _ hop (by rw [hb]; rfl) (by rw [hb]; exact hK' _ _ hK)
section
variable {w : World} {bm : Nat} {N : List (List Int)} {S : List Int} {r : Value}
theorem mMake_bad (h : MAt w bm N S r) {k : Int} (hk : k < 1 ∨ 3 < k) : Calls Tryz.prog 28 #[.pointer (some ⟨bm, 0, none⟩), .int .i64 k] w (MOut w bm N S r (.tuple #[.int .i64 0, .int .i64 1])) := by
  have HO : Hid (MOut w bm N S r (.tuple #[.int .i64 0, .int .i64 1]) (.returned (.tuple #[.int .i64 0, .int .i64 1])) w) := Lib.hid ⟨rfl, h, KeptG.refl w bm⟩
  clear h
  by_cases h1 : k < 1
  · clear hk
    go_enter Tryz.func28, Tryz.ntmps28
    go_wp2
    go_ret2
    exact HO.out
  · have h3 : 3 < k := by omega
    clear hk
    go_enter Tryz.func28, Tryz.ntmps28
    go_wp2
    go_ret2
    exact HO.out
theorem mMake_any (h : MAt w bm N S r) {k : Int} (hk : 1 ≤ k ∧ k ≤ 3) : Calls Tryz.prog 28 #[.pointer (some ⟨bm, 0, none⟩), .int .i64 k] w fun e w' =>
    (∃ f, FreeAt N f ∧ MOut w bm (N.set f (kindI k)) S r (.tuple #[.int .i64 (f : Nat), .int .i64 0]) e w') ∨ (FullN N ∧ MOut w bm N S r (.tuple #[.int .i64 0, .int .i64 13]) e w') := by
  have HM := Lib.hid h
  have h1 : ¬ k < 1 := by omega
  have h3 : ¬ 3 < k := by omega
  have hx14 : (kindI k).length = 14 := rfl
  have HL : Hid (∀ j, j < 48 → j * 14 + (iC (kindI k)).length ≤ (mC N S r).length) := Lib.hid fun j hj => by rw [mC_length h.len h.l14 h.s12, iC_length, hx14]; omega
  have HE : Hid (∀ j, j < 48 → splice (mC N S r) (j * 14) (iC (kindI k)) = mC (N.set j (kindI k)) S r) := Lib.hid fun j hj => mC_setI (S := S) (r := r) h.len h.l14 hj hx14
  have HC : Hid (∀ j, j < 48 → w.cell? ⟨bm, j * 14, none⟩ = some (.int .i64 (kindN N j))) := Lib.hid fun j hj => by
    have hx : (N.getD j []).length = 14 := by rw [List.getD_eq_getElem?_getD, List.getElem?_eq_getElem (by rw [h.len]; exact hj)]; exact h.l14 _ (List.getElem_mem _)
    have hr := h.ino hj
    unfold kindN
    generalize N.getD j [] = y at hx hr
    match y, hx with
    | [y0, y1, y2, y3, y4, y5, y6, y7, y8, y9, y10, y11, y12, y13], _ => exact hr 0 (.int .i64 y0) rfl
  have HO : Hid (∀ j V, j < 48 → Wrote w V bm → V.heap[bm]? = some (.cells (mC (N.set j (kindI k)) S r).toArray 47 (0, 0)) → MAt V bm (N.set j (kindI k)) S r ∧ KeptG w V bm) := Lib.hid fun j V hj hw hr => ⟨⟨hr, by rw [List.length_set]; exact h.len, set14 h.l14 j hx14, h.s12⟩, (KeptG.refl w bm).wrote hw⟩
  have hrow := h.row
  clear h hk hx14
  go_enter Tryz.func28, Tryz.ntmps28
  go_wp2
  go_loopw [6] (fun i wr => ∃ j : Nat, (1 ≤ j ∧ j ≤ 48) ∧ i = .int .i64 j ∧ Hid (∀ m, 1 ≤ m → m < j → kindN N m ≠ 0) ∧ Hid (wr = w)) (fun i _ => 48 - (intOf i).toNat)
  case atStart => exact ⟨1, by omega, rfl, Lib.hid fun m h1 h2 => by omega, Lib.hid rfl⟩
  case round =>
    obtain ⟨j, ⟨hj1, hj⟩, rfl, HS, HW⟩ := hrel
    obtain rfl := HW.out
    clear HW
    by_cases hlt : j < 48
    · have ej : (j : Int) < 48 := by omega
      have hc := HC.out j hlt
      obtain ⟨kd, hkd⟩ : ∃ kd, kd = kindN N j := ⟨_, rfl⟩
      rw [← hkd] at hc
      have HKD := Lib.hid hkd
      clear hkd
      rcases hkb : (kd == 0) with _ | _
      · go_wp2
        go_roundw
        case rel => exact ⟨j + 1, by omega, by go_num, Lib.hid fun m a b => by
          by_cases e : m = j
          · rw [e, ← HKD.out]; simpa using hkb
          · exact HS.out m a (by omega), Lib.hid (by first | rfl | trivial)⟩
        case measure => simp [intOf]; omega
      · have hl := HL.out j hlt
        go_wp2_with (refine wpList_store_part rfl 32 (.tmp 31) (.tmp 28) rfl bm (j * 14) (mC N S r) (iC (kindI k)) 47 rfl rfl (by rw [sizeRI]; rfl) hrow hl (iC_one _) ?_; intro w4 hw4 hr4)
        go_ret2
        rw [HE.out j hlt] at hr4
        obtain ⟨a1, a2⟩ := HO.out j _ hlt hw4 hr4
        exact .inl ⟨j, ⟨hj1, hlt, by rw [← HKD.out]; simpa using hkb, HS.out⟩, rfl, a1, a2⟩
    · obtain rfl : j = 48 := by omega
      go_wp2
      go_ret2
      exact .inr ⟨HS.out, rfl, HM.out, KeptG.refl _ _⟩
theorem mMake_of (h : MAt w bm N S r) {k n E : Int} {N2 : List (List Int)} (hm : makeS N k n E N2) : Calls Tryz.prog 28 #[.pointer (some ⟨bm, 0, none⟩), .int .i64 k] w (MOut w bm N2 S r (.tuple #[.int .i64 n, .int .i64 E])) := by
  rcases hm with ⟨hk, rfl, rfl, rfl⟩ | ⟨hk, hN, rfl, rfl, rfl⟩ | ⟨hk, f, hf, rfl, rfl, rfl⟩
  · exact mMake_bad h hk
  · refine (mMake_any h hk).mono fun e w' ho => ?_
    rcases ho with ⟨f, hf, _⟩ | ⟨_, ho⟩
    · exact absurd hf.2.2.1 (hN f hf.1 hf.2.1)
    · exact ho
  · refine (mMake_any h hk).mono fun e w' ho => ?_
    rcases ho with ⟨g, hg, ho⟩ | ⟨hN, _⟩
    · rw [hf.one hg]; exact ho
    · exact absurd hf.2.2.1 (hN f hf.1 hf.2.1)
end
theorem newM_of {kk : Nat} (h1 : 1 ≤ kk) (h2 : kk ≤ 12) (w : World) : Calls Tryz.prog 9 #[.int .i64 (64 * (kk : Int))] w fun e w' => ∃ bm br M, e = .returned (.pointer (some ⟨bm, 0, none⟩)) ∧ MAt w' bm newN (newS kk) (.pointer (some ⟨br, 0, none⟩)) ∧ RSp w' M (.pointer (some ⟨br, 0, none⟩)) (64 * (kk : Int)) (newO kk) ∧
    (∀ x, M x → w.heap.size ≤ x) ∧ w.heap.size ≤ bm ∧ ¬ M bm ∧ Below w.heap.size w w' := by
  have KSu := Lib.hid (fun (W : World) => rSuper_at h1 h2 W)
  have KN := Lib.hid (fun (W : World) => rSpNew_at h1 h2 W)
  have l0 : ∀ r, (mC (List.replicate 48 zeroI) (newS kk) r).length = 685 := fun r => mC_length (N := List.replicate 48 zeroI) (S := newS kk) rfl zeroM_l14 rfl r
  have HL : Hid (∀ r, 14 + (iC rootI).length ≤ (mC (List.replicate 48 zeroI) (newS kk) r).length) := Lib.hid fun r => by rw [l0, iC_length]; decide
  have HE : Hid (∀ r, splice (mC (List.replicate 48 zeroI) (newS kk) r) 14 (iC rootI) = mC newN (newS kk) r) := Lib.hid fun r => mC_setI (N := List.replicate 48 zeroI) (S := newS kk) (r := r) rfl zeroM_l14 (k := 1) (by decide) rfl
  have HS : Hid (#[Value.int .i64 (64 * (kk : Int)), .int .i64 0, .int .i64 0, .int .i64 0, .int .i64 0, .int .i64 0, .int .i64 43, .int .i64 44, .int .i64 45, .int .i64 46, .int .i64 47, .int .i64 48] = (iC (newS kk)).toArray) := Lib.hid rfl
  clear l0
  go_enter Tryz.func9, Tryz.ntmps9
  go_wp2_with (first
    | (go_at_call 25; refine (KSu.out _).mono ?_; rw [HS.out]; rintro e w2 ⟨rfl, hb2⟩)
    | (go_at_call 26; refine (KN.out _).mono ?_; rintro e w3 ⟨br, g, cap, M, rfl, hR, _, hab, _, hM, _, _, _, _, hb3⟩)
    | (refine wpList_buildM _ rfl (.tmp 5) (.tmp 7) rfl (newS kk) rfl (some ⟨br, 0, none⟩) rfl rfl ?_
       have hb4 := below_box w3 (.cells (mC (List.replicate 48 zeroI) (newS kk) (.pointer (some ⟨br, 0, none⟩))).toArray 47)
       have hr4 := heap_alloc_new w3 (.cells (mC (List.replicate 48 zeroI) (newS kk) (.pointer (some ⟨br, 0, none⟩))).toArray 47)
       have hl4 := HL.out (.pointer (some ⟨br, 0, none⟩)))
    | (refine wpList_store_part rfl 32 (.tmp 14) (.tmp 11) rfl w3.heap.size 14 (mC (List.replicate 48 zeroI) (newS kk) (.pointer (some ⟨br, 0, none⟩))) (iC rootI) 47 rfl rfl (by rw [sizeRI]; rfl) hr4 hl4 (iC_one _) ?_
       intro w5 hw5 hr5))
  go_ret
  rw [HE.out] at hr5
  have hlt : ∀ x, M x → x < w3.heap.size := fun x hx => hR.lt hx
  have hnm : ¬ M w3.heap.size := fun hm => by have := hlt _ hm; omega
  have hR4 := hR.below hb4
  obtain ⟨hR5, _⟩ := hR4.chg (KeptG.chg ((KeptG.refl _ w3.heap.size).wrote hw5)) fun x hx e => by have := hlt x hx; omega
  have hs := hb2.size
  have hs3 := hb3.size
  exact ⟨w3.heap.size, br, M, rfl, ⟨hr5, newN_ok.len, newN_ok.l14, rfl⟩, hR5, fun x hx => Nat.le_trans hs (hM x hx), by omega, hnm, ((hb2.trans (hb3.mono hs)).trans (hb4.mono (by omega))).trans (hw5.below (by omega))⟩
theorem eq_arr6 (t0 t1 t2 t3 t4 t5 : Int) (w : World) : (Op.equalIn 9999 33 (.agg #[.int .i64 t0, .int .i64 t1, .int .i64 t2, .int .i64 t3, .int .i64 t4, .int .i64 t5]) (.agg #[.int .i64 t0, .int .i64 t1, .int .i64 t2, .int .i64 t3, .int .i64 t4, .int .i64 t5])).run Tryz.prog w = .ok true w := by
  have u3 := Tryz.underlying3
  have a3 := Tryz.isAgg3
  have z3 := Tryz.sizeOf3
  rw [show (9999 : Nat) = 9998 + 1 from rfl, Op.equalIn]
  simp only [Sem.run_bind, run_underlying Tryz.underlying33, Result.andThen_ok]
  simp only [Std.Legacy.Range.forIn_eq_forIn_range', Std.Legacy.Range.size, Nat.sub_zero, Nat.add_sub_cancel, Nat.div_one, List.range'_succ, List.range'_zero, List.forIn_cons, List.forIn_nil]
  go_simp
theorem eqRSup (L : List Int) (hL : L.length = 12) (w : World) : (Op.equalIn 10000 35 (.agg (iC L).toArray) (.agg (iC L).toArray)).run Tryz.prog w = .ok true w := by
  match L, hL with
  | [b, st, tg, cu, io, ba, t0, t1, t2, t3, t4, t5], _ =>
    have heq6 := fun W => eq_arr6 t0 t1 t2 t3 t4 t5 W
    have u3 := Tryz.underlying3
    have a3 := Tryz.isAgg3
    have z3 := Tryz.sizeOf3
    show (Op.equalIn 10000 35 (.agg #[.int .i64 b, .int .i64 st, .int .i64 tg, .int .i64 cu, .int .i64 io, .int .i64 ba, .int .i64 t0, .int .i64 t1, .int .i64 t2, .int .i64 t3, .int .i64 t4, .int .i64 t5]) (.agg #[.int .i64 b, .int .i64 st, .int .i64 tg, .int .i64 cu, .int .i64 io, .int .i64 ba, .int .i64 t0, .int .i64 t1, .int .i64 t2, .int .i64 t3, .int .i64 t4, .int .i64 t5])).run Tryz.prog w = .ok true w
    go_simp
theorem yields_eqI {ops : Array Oper} {S : World → Prop} {op : Oper} {a : Act} (hw : Region.wanted op (yielded ops a.tmps) = true) (x y : Operand) (ho : op.op = .binOp .eql 32 x y 32) (L : List Int) (hL : L.length = 14)
    (hx : a.eval x = .agg (iC L).toArray) (hy : a.eval y = .agg (iC L).toArray) : YieldsIf Tryz.prog ops S op (.bool true) a :=
  .inl ⟨hw, fun w _ => by
    have hg : Tryz.prog.eqGuardType Tryz.prog.depth 32 = false := by kernel_rfl
    unfold execOp
    simp only [ho, hx, hy, Sem.run_bind, run_eqGuard_agg w _ _ _ _ _ _ hg, Result.andThen_ok, run_eql_struct, eqRIno L L hL hL, Sem.run_pure]
    rfl⟩
theorem yields_neI {ops : Array Oper} {S : World → Prop} {op : Oper} {a : Act} (hw : Region.wanted op (yielded ops a.tmps) = true) (x y : Operand) (ho : op.op = .binOp .neq 32 x y 32) (L : List Int) (hL : L.length = 14)
    (hx : a.eval x = .agg (iC L).toArray) (hy : a.eval y = .agg (iC L).toArray) : YieldsIf Tryz.prog ops S op (.bool false) a :=
  .inl ⟨hw, fun w _ => by
    have hg : Tryz.prog.eqGuardType Tryz.prog.depth 32 = false := by kernel_rfl
    unfold execOp
    simp only [ho, hx, hy, Sem.run_bind, run_eqGuard_agg w _ _ _ _ _ _ hg, Result.andThen_ok, run_neq_struct, eqRIno L L hL hL, Sem.run_pure]
    rfl⟩
theorem yields_neS {ops : Array Oper} {S : World → Prop} {op : Oper} {a : Act} (hw : Region.wanted op (yielded ops a.tmps) = true) (x y : Operand) (ho : op.op = .binOp .neq 35 x y 35) (L : List Int) (hL : L.length = 12)
    (hx : a.eval x = .agg (iC L).toArray) (hy : a.eval y = .agg (iC L).toArray) : YieldsIf Tryz.prog ops S op (.bool false) a :=
  .inl ⟨hw, fun w _ => by
    have hg : Tryz.prog.eqGuardType Tryz.prog.depth 35 = false := by kernel_rfl
    unfold execOp
    simp only [ho, hx, hy, Sem.run_bind, run_eqGuard_agg w _ _ _ _ _ _ hg, Result.andThen_ok, run_neq_struct, eqRSup L hL, Sem.run_pure]
    rfl⟩
theorem Box13.of {W W' : World} {xb : Nat} {o : O13} (h : Box13 W xb o) (he : W'.heap[xb]? = W.heap[xb]?) : Box13 W' xb o := by
  have hc : ∀ j, W'.cell? ⟨xb, j, none⟩ = W.cell? ⟨xb, j, none⟩ := fun j => World.cell?_of_block (a := ⟨xb, j, none⟩) he
  exact ⟨(hc _).trans h.k, (hc _).trans h.ino, (hc _).trans h.kd, (hc _).trans h.n, fun j v hv => (hc _).trans (h.I j v hv), fun j v hv => (hc _).trans (h.S j v hv), (hc _).trans h.i, (hc _).trans h.a⟩
structure En (W : World) (Q : Nat → Prop) (bf xb bm : Nat) (p r : Value) (o : O13) (N : List (List Int)) (S : List Int) : Prop where
  fs : FsAt W bf p
  box : Box13 W xb o
  row : W.heap[xb]? = some (.cells o.cells.toArray 40 (0, 0))
  m : MAt W bm N S r
  qf : ¬ Q bf
  qx : ¬ Q xb
  qm : ¬ Q bm
  xl : xb < W.heap.size
theorem En.chg {W W' : World} {Q Q' : Nat → Prop} {bf xb bm : Nat} {p r : Value} {o : O13} {N : List (List Int)} {S : List Int} (h : En W Q bf xb bm p r o N S) (hc : Chg Q Q' W W') : En W' Q' bf xb bm p r o N S := by
  obtain ⟨f1, f2⟩ := hc.keep bf (Array.getElem?_eq_some_iff.1 h.fs).1 h.qf
  obtain ⟨x1, x2⟩ := hc.keep xb h.xl h.qx
  obtain ⟨m1, m2⟩ := hc.keep bm h.m.lt h.qm
  exact ⟨f1.trans h.fs, h.box.of x1, x1.trans h.row, h.m.of m1, f2, x2, m2, Nat.lt_of_lt_of_le h.xl hc.size⟩
theorem En.model {W W' : World} {Q : Nat → Prop} {bf xb bm : Nat} {p r : Value} {o : O13} {N N2 : List (List Int)} {S S2 : List Int} (h : En W Q bf xb bm p r o N S) (hk : KeptG W W' bm) (hm : MAt W' bm N2 S2 r) (hf : bm ≠ bf) (hx : bm ≠ xb) : En W' Q bf xb bm p r o N2 S2 :=
  ⟨(hk.2.2.2.2 bf (Array.getElem?_eq_some_iff.1 h.fs).1 (Ne.symm hf)).trans h.fs, h.box.of (hk.2.2.2.2 xb h.xl (Ne.symm hx)), (hk.2.2.2.2 xb h.xl (Ne.symm hx)).trans h.row, hm, h.qf, h.qx, h.qm, Nat.lt_of_lt_of_le h.xl hk.2.2.2.1⟩
structure Psd (w0 w : World) (P M : Nat → Prop) (d p r : Value) (X : XSt) (S : List Int) (N : List (List Int)) (O : List (Int × Int)) (kk bf bm : Nat) : Prop where
  t : Tsd w0 w P d p X S N O kk bf
  sp : RSp w M r (64 * (kk : Int)) O
  mN : ∀ x, M x → w0.heap.size ≤ x
  ap : ∀ x, M x → ¬ P x
  mf : ¬ M bf
  m : MAt w bm N S r
  bmN : w0.heap.size ≤ bm
  bmP : ¬ P bm
  bmM : ¬ M bm
  mbf : bm ≠ bf
  s0 : num S 0 = 64 * (kk : Int)
structure Dmd (w0 w : World) (P M : Nat → Prop) (d p r : Value) (X : XSt) (S S2 : List Int) (N N2 : List (List Int)) (O O2 Om : List (Int × Int)) (kk bf bm xb : Nat) (o : O13) (Nm : List (List Int)) (Sm : List Int) : Prop where
  t : Tmd w0 w P d p X S S2 N N2 O O2 kk bf
  sp : RSp w M r (64 * (kk : Int)) Om
  en : En w (PM P M) bf xb bm p r o Nm Sm
  mN : ∀ x, M x → w0.heap.size ≤ x
  ap : ∀ x, M x → ¬ P x
  bmN : w0.heap.size ≤ bm
  mbf : bm ≠ bf
  mbx : bm ≠ xb
  xbf : xb ≠ bf
  xbN : w0.heap.size ≤ xb
section
variable {w0 w : World} {P M : Nat → Prop} {d p r : Value} {X : XSt} {S S2 : List Int} {N N2 : List (List Int)} {O O2 Om : List (Int × Int)} {kk bf bm xb : Nat} {o : O13} {Nm : List (List Int)} {Sm : List Int}
theorem Tab.top {G : List (List Int)} (h : Tab G S N) : Top S := fun i => by
  by_cases hi : i < 12
  · have h1 := frm_num h.sf i hi
    have h2 : (256 : Int) ^ wid i ≤ 65536 := by unfold wid; split <;> decide
    omega
  · unfold num; rw [List.getD_eq_getElem?_getD, List.getElem?_eq_none (by rw [h.s12]; omega)]; decide
theorem lim_le (hf : frmS S = true) : limS S ≤ num S 0 := by
  unfold limS
  rw [if_pos hf]
  split
  · next h2 =>
    have h3 := (frm_bound hf).2.1
    unfold frmSt stS at h3
    rw [if_neg (by omega), if_neg (by omega), if_pos h2] at h3
    unfold st2 at h3
    simp only [Bool.and_eq_true, decide_eq_true_eq] at h3
    omega
  · exact Int.le_refl _
theorem Dmd.low (h : Dmd w0 w P M d p r X S S2 N N2 O O2 Om kk bf bm xb o Nm Sm) {w' : World} (hb : Below w.heap.size w w') : Dmd w0 w' P M d p r X S S2 N N2 O O2 Om kk bf bm xb o Nm Sm :=
  { h with t := h.t.low hb, sp := h.sp.below hb, en := h.en.chg (Chg.of_below hb) }
theorem Dmd.mid (h : Dmd w0 w P M d p r X S S2 N N2 O O2 Om kk bf bm xb o Nm Sm) : Mid w0 w P M d p r X (64 * (kk : Int)) O O2 kk :=
  ⟨h.t.inv, h.t.wi, h.t.fu, h.t.has, h.t.has2, h.t.ok, h.t.pN, h.mN, h.ap, h.t.sz, h.t.be⟩
theorem Dmd.land {S3 : List Int} {N3 : List (List Int)} {O3 : List (Int × Int)} {P' : Nat → Prop} {X' : XSt} {w' : World} (h : Dmd w0 w P M d p r X S S2 N N2 O O2 Om kk bf bm xb o Nm Sm) (ht : Tmd w0 w' P' d p X' S S3 N N3 O O3 kk bf) (hc : Chg P P' w w') :
    Dmd w0 w' P' M d p r X' S S3 N N3 O O3 Om kk bf bm xb o Nm Sm := by
  obtain ⟨hs, ha⟩ := h.sp.chg hc h.ap
  exact { h with t := ht, sp := hs, en := h.en.chg (hc.pm M), ap := ha }
theorem Dmd.space {O3 : List (Int × Int)} {P' : Nat → Prop} {X' : XSt} {w' : World} (h : Dmd w0 w P M d p r (callX X) S S N N O O Om kk bf bm xb o Nm Sm) (hm : Mid w0 w' P' M d p r X' (64 * (kk : Int)) O O3 kk) (hs : RSp w' M r (64 * (kk : Int)) Om) (hc : Chg (PM P M) (PM P' M) w w') (hn : Near X.is X'.call) (hi : X'.is = X.is) :
    Dmd w0 w' P' M d p r X' S S N N O O3 Om kk bf bm xb o Nm Sm := by
  have he := h.en.chg hc
  refine { h with t := ⟨hm.inv, hm.wi, hm.fu, hm.has, hm.has2, hm.ok, by rw [hi]; exact h.t.tab, ?_, he.fs, fun hp => he.qf (.inl hp), h.t.bN, hm.pN, hm.sz, hm.be⟩, sp := hs, en := he, ap := hm.ap }
  rcases hn with e | ⟨g, D, hg, e⟩
  · rw [e]; exact h.t.tab
  · rw [e]; exact (show Tab X.is S N from h.t.tab).putG hg D
theorem Dmd.refe {O3 : List (Int × Int)} {w' : World} (h : Dmd w0 w P M d p r X S S2 N N2 O O2 Om kk bf bm xb o Nm Sm) (hm : Mid w0 w' P M d p r X (64 * (kk : Int)) O O2 kk) (hs : RSp w' M r (64 * (kk : Int)) O3) (hc : Chg (PM P M) (PM P M) w w') :
    Dmd w0 w' P M d p r X S S2 N N2 O O2 O3 kk bf bm xb o Nm Sm := by
  have he := h.en.chg hc
  exact { h with t := { h.t with inv := hm.inv, fs := he.fs, sz := hm.sz, be := hm.be }, sp := hs, en := he }
theorem Dmd.model {N3 : List (List Int)} {S3 : List Int} {w' : World} (h : Dmd w0 w P M d p r X S S2 N N2 O O2 Om kk bf bm xb o Nm Sm) (hk : KeptG w w' bm) (hm : MAt w' bm N3 S3 r) : Dmd w0 w' P M d p r X S S2 N N2 O O2 Om kk bf bm xb o N3 S3 := by
  have hq := h.en.qm
  have hc := hk.chg
  have hs := (h.sp.chg hc fun x hx e => hq (.inr (e ▸ hx))).1
  exact { h with t := h.t.far hc (fun x hx => by rw [hx]; exact h.bmN) (fun x hx e => hq (.inl (e ▸ hx))) (Ne.symm h.mbf), sp := hs, en := h.en.model hk hm h.mbf h.mbx }
theorem Dmd.boxed {o2 : O13} {w' : World} (h : Dmd w0 w P M d p r X S S2 N N2 O O2 Om kk bf bm xb o Nm Sm) (hk : KeptG w w' xb) (hr : w'.heap[xb]? = some (.cells o2.cells.toArray 40 (0, 0))) (ho : o2.ok) : Dmd w0 w' P M d p r X S S2 N N2 O O2 Om kk bf bm xb o2 Nm Sm := by
  have hq := h.en.qx
  have hc := hk.chg
  have hs := (h.sp.chg hc fun x hx e => hq (.inr (e ▸ hx))).1
  refine { h with t := h.t.far hc (fun x hx => by rw [hx]; exact h.xbN) (fun x hx e => hq (.inl (e ▸ hx))) (Ne.symm h.xbf), sp := hs, en := ⟨(hk.2.2.2.2 bf (Array.getElem?_eq_some_iff.1 h.en.fs).1 (Ne.symm h.xbf)).trans h.en.fs, box13 hr ho, hr, h.en.m.of (hk.2.2.2.2 bm h.en.m.lt h.mbx), h.en.qf, h.en.qx, h.en.qm, (Array.getElem?_eq_some_iff.1 hr).1⟩ }
theorem Psd.begin (h : Psd w0 w P M d p r X S N O kk bf bm) {W1 : World} (hb : Below w.heap.size w W1) (hx : W1.heap[w.heap.size]? = some (.cells o.cells.toArray 40 (0, 0))) (ho : o.ok) : Calls Tryz.prog 19 #[p] W1 fun e w' => e = .returned (.int .i64 0) ∧ ∃ P', Dmd w0 w' P' M d p r (callX X) S S N N O O O kk bf bm w.heap.size o N S := by
  have h1 := h.t.low hb
  have hxl := (Array.getElem?_eq_some_iff.1 hx).1
  refine h1.begin.mono fun e w' ⟨he, P', ht, hc⟩ => ⟨he, P', ?_⟩
  have hlt := h.t.inv.lt
  have hen : En W1 (PM P M) bf w.heap.size bm p r o N S := ⟨h1.fs, box13 hx ho, hx, h.m.low hb, fun e => e.elim h.t.nb h.mf, fun e => e.elim (fun e => by have := hlt _ e; omega) fun e => by have := h.sp.lt e; omega, fun e => e.elim h.bmP h.bmM, hxl⟩
  obtain ⟨hs, ha⟩ := (h.sp.below hb).chg hc h.ap
  exact ⟨ht, hs, hen.chg (hc.pm M), h.mN, ha, h.bmN, h.mbf, Nat.ne_of_lt h.m.lt, fun e => by have := (Array.getElem?_eq_some_iff.1 h.t.fs).1; omega, h.t.be.size⟩
def DoOut13 (w0 : World) (M : Nat → Prop) (d p r : Value) (kk bf bm : Nat) (v : Value) (e : Ending) (w' : World) : Prop :=
  e = .returned v ∧ ∃ P X S N O, Psd w0 w' P M d p r X S N O kk bf bm
theorem Dmd.fin (h : Dmd w0 w P M d p r X S S2 N N2 O O2 O2 kk bf bm xb o N2 S2) (hO : OOk O2 kk) (hs0 : num S2 0 = 64 * (kk : Int)) (h00 : num S 0 = 64 * (kk : Int)) {E : Int} (hE : E = 0 ∨ (E ≠ 0 ∧ S2 = S ∧ N2 = N ∧ O2 = O)) :
    Calls Tryz.prog 20 #[p, .bool (E == 0)] w (DoOut13 w0 M d p r kk bf bm (.int .i64 0)) := by
  have hq := h.en.qm
  have hqf := h.en.qf
  rcases hE with rfl | ⟨hne, rfl, rfl, rfl⟩
  · refine (h.t.keep hO).mono fun e w' ⟨he, P', X', ht, hc⟩ => ?_
    obtain ⟨hs, ha⟩ := h.sp.chg hc h.ap
    have hen := h.en.chg (hc.pm M)
    exact ⟨he, P', X', _, _, _, ⟨ht, hs, h.mN, ha, fun e => hqf (.inr e), hen.m, h.bmN, fun e => hen.qm (.inl e), fun e => hq (.inr e), h.mbf, hs0⟩⟩
  · rw [show (E == 0) = false by simpa using hne]
    refine h.t.undo.mono fun e w' ⟨he, P', X', ht, hc⟩ => ?_
    obtain ⟨hs, ha⟩ := h.sp.chg hc h.ap
    have hen := h.en.chg (hc.pm M)
    exact ⟨he, P', X', _, _, _, ⟨ht, hs, h.mN, ha, fun e => hqf (.inr e), hen.m, h.bmN, fun e => hen.qm (.inl e), fun e => hq (.inr e), h.mbf, h00⟩⟩
end
section
variable {w0 w : World} {P M : Nat → Prop} {d p r : Value} {X : XSt} {S : List Int} {N : List (List Int)} {O : List (Int × Int)} {kk bf bm : Nat}
set_option maxHeartbeats 4000000 in
theorem do13_put (h : Psd w0 w P M d p r X S N O kk bf bm) (o : O13) (ho : o.ok) (hk : o.k = 1) :
    Calls Tryz.prog 10 #[.pointer (some ⟨bm, 0, none⟩), .pointer (some ⟨bf, 0, none⟩), .agg o.cells.toArray] w (DoOut13 w0 M d p r kk bf bm (.bool true)) := by
  have hb1 := below_box w (.cells o.cells.toArray 40)
  have hr1 := heap_alloc_new w (.cells o.cells.toArray 40)
  obtain ⟨w1, hw1⟩ : ∃ w1, w1 = w.alloc (.cells o.cells.toArray 40) := ⟨_, rfl⟩
  rw [← hw1] at hb1 hr1
  have H1 := Lib.hid hw1.symm
  have KB := Lib.hid (h.begin hb1 hr1 ho)
  have cf1 := (h.t.low hb1).fs.cell
  obtain ⟨xb, hxb⟩ : ∃ xb, xb = w.heap.size := ⟨_, rfl⟩
  rw [← hxb] at KB
  have HXB := Lib.hid hxb
  have u1 := Tryz.underlying32
  have u2 := Tryz.underlying35
  have u3 := Tryz.underlying53
  have HI := Lib.hid ho.I
  have HSL := Lib.hid ho.S
  have HS0 := Lib.hid h.s0
  have HOK := Lib.hid h.t.ok
  have HH := Lib.hid h
  have k12 := h.t.ok.k12
  have k1 := h.t.ok.k1
  obtain ⟨E, N2, hp⟩ := put_ex N o.ino o.I
  have hor : E = 0 ∨ (E ≠ 0 ∧ S = S ∧ N2 = N ∧ O = O) := by 
    rcases hp with ⟨_, rfl, rfl⟩ | ⟨_, k, _, _, _, rfl, _⟩
    · exact .inr ⟨by decide, rfl, rfl, rfl⟩
    · exact .inl rfl
  have hO2 := h.t.ok
  have hn0 := h.s0
  have HK := Lib.hid hk
  have KE : Hid (∀ (W : World) (P' : Nat → Prop) (X' : XSt), Dmd w0 W P' M d p r X' S S N N2 O O O kk bf bm xb o N2 S → Calls Tryz.prog 20 #[p, .bool (E == 0)] W (DoOut13 w0 M d p r kk bf bm (.int .i64 0))) := Lib.hid fun W P' X' hd => hd.fin hO2 hn0 HS0.out hor
  have KP : Hid (∀ (W : World) (P' : Nat → Prop), Dmd w0 W P' M d p r (callX X) S S N N O O O kk bf bm xb o N S → Calls Tryz.prog 16 #[.pointer (some ⟨bf, 0, none⟩), .int .i64 o.ino, .agg (iC o.I).toArray] W fun e w' => e = .returned (.int .i64 E) ∧ ∃ P' X', Dmd w0 w' P' M d p r X' S S N N2 O O O kk bf bm xb o N S) := Lib.hid fun W P' hd => (put13 hd.t HI.out hp).mono fun e w' ⟨he, P2, X2, ht, hc⟩ => ⟨he, P2, X2, hd.land ht hc⟩
  have KM : Hid (∀ (W : World) (P' : Nat → Prop) (X' : XSt), Dmd w0 W P' M d p r X' S S N N2 O O O kk bf bm xb o N S → Calls Tryz.prog 27 #[.pointer (some ⟨bm, 0, none⟩), .int .i64 o.ino, .agg (iC o.I).toArray] W fun e w' => e = .returned (.int .i64 E) ∧ Dmd w0 w' P' M d p r X' S S N N2 O O O kk bf bm xb o N2 S) := Lib.hid fun W P' X' hd => (mPut_of hd.en.m HI.out hp).mono fun e w' ⟨he, hm, hk⟩ => ⟨he, hd.model hk hm⟩
  clear hor hO2 hn0 hp hk
  clear hb1 hr1 hw1 hxb h ho
  go_enter Tryz.func10, Tryz.ntmps10
  go_upto_region 1 with (fail)
  rw [H1.out, ← HXB.out]
  go_upto_region 27 with (first
    | (go_at_call 19; refine KB.out.mono ?_; rintro e w2 ⟨rfl, P2, hd2⟩; have bk2 := hd2.en.box.k; rw [HK.out] at bk2; have bi2 := hd2.en.box.ino; have bI2 := hd2.en.box.I)
    | (with_reducible refine wpList_load_nums rfl 32 (.tmp 63) rfl xb 4 rfl o.I _ bI2 u1 rfl (by rw [sizeRI, HI.out]) ?_)
    | (go_at_call 16; refine (KP.out _ _ hd2).mono ?_; rintro e w3 ⟨rfl, P3, X3, hd3⟩; have bi3 := hd3.en.box.ino; have bI3 := hd3.en.box.I)
    | (with_reducible refine wpList_load_nums rfl 32 (.tmp 70) rfl xb 4 rfl o.I _ bI3 u1 rfl (by rw [sizeRI, HI.out]) ?_)
    | (go_at_call 27; refine (KM.out _ _ _ hd3).mono ?_; rintro e w4 ⟨rfl, hd4⟩; have cf4 := hd4.en.fs.cell))
  go_wp2_with (go_at_call 20; refine (KE.out _ _ _ hd4).mono ?_; rintro e w9 ⟨rfl, hp9⟩)
  go_ret
  exact ⟨rfl, hp9⟩
end
section
variable {w0 w : World} {P M : Nat → Prop} {d p r : Value} {X : XSt} {S : List Int} {N : List (List Int)} {O : List (Int × Int)} {kk bf bm : Nat}
set_option maxHeartbeats 4000000 in
theorem do13_make (h : Psd w0 w P M d p r X S N O kk bf bm) (o : O13) (ho : o.ok) (hk : o.k = 2) :
    Calls Tryz.prog 10 #[.pointer (some ⟨bm, 0, none⟩), .pointer (some ⟨bf, 0, none⟩), .agg o.cells.toArray] w (DoOut13 w0 M d p r kk bf bm (.bool true)) := by
  have hb1 := below_box w (.cells o.cells.toArray 40)
  have hr1 := heap_alloc_new w (.cells o.cells.toArray 40)
  obtain ⟨w1, hw1⟩ : ∃ w1, w1 = w.alloc (.cells o.cells.toArray 40) := ⟨_, rfl⟩
  rw [← hw1] at hb1 hr1
  have H1 := Lib.hid hw1.symm
  have KB := Lib.hid (h.begin hb1 hr1 ho)
  have cf1 := (h.t.low hb1).fs.cell
  obtain ⟨xb, hxb⟩ : ∃ xb, xb = w.heap.size := ⟨_, rfl⟩
  rw [← hxb] at KB
  have HXB := Lib.hid hxb
  have u1 := Tryz.underlying32
  have u2 := Tryz.underlying35
  have u3 := Tryz.underlying53
  have HI := Lib.hid ho.I
  have HSL := Lib.hid ho.S
  have HS0 := Lib.hid h.s0
  have HOK := Lib.hid h.t.ok
  have HH := Lib.hid h
  have k12 := h.t.ok.k12
  have k1 := h.t.ok.k1
  obtain ⟨n, E, N2, hp⟩ := make_ex N o.kd
  have hor : E = 0 ∨ (E ≠ 0 ∧ S = S ∧ N2 = N ∧ O = O) := by
    rcases hp with ⟨_, _, rfl, rfl⟩ | ⟨_, _, _, rfl, rfl⟩ | ⟨_, f, _, _, rfl, _⟩
    · exact .inr ⟨by decide, rfl, rfl, rfl⟩
    · exact .inr ⟨by decide, rfl, rfl, rfl⟩
    · exact .inl rfl
  have hO2 := h.t.ok
  have hn0 := h.s0
  have HK := Lib.hid hk
  have KE : Hid (∀ (W : World) (P' : Nat → Prop) (X' : XSt), Dmd w0 W P' M d p r X' S S N N2 O O O kk bf bm xb o N2 S → Calls Tryz.prog 20 #[p, .bool (E == 0)] W (DoOut13 w0 M d p r kk bf bm (.int .i64 0))) := Lib.hid fun W P' X' hd => hd.fin hO2 hn0 HS0.out hor
  have KP : Hid (∀ (W : World) (P' : Nat → Prop), Dmd w0 W P' M d p r (callX X) S S N N O O O kk bf bm xb o N S → Calls Tryz.prog 14 #[.pointer (some ⟨bf, 0, none⟩), .int .i64 o.kd] W fun e w' => e = .returned (.tuple #[.int .i64 n, .int .i64 E]) ∧ ∃ P' X', Dmd w0 w' P' M d p r X' S S N N2 O O O kk bf bm xb o N S) := Lib.hid fun W P' hd => (make13 hd.t hp).mono fun e w' ⟨he, P2, X2, ht, hc⟩ => ⟨he, P2, X2, hd.land ht hc⟩
  have KM : Hid (∀ (W : World) (P' : Nat → Prop) (X' : XSt), Dmd w0 W P' M d p r X' S S N N2 O O O kk bf bm xb o N S → Calls Tryz.prog 28 #[.pointer (some ⟨bm, 0, none⟩), .int .i64 o.kd] W fun e w' => e = .returned (.tuple #[.int .i64 n, .int .i64 E]) ∧ Dmd w0 w' P' M d p r X' S S N N2 O O O kk bf bm xb o N2 S) := Lib.hid fun W P' X' hd => (mMake_of hd.en.m hp).mono fun e w' ⟨he, hm, hk⟩ => ⟨he, hd.model hk hm⟩
  clear hor hO2 hn0 hp hk
  clear hb1 hr1 hw1 hxb h ho
  go_enter Tryz.func10, Tryz.ntmps10
  go_upto_region 1 with (fail)
  rw [H1.out, ← HXB.out]
  go_upto_region 27 with (first
    | (go_at_call 19; refine KB.out.mono ?_; rintro e w2 ⟨rfl, P2, hd2⟩; have bk2 := hd2.en.box.k; rw [HK.out] at bk2; have bi2 := hd2.en.box.kd)
    | (go_at_call 14; refine (KP.out _ _ hd2).mono ?_; rintro e w3 ⟨rfl, P3, X3, hd3⟩; have bi3 := hd3.en.box.kd)
    | (go_at_call 28; refine (KM.out _ _ _ hd3).mono ?_; rintro e w4 ⟨rfl, hd4⟩; have cf4 := hd4.en.fs.cell))
  go_wp2_with (go_at_call 20; refine (KE.out _ _ _ hd4).mono ?_; rintro e w9 ⟨rfl, hp9⟩)
  go_ret
  exact ⟨rfl, hp9⟩
end
def setL (A S : List Int) : List Int := num S 0 :: ((A.drop 1).take 5 ++ S.drop 6)
def setO (o : O13) (S : List Int) : O13 := { o with S := setL o.S S }
theorem setL_facts {A S : List Int} (hA : A.length = 12) (hS : S.length = 12) (tA : Top A) (tS : Top S) : (setL A S).length = 12 ∧ num (setL A S) 0 = num S 0 ∧ (∀ t, t < 6 → num (setL A S) (6 + t) = num S (6 + t)) ∧ Top (setL A S) := by
  obtain ⟨a0, a1, a2, a3, a4, a5, a6, a7, a8, a9, a10, a11, rfl⟩ := list12_ex hA
  obtain ⟨s0, s1, s2, s3, s4, s5, s6, s7, s8, s9, s10, s11, rfl⟩ := list12_ex hS
  refine ⟨rfl, rfl, fun t ht => ?_, fun i => ?_⟩
  · have : t = 0 ∨ t = 1 ∨ t = 2 ∨ t = 3 ∨ t = 4 ∨ t = 5 := by omega
    rcases this with rfl | rfl | rfl | rfl | rfl | rfl <;> rfl
  · by_cases hi : i < 12
    · have : i = 0 ∨ i = 1 ∨ i = 2 ∨ i = 3 ∨ i = 4 ∨ i = 5 ∨ i = 6 ∨ i = 7 ∨ i = 8 ∨ i = 9 ∨ i = 10 ∨ i = 11 := by omega
      rcases this with rfl | rfl | rfl | rfl | rfl | rfl | rfl | rfl | rfl | rfl | rfl | rfl
      · exact tS 0
      · exact tA 1
      · exact tA 2
      · exact tA 3
      · exact tA 4
      · exact tA 5
      · exact tS 6
      · exact tS 7
      · exact tS 8
      · exact tS 9
      · exact tS 10
      · exact tS 11
    · unfold num; rw [List.getD_eq_getElem?_getD, List.getElem?_eq_none (by show 12 ≤ i; omega)]; decide
theorem setO_ok {o : O13} (ho : o.ok) {S : List Int} (hS : S.length = 12) (tS : Top S) : (setO o S).ok :=
  have h := setL_facts ho.S hS ho.T tS
  ⟨ho.ino, ho.kd, ho.n, ho.I, h.1, h.2.2.2, ho.i, ho.a⟩
theorem splice_left (A R : List Value) (j : Nat) (c : List Value) (k : Nat) (hk : k = A.length + j) : splice (A ++ R) k c = A ++ splice R j c := by
  subst hk
  unfold splice
  rw [List.take_length_add_append, Nat.add_assoc, List.drop_length_add_append, List.append_assoc]
theorem set_cells {o : O13} (ho : o.ok) {S : List Int} (hS : S.length = 12) : splice (splice o.cells 24 (iC (S.drop 6))) 18 [.int .i64 (num S 0)] = (setO o S).cells := by
  have e : ∀ T : List Int, ({ o with S := T } : O13).cells = ([.int .i64 o.k, .int .i64 o.ino, .int .i64 o.kd, .int .i64 o.n] ++ iC o.I) ++ (iC T ++ [.int .u16 o.i, .int .u16 o.a]) := fun T => by
    unfold O13.cells; rw [List.append_assoc]
  have h18 : ([.int .i64 o.k, .int .i64 o.ino, .int .i64 o.kd, .int .i64 o.n] ++ iC o.I : List Value).length = 18 := by rw [List.length_append, iC_length, ho.I]; rfl
  have e0 := e o.S
  rw [show ({ o with S := o.S } : O13) = o from rfl] at e0
  unfold setO
  rw [e0, e, splice_left _ _ 6 _ 24 (by rw [h18]), splice_left _ _ 0 _ 18 (by rw [h18])]
  congr 1
  obtain ⟨a0, a1, a2, a3, a4, a5, a6, a7, a8, a9, a10, a11, ha⟩ := list12_ex ho.S
  obtain ⟨s0, s1, s2, s3, s4, s5, s6, s7, s8, s9, s10, s11, rfl⟩ := list12_ex hS
  rw [ha]; rfl
theorem splice_one {L : List Value} {k : Nat} (v : Value) (h : k < L.length) : splice L k [v] = L.set k v := by
  rw [List.set_eq_take_append_cons_drop, if_pos h]; rfl
section
variable {w0 w : World} {P M : Nat → Prop} {d p r : Value} {X : XSt} {S : List Int} {N : List (List Int)} {O : List (Int × Int)} {kk bf bm : Nat}
set_option maxHeartbeats 4000000 in
theorem do13_set (h : Psd w0 w P M d p r X S N O kk bf bm) (o : O13) (ho : o.ok) (hk : o.k = 3) :
    Calls Tryz.prog 10 #[.pointer (some ⟨bm, 0, none⟩), .pointer (some ⟨bf, 0, none⟩), .agg o.cells.toArray] w (DoOut13 w0 M d p r kk bf bm (.bool true)) := by
  have hb1 := below_box w (.cells o.cells.toArray 40)
  have hr1 := heap_alloc_new w (.cells o.cells.toArray 40)
  obtain ⟨w1, hw1⟩ : ∃ w1, w1 = w.alloc (.cells o.cells.toArray 40) := ⟨_, rfl⟩
  rw [← hw1] at hb1 hr1
  have H1 := Lib.hid hw1.symm
  have KB := Lib.hid (h.begin hb1 hr1 ho)
  have cf1 := (h.t.low hb1).fs.cell
  obtain ⟨xb, hxb⟩ : ∃ xb, xb = w.heap.size := ⟨_, rfl⟩
  rw [← hxb] at KB
  have HXB := Lib.hid hxb
  have u1 := Tryz.underlying32
  have u2 := Tryz.underlying35
  have u3 := Tryz.underlying53
  have HI := Lib.hid ho.I
  have HSL := Lib.hid ho.S
  have HS0 := Lib.hid h.s0
  have HOK := Lib.hid h.t.ok
  have HH := Lib.hid h
  have k12 := h.t.ok.k12
  have k1 := h.t.ok.k1
  obtain ⟨L, hL⟩ : ∃ L, L = setL o.S S := ⟨_, rfl⟩
  have hl := setL_facts ho.S h.t.tab.s12 ho.T h.t.tab.top
  rw [← hL] at hl
  obtain ⟨E, S2, hp⟩ := set_ex S L
  have hor : E = 0 ∨ (E ≠ 0 ∧ S2 = S ∧ N = N ∧ O = O) := by
    rcases hp with ⟨_, rfl, rfl⟩ | ⟨_, rfl, _⟩
    · exact .inr ⟨by decide, rfl, rfl, rfl⟩
    · exact .inl rfl
  have hO2 := h.t.ok
  have hn0 : num S2 0 = 64 * (kk : Int) := by
    rcases hp with ⟨_, _, rfl⟩ | ⟨_, _, rfl⟩
    · exact h.s0
    · rw [hl.2.1]; exact h.s0
  have hs12 := h.t.tab.s12
  have hok2 : (setO o S).ok := setO_ok ho hs12 h.t.tab.top
  have hcs := set_cells ho hs12
  have HK := Lib.hid hk
  have KE : Hid (∀ (W : World) (P' : Nat → Prop) (X' : XSt), Dmd w0 W P' M d p r X' S S2 N N O O O kk bf bm xb (setO o S) N S2 → Calls Tryz.prog 20 #[p, .bool (E == 0)] W (DoOut13 w0 M d p r kk bf bm (.int .i64 0))) := Lib.hid fun W P' X' hd => hd.fin hO2 hn0 HS0.out hor
  have KP : Hid (∀ (W : World) (P' : Nat → Prop), Dmd w0 W P' M d p r (callX X) S S N N O O O kk bf bm xb (setO o S) N S → Calls Tryz.prog 17 #[.pointer (some ⟨bf, 0, none⟩), .agg (iC L).toArray] W fun e w' => e = .returned (.int .i64 E) ∧ ∃ P' X', Dmd w0 w' P' M d p r X' S S2 N N O O O kk bf bm xb (setO o S) N S) := Lib.hid fun W P' hd => (setS13 hd.t hl.1 hl.2.2.2 hl.2.1 hl.2.2.1 hp).mono fun e w' ⟨he, P2, X2, ht, hc⟩ => ⟨he, P2, X2, hd.land ht hc⟩
  have KM : Hid (∀ (W : World) (P' : Nat → Prop) (X' : XSt), Dmd w0 W P' M d p r X' S S2 N N O O O kk bf bm xb (setO o S) N S → Calls Tryz.prog 29 #[.pointer (some ⟨bm, 0, none⟩), .agg (iC L).toArray] W fun e w' => e = .returned (.int .i64 E) ∧ Dmd w0 w' P' M d p r X' S S2 N N O O O kk bf bm xb (setO o S) N S2) := Lib.hid fun W P' X' hd => (mSet_of hd.en.m hl.1 hl.2.2.2 hp).mono fun e w' ⟨he, hm, hk⟩ => ⟨he, hd.model hk hm⟩
  have HCS := Lib.hid hcs
  have HOK2 := Lib.hid hok2
  have HLL := Lib.hid hl.1
  have HS12 := Lib.hid hs12
  have HCL : Hid (24 + (iC (S.drop 6)).length ≤ o.cells.length ∧ True) := Lib.hid ⟨by rw [iC_length, List.length_drop, hs12, o.cells_length ho]; decide, trivial⟩
  have HC32 := Lib.hid (o.cells_length ho)
  have HBI : Hid (∀ W, Box13 W xb (setO o S) → W.rangeAt xb 18 (iC L)) := Lib.hid fun W hb => by rw [hL]; exact hb.S
  have u6 := Tryz.underlying33
  clear hor hO2 hn0 hp hk hl hs12 hok2 hcs hL
  clear hb1 hr1 hw1 hxb h ho
  go_enter Tryz.func10, Tryz.ntmps10
  go_upto_region 1 with (fail)
  rw [H1.out, ← HXB.out]
  go_upto_region 17 with (go_at_call 19; refine KB.out.mono ?_; rintro e w2 ⟨rfl, P2, hd2⟩; have bk2 := hd2.en.box.k; rw [HK.out] at bk2)
  have hq2 := hd2.low (Below.refl _ _).drew
  have hS : MAt w2.drew bm N S r := hq2.en.m
  refine wp_region_held_drew (S := fun W => MAt W bm N S r) (by kernel_rfl) hS (fun hHeld => ?_)
  clear hHeld
  refine tk 0 (.pointer (some ⟨bm, 0, none⟩)) rfl (by kernel_rfl) (fun _ _ _ h => h) (Or.inl ⟨by rfl, ?_⟩) (by assumption) ?_
  · rintro W hM; go_simp
  (try simp only [Act.put, q1, q2, q3, q4, q5])
  refine tk 1 (.pointer (some ⟨bm, 0, none⟩)) rfl (by kernel_rfl) (fun _ _ _ h => h) (Or.inl ⟨by rfl, ?_⟩) (by assumption) ?_
  · rintro W hM; go_simp
  (try simp only [Act.put, q1, q2, q3, q4, q5, q6])
  refine tk 2 (.pointer (some ⟨bm, 672, none⟩)) rfl (by kernel_rfl) (fun _ _ _ h => h) (Or.inl ⟨by rfl, ?_⟩) (by assumption) ?_
  · rintro W hM; go_simp
  (try simp only [Act.put, q1, q2, q3, q4, q5, q6])
  refine tk 3 (.pointer (some ⟨bm, 678, none⟩)) rfl (by kernel_rfl) (fun _ _ _ h => h) (Or.inl ⟨by rfl, ?_⟩) (by assumption) ?_
  · rintro W hM; go_simp
  (try simp only [Act.put, q1, q2, q3, q4, q5, q6])
  refine tk 4 (.agg (iC (S.drop 6)).toArray) rfl (by kernel_rfl) (fun _ _ _ h => h) (yieldsIf_load_mid rfl 33 (.tmp 104) rfl bm 678 rfl (iC (S.drop 6)) _ (fun W hW => hW.tbl) u6 rfl (by rw [infoA6, iC_length, List.length_drop, HS12.out])) (by assumption) ?_
  (try simp only [Act.put, q1, q2, q3, q4, q5, q6])
  refine tk 5 (.pointer (some ⟨bm, 0, none⟩)) rfl (by kernel_rfl) (fun _ _ _ h => h) (Or.inl ⟨by rfl, ?_⟩) (by assumption) ?_
  · rintro W hM; go_simp
  (try simp only [Act.put, q1, q2, q3, q4, q5, q6])
  refine tk 6 (.pointer (some ⟨bm, 0, none⟩)) rfl (by kernel_rfl) (fun _ _ _ h => h) (Or.inl ⟨by rfl, ?_⟩) (by assumption) ?_
  · rintro W hM; go_simp
  (try simp only [Act.put, q1, q2, q3, q4, q5, q6])
  refine tk 7 (.pointer (some ⟨bm, 672, none⟩)) rfl (by kernel_rfl) (fun _ _ _ h => h) (Or.inl ⟨by rfl, ?_⟩) (by assumption) ?_
  · rintro W hM; go_simp
  (try simp only [Act.put, q1, q2, q3, q4, q5, q6])
  refine tk 8 (.pointer (some ⟨bm, 672, none⟩)) rfl (by kernel_rfl) (fun _ _ _ h => h) (Or.inl ⟨by rfl, ?_⟩) (by assumption) ?_
  · rintro W hM; go_simp
  (try simp only [Act.put, q1, q2, q3, q4, q5, q6])
  refine tk 9 (.int .i64 (64 * (kk : Int))) rfl (by kernel_rfl) (fun _ _ _ h => h) (Or.inl ⟨by rfl, ?_⟩) (by assumption) ?_
  · rintro W hM; have f0 := hM.num (j := 0) (by decide); rw [HS0.out] at f0; have f1 : W.cell? ⟨bm, 672, none⟩ = some (.int .i64 (64 * (kk : Int))) := f0; go_simp
  (try simp only [Act.put, q1, q2, q3, q4, q5, q6])
  refine tk 10 (.pointer (some ⟨xb, 18, none⟩)) rfl (by kernel_rfl) (fun _ _ _ h => h) (Or.inl ⟨by rfl, ?_⟩) (by assumption) ?_
  · rintro W hM; go_simp
  (try simp only [Act.put, q1, q2, q3, q4, q5, q6])
  refine tk 11 (.pointer (some ⟨xb, 24, none⟩)) rfl (by kernel_rfl) (fun _ _ _ h => h) (Or.inl ⟨by rfl, ?_⟩) (by assumption) ?_
  · rintro W hM; go_simp
  (try simp only [Act.put, q1, q2, q3, q4, q5, q6])
  refine wpAnyH_ready (rs := [12]) (by kernel_rfl) (by simp) (AllReadyH.cons rfl (fun K hK => ?_) AllReadyH.nil)
  rw [if_pos (by rfl)]
  refine wp_store_part 33 (.tmp 112) (.tmp 105) rfl xb 24 o.cells (iC (S.drop 6)) 40 rfl rfl (by rw [infoA6, iC_length, List.length_drop, HS12.out]) hq2.en.row HCL.out.1 (iC_one _) fun w3 hw3 hr3 => ?_
  have hk3 := (KeptG.refl _ xb).wrote hw3
  have hS3 : MAt w3 bm N S r := hS.of (hk3.2.2.2.2 bm hS.lt hq2.mbx)
  refine hK.out _ _ hS3 (fun hHeld => ?_)
  clear hK K hHeld
  (try simp only [Act.put, q4, q5, q6])
  refine tk 13 (.pointer (some ⟨xb, 18, none⟩)) rfl (by kernel_rfl) (fun _ _ _ h => h) (Or.inl ⟨by rfl, ?_⟩) (by assumption) ?_
  · rintro W hM; go_simp
  (try simp only [Act.put, q1, q2, q3, q4, q5, q6])
  refine tk 14 (.pointer (some ⟨xb, 18, none⟩)) rfl (by kernel_rfl) (fun _ _ _ h => h) (Or.inl ⟨by rfl, ?_⟩) (by assumption) ?_
  · rintro W hM; go_simp
  (try simp only [Act.put, q1, q2, q3, q4, q5, q6])
  refine wpAnyH_ready (rs := [15]) (by kernel_rfl) (by simp) (AllReadyH.cons rfl (fun K hK => ?_) AllReadyH.nil)
  have hl3 : 18 < (splice o.cells 24 (iC (S.drop 6))).length := by rw [length_splice _ _ _ HCL.out.1, HC32.out]; decide
  have hf3 := frozen_of_row w3 xb 18 _ _ hr3
  have hc3 : w3.cell? ⟨xb, 18, none⟩ = some ((splice o.cells 24 (iC (S.drop 6)))[18]) := by rw [cell_of_row _ _ _ _ _ _ hr3]; simp [hl3]
  obtain ⟨v3, hv3⟩ : ∃ v3, v3 = (splice o.cells 24 (iC (S.drop 6)))[18] := ⟨_, rfl⟩
  rw [← hv3] at hc3
  clear hv3
  go_simp
  have hr4 : (w3.setCell ⟨xb, 18, none⟩ (.int .i64 (64 * (kk : Int)))).heap[xb]? = some (.cells ((splice o.cells 24 (iC (S.drop 6))).toArray.setIfInBounds 18 (.int .i64 (64 * (kk : Int)))) 40 (0, 0)) := heap_setCell_same w3 xb 18 _ _ _ hr3
  rw [List.setIfInBounds_toArray, ← splice_one _ hl3] at hr4
  have hk4 := hk3.wrote (Wrote.setCell w3 xb 18 (.int .i64 (64 * (kk : Int))))
  generalize w3.setCell ⟨xb, 18, none⟩ (.int .i64 (64 * (kk : Int))) = w4 at hr4 hk4 ⊢
  have hS4 : MAt w4 bm N S r := hS.of (hk4.2.2.2.2 bm hS.lt hq2.mbx)
  refine hK.out _ _ hS4 (fun hHeld => ?_)
  clear hK K hHeld
  (try simp only [Act.put, q1, q2, q3, q4, q5, q6])
  refine wpAnyH_done (by kernel_rfl) ?_ _
  rw [← HS0.out, HCS.out] at hr4
  have hd4 := hq2.boxed hk4 hr4 HOK2.out
  have bI4 := HBI.out _ hd4.en.box
  go_upto_region 27 with (first
    | (with_reducible refine wpList_load_nums rfl 35 (.tmp 116) rfl xb 18 rfl L _ bI4 u2 rfl (by rw [sizeRS, HLL.out]) ?_)
    | (go_at_call 17; refine (KP.out _ _ hd4).mono ?_; rintro e w5 ⟨rfl, P5, X5, hd5⟩; have bI5 := HBI.out _ hd5.en.box)
    | (with_reducible refine wpList_load_nums rfl 35 (.tmp 121) rfl xb 18 rfl L _ bI5 u2 rfl (by rw [sizeRS, HLL.out]) ?_)
    | (go_at_call 29; refine (KM.out _ _ _ hd5).mono ?_; rintro e w6 ⟨rfl, hd6⟩; have cf6 := hd6.en.fs.cell))
  go_wp2_with (go_at_call 20; refine (KE.out _ _ _ hd6).mono ?_; rintro e w9 ⟨rfl, hp9⟩)
  go_ret
  exact ⟨rfl, hp9⟩
end
section
variable {w0 w : World} {P M : Nat → Prop} {d p r : Value} {X : XSt} {S : List Int} {N : List (List Int)} {O : List (Int × Int)} {kk bf bm : Nat}
set_option maxHeartbeats 4000000 in
theorem do13_take (h : Psd w0 w P M d p r X S N O kk bf bm) (o : O13) (ho : o.ok) (hk : o.k = 4) :
    Calls Tryz.prog 10 #[.pointer (some ⟨bm, 0, none⟩), .pointer (some ⟨bf, 0, none⟩), .agg o.cells.toArray] w (DoOut13 w0 M d p r kk bf bm (.bool true)) := by
  have hb1 := below_box w (.cells o.cells.toArray 40)
  have hr1 := heap_alloc_new w (.cells o.cells.toArray 40)
  obtain ⟨w1, hw1⟩ : ∃ w1, w1 = w.alloc (.cells o.cells.toArray 40) := ⟨_, rfl⟩
  rw [← hw1] at hb1 hr1
  have H1 := Lib.hid hw1.symm
  have KB := Lib.hid (h.begin hb1 hr1 ho)
  have cf1 := (h.t.low hb1).fs.cell
  obtain ⟨xb, hxb⟩ : ∃ xb, xb = w.heap.size := ⟨_, rfl⟩
  rw [← hxb] at KB
  have HXB := Lib.hid hxb
  have u1 := Tryz.underlying32
  have u2 := Tryz.underlying35
  have u3 := Tryz.underlying53
  have HI := Lib.hid ho.I
  have HSL := Lib.hid ho.S
  have HS0 := Lib.hid h.s0
  have HOK := Lib.hid h.t.ok
  have HH := Lib.hid h
  have k12 := h.t.ok.k12
  have k1 := h.t.ok.k1
  obtain ⟨x, E, O2, hO2, hor2, HB⟩ := take12 (b := 64 * (kk : Int)) (l := limS S) (g := o.n) h.t.ok (by omega) (by have := lim_le h.t.tab.sf; have := h.s0; omega) ho.i ho.a
  have hor : E = 0 ∨ (E ≠ 0 ∧ S = S ∧ N = N ∧ O2 = O) := hor2.elim .inl fun ⟨a, b⟩ => .inr ⟨a, rfl, rfl, b⟩
  have hn0 := h.s0
  have hTop := h.t.tab.top
  have hs12 := h.t.tab.s12
  have HK := Lib.hid hk
  have KE : Hid (∀ (W : World) (P' : Nat → Prop) (X' : XSt), Dmd w0 W P' M d p r X' S S N N O O2 O2 kk bf bm xb o N S → Calls Tryz.prog 20 #[p, .bool (E == 0)] W (DoOut13 w0 M d p r kk bf bm (.int .i64 0))) := Lib.hid fun W P' X' hd => hd.fin hO2 hn0 HS0.out hor
  have KG : Hid (∀ (W : World) (P' : Nat → Prop), Dmd w0 W P' M d p r (callX X) S S N N O O O kk bf bm xb o N S → Calls Tryz.prog 15 #[.pointer (some ⟨bf, 0, none⟩), .int .i64 o.n, .agg #[.int .u16 o.i, .int .u16 o.a]] W fun e w' => e = .returned (.tuple #[.int .i64 x, .int .i64 E]) ∧ ∃ P' X', Dmd w0 w' P' M d p r X' S S N N O O2 O kk bf bm xb o N S) := Lib.hid fun W P' hd => by
    have hT : Tab (callX X).cur S N := hd.t.tab2
    refine (fsTake_any (R := fun y F V w' => (y = x ∧ F = E) ∧ ∃ P2 X', Mid w0 w' P2 M d p r X' (64 * (kk : Int)) O O2 kk ∧ RSp w' M r (64 * (kk : Int)) O ∧ Chg (PM P' M) (PM P2 M) V w' ∧ Near X.is X'.call ∧ X'.is = X.is) hd.t.inv hd.en.fs hT hTop (Below.refl _ _) (fun y F V w' b hb hbl ⟨_, _, _, _, _, hc, _⟩ => (hc.keep b hbl fun e => e.elim (fun e => by have := hd.t.inv.lt _ e; omega) fun e => by have := hd.sp.lt e; omega).1) fun V hv => ?_).mono ?_
    · rw [hn0]
      exact (HB.land (hd.low hv).mid (hd.low hv).sp).mono fun e w' ⟨he, P2, X2, hm, hs, hc, hn, hi⟩ => ⟨x, E, he, ⟨rfl, rfl⟩, P2, X2, hm, hs, hc, hn, hi⟩
    · rintro e w' ⟨y, F, V, he, hv, ⟨rfl, rfl⟩, P2, X2, hm, hs, hc, hn, hi⟩
      exact ⟨he, P2, X2, (hd.low hv).space hm hs hc hn hi⟩
  have KR : Hid (∀ (W : World) (P' : Nat → Prop) (X' : XSt), Dmd w0 W P' M d p r X' S S N N O O2 O kk bf bm xb o N S → Calls Tryz.prog 30 #[r, .int .i64 (64 * (kk : Int)), .int .i64 (limS S), .int .i64 o.n, .agg #[.int .u16 o.i, .int .u16 o.a]] W fun e w' => e = .returned (.tuple #[.int .i64 x, .int .i64 E]) ∧ Dmd w0 w' P' M d p r X' S S N N O O2 O2 kk bf bm xb o N S) := Lib.hid fun W P' X' hd => (HB.refe hd.mid hd.sp).mono fun e w' ⟨he, hm, hs, hc⟩ => ⟨he, hd.refe hm hs hc⟩
  have KL : Hid (∀ W : World, Calls Tryz.prog 31 #[.agg (iC S).toArray] W fun e w' => e = .returned (.int .i64 (limS S)) ∧ Below W.heap.size W w') := Lib.hid (rLimS_of hs12 hTop)
  have HS12 := Lib.hid hs12
  clear hor hor2 hO2 hn0 HB hk hTop hs12
  obtain ⟨lm, hlm⟩ : ∃ lm, lm = limS S := ⟨_, rfl⟩
  rw [← hlm] at KR KL
  clear hlm
  clear hb1 hr1 hw1 hxb h ho
  go_enter Tryz.func10, Tryz.ntmps10
  go_upto_region 1 with (fail)
  rw [H1.out, ← HXB.out]
  go_upto_region 22 with (first
    | (go_at_call 19; refine KB.out.mono ?_; rintro e w2 ⟨rfl, P2, hd2⟩; have bk2 := hd2.en.box.k; rw [HK.out] at bk2; have bn2 := hd2.en.box.n; have bi2 := hd2.en.box.i; have ba2 := hd2.en.box.a)
    | (go_at_call 15; refine (KG.out _ _ hd2).mono ?_; rintro e w3 ⟨rfl, P3, X3, hd3⟩))
  have hq3 := hd3.low (Below.refl _ _).drew
  have hS : (fun W => Box13 W xb o ∧ MAt W bm N S r) w3.drew := ⟨hq3.en.box, hq3.en.m⟩
  refine wp_region_held_drew (S := fun W => Box13 W xb o ∧ MAt W bm N S r) (by kernel_rfl) hS (fun hHeld => ?_)
  clear hHeld
  refine tk 0 (.pointer (some ⟨bm, 0, none⟩)) rfl (by kernel_rfl) (fun _ _ _ h => h) (Or.inl ⟨by rfl, ?_⟩) (by assumption) ?_
  · rintro W ⟨hB, hM⟩; go_simp
  (try simp only [Act.put, q1, q2, q3, q4, q5])
  refine tk 1 (.pointer (some ⟨bm, 0, none⟩)) rfl (by kernel_rfl) (fun _ _ _ h => h) (Or.inl ⟨by rfl, ?_⟩) (by assumption) ?_
  · rintro W ⟨hB, hM⟩; go_simp
  (try simp only [Act.put, q1, q2, q3, q4, q5, q6])
  refine tk 2 (.pointer (some ⟨bm, 684, none⟩)) rfl (by kernel_rfl) (fun _ _ _ h => h) (Or.inl ⟨by rfl, ?_⟩) (by assumption) ?_
  · rintro W ⟨hB, hM⟩; go_simp
  (try simp only [Act.put, q1, q2, q3, q4, q5, q6])
  refine tk 3 (r) rfl (by kernel_rfl) (fun _ _ _ h => h) (Or.inl ⟨by rfl, ?_⟩) (by assumption) ?_
  · rintro W ⟨hB, hM⟩; have f0 := hM.ptr; go_simp
  (try simp only [Act.put, q1, q2, q3, q4, q5, q6])
  refine tk 4 (.pointer (some ⟨bm, 0, none⟩)) rfl (by kernel_rfl) (fun _ _ _ h => h) (Or.inl ⟨by rfl, ?_⟩) (by assumption) ?_
  · rintro W ⟨hB, hM⟩; go_simp
  (try simp only [Act.put, q1, q2, q3, q4, q5, q6])
  refine tk 5 (.pointer (some ⟨bm, 0, none⟩)) rfl (by kernel_rfl) (fun _ _ _ h => h) (Or.inl ⟨by rfl, ?_⟩) (by assumption) ?_
  · rintro W ⟨hB, hM⟩; go_simp
  (try simp only [Act.put, q1, q2, q3, q4, q5, q6])
  refine tk 6 (.pointer (some ⟨bm, 672, none⟩)) rfl (by kernel_rfl) (fun _ _ _ h => h) (Or.inl ⟨by rfl, ?_⟩) (by assumption) ?_
  · rintro W ⟨hB, hM⟩; go_simp
  (try simp only [Act.put, q1, q2, q3, q4, q5, q6])
  refine tk 7 (.pointer (some ⟨bm, 672, none⟩)) rfl (by kernel_rfl) (fun _ _ _ h => h) (Or.inl ⟨by rfl, ?_⟩) (by assumption) ?_
  · rintro W ⟨hB, hM⟩; go_simp
  (try simp only [Act.put, q1, q2, q3, q4, q5, q6])
  refine tk 8 (.int .i64 (64 * (kk : Int))) rfl (by kernel_rfl) (fun _ _ _ h => h) (Or.inl ⟨by rfl, ?_⟩) (by assumption) ?_
  · rintro W ⟨hB, hM⟩; have f0 := hM.num (j := 0) (by decide); rw [HS0.out] at f0; have f1 : W.cell? ⟨bm, 672, none⟩ = some (.int .i64 (64 * (kk : Int))) := f0; go_simp
  (try simp only [Act.put, q1, q2, q3, q4, q5, q6])
  refine tk 9 (.pointer (some ⟨bm, 0, none⟩)) rfl (by kernel_rfl) (fun _ _ _ h => h) (Or.inl ⟨by rfl, ?_⟩) (by assumption) ?_
  · rintro W ⟨hB, hM⟩; go_simp
  (try simp only [Act.put, q1, q2, q3, q4, q5, q6])
  refine tk 10 (.pointer (some ⟨bm, 0, none⟩)) rfl (by kernel_rfl) (fun _ _ _ h => h) (Or.inl ⟨by rfl, ?_⟩) (by assumption) ?_
  · rintro W ⟨hB, hM⟩; go_simp
  (try simp only [Act.put, q1, q2, q3, q4, q5, q6])
  refine tk 11 (.pointer (some ⟨bm, 672, none⟩)) rfl (by kernel_rfl) (fun _ _ _ h => h) (Or.inl ⟨by rfl, ?_⟩) (by assumption) ?_
  · rintro W ⟨hB, hM⟩; go_simp
  (try simp only [Act.put, q1, q2, q3, q4, q5, q6])
  refine tk 12 (.agg (iC S).toArray) rfl (by kernel_rfl) (fun _ _ _ h => h) (yieldsIf_load_mid rfl 35 (.tmp 148) rfl bm 672 rfl (iC S) _ (fun W hW => hW.2.sup) u2 rfl (by rw [sizeRS, iC_length, HS12.out])) (by assumption) ?_
  (try simp only [Act.put, q1, q2, q3, q4, q5, q6])
  refine tk 14 (.pointer (some ⟨xb, 3, none⟩)) rfl (by kernel_rfl) (fun _ _ _ h => h) (Or.inl ⟨by rfl, ?_⟩) (by assumption) ?_
  · rintro W ⟨hB, hM⟩; go_simp
  (try simp only [Act.put, q1, q2, q3, q4, q5, q6])
  refine tk 15 (.int .i64 (o.n)) rfl (by kernel_rfl) (fun _ _ _ h => h) (Or.inl ⟨by rfl, ?_⟩) (by assumption) ?_
  · rintro W ⟨hB, hM⟩; have f0 := hB.n; go_simp
  (try simp only [Act.put, q1, q2, q3, q4, q5, q6])
  refine tk 16 (.pointer (some ⟨xb, 30, none⟩)) rfl (by kernel_rfl) (fun _ _ _ h => h) (Or.inl ⟨by rfl, ?_⟩) (by assumption) ?_
  · rintro W ⟨hB, hM⟩; go_simp
  (try simp only [Act.put, q1, q2, q3, q4, q5, q6])
  refine tk 17 (.agg #[.int .u16 o.i, .int .u16 o.a]) rfl (by kernel_rfl) (fun _ _ _ h => h) (Or.inl ⟨by rfl, ?_⟩) (by assumption) ?_
  · rintro W ⟨hB, hM⟩; have f0 := hB.i; have f1 := hB.a; go_simp
  (try simp only [Act.put, q1, q2, q3, q4, q5, q6])
  refine wpAnyH_ready (rs := [13]) (by kernel_rfl) (by simp) (AllReadyH.cons rfl (fun K hK => ?_) AllReadyH.nil)
  go_simp
  go_at_call 31
  refine (KL.out _).mono ?_
  rintro e w4 ⟨rfl, hb4⟩
  have hd4 := hq3.low hb4
  have hS4 : Box13 w4 xb o ∧ MAt w4 bm N S r := ⟨hd4.en.box, hd4.en.m⟩
  refine hK.out _ _ hS4 (fun hHeld => ?_)
  clear hK K hHeld
  (try simp only [Act.put, q1, q2, q3, q4, q5, q6])
  refine wpAnyH_ready (rs := [18]) (by kernel_rfl) (by simp) (AllReadyH.cons rfl (fun K hK => ?_) AllReadyH.nil)
  go_simp
  go_at_call 30
  refine (KR.out _ _ _ hd4).mono ?_
  rintro e w5 ⟨rfl, hd5⟩
  have hS5 : Box13 w5 xb o ∧ MAt w5 bm N S r := ⟨hd5.en.box, hd5.en.m⟩
  refine hK.out _ _ hS5 (fun hHeld => ?_)
  clear hK K hHeld
  (try simp only [Act.put, q1, q2, q3, q4, q5, q6])
  refine tk 19 (.tuple #[.int .i64 x, .int .i64 E]) rfl (by kernel_rfl) (fun _ _ _ h => h) (Or.inl ⟨by rfl, ?_⟩) (by assumption) ?_
  · rintro W ⟨hB, hM⟩; go_simp
  (try simp only [Act.put, q1, q2, q3, q4, q5, q6])
  refine tk 20 (.int .i64 (x)) rfl (by kernel_rfl) (fun _ _ _ h => h) (Or.inl ⟨by rfl, ?_⟩) (by assumption) ?_
  · rintro W ⟨hB, hM⟩; go_simp
  (try simp only [Act.put, q1, q2, q3, q4, q5, q6])
  refine tk 21 (.int .i64 (E)) rfl (by kernel_rfl) (fun _ _ _ h => h) (Or.inl ⟨by rfl, ?_⟩) (by assumption) ?_
  · rintro W ⟨hB, hM⟩; go_simp
  (try simp only [Act.put, q1, q2, q3, q4, q5, q6])
  refine tk 22 (.int .i64 (x)) rfl (by kernel_rfl) (fun _ _ _ h => h) (Or.inl ⟨by rfl, ?_⟩) (by assumption) ?_
  · rintro W ⟨hB, hM⟩; go_simp
  (try simp only [Act.put, q1, q2, q3, q4, q5, q6])
  refine tk 23 (.int .i64 (E)) rfl (by kernel_rfl) (fun _ _ _ h => h) (Or.inl ⟨by rfl, ?_⟩) (by assumption) ?_
  · rintro W ⟨hB, hM⟩; go_simp
  (try simp only [Act.put, q1, q2, q3, q4, q5, q6])
  refine wpAnyH_done (by kernel_rfl) ?_ _
  have cf5 := hd5.en.fs.cell
  go_wp2_with (go_at_call 20; refine (KE.out _ _ _ hd5).mono ?_; rintro e w9 ⟨rfl, hp9⟩)
  go_ret
  exact ⟨rfl, hp9⟩
end
end Go.Proofs.YtekeoljfdnfbgaaGreat
