/- The reference's store: End. -/
import Derived.ChangeMaps5
import Derived.Test.YtigbhdgcjklhoaaGreatC4
import Derived.Test.YtigbhdgcjklhoaaGreatC8
namespace Go.Proofs.YtigbhdgcjklhoaaGreat
set_option maxRecDepth 100000
open Go.RowKit
set_option linter.unusedVariables false

/-- append of one to a row of one's own: the old slice reads as it did. -/
theorem run_append_st (w : World) (ty : TypeId) (v : Value) (n : Nat) (us : List Value) (ho : w.ownsRow 0 34 1 v n us) (h0 : 0 < n) (x : Value) (hx : x.oneCell' = true) (q : Nat) (hq : w.heap[q]? = some (.cells #[x] 34 (0, 0))) (hn : n ≤ 100000) :
    ∃ v' w', (Builtin.append_ #[40, 40] ty #[v, .slice (some ⟨q, 0, none⟩) 1 1]).run Tryz.prog w = .ok v' w' ∧ w'.ownsRow 0 34 1 v' (n + 1) (us ++ [x]) ∧ w.grownBy w' v.ownBlock ∧ (v'.ownBlock = v.ownBlock ∨ v'.ownBlock = some w.heap.size) ∧ w'.ownsRow 0 34 1 v n us := by
  obtain ⟨t, h2, h3, h4, h5⟩ := info_parts infoBB
  have hcell : ∀ j u, ([x] : List Value)[j]? = some u → w.cell? ((⟨q, 0, none⟩ : Addr).add j) = some u := fun j u hj => by
    have hj0 : j = 0 := by have := (List.getElem?_eq_some_iff.1 hj).1; simp at this; omega
    subst hj0
    rw [Addr.add_lit, Nat.zero_add, cell_of_row _ _ _ _ _ _ hq, ← hj]; rfl
  have hone : ∀ u ∈ ([x] : List Value), u.oneCell' = true := fun u hu => by simp at hu; subst hu; exact hx
  obtain ⟨v', w', hrun, h6, h7, _, h8⟩ := run_append_own_at (P := Tryz.prog) w 0 40 ty 34 t _ 1 24 Tryz.underlying40 h2 h3 h4 h5 rfl (by decide) v n us ho ⟨q, 0, none⟩ 1 1 [x] rfl hcell hone (by simp only [maxLen]; omega) (by omega) (Nat.zero_le _)
  refine ⟨v', w', hrun, h6, h7, h8, ?_⟩
  rcases ho.2 with ⟨_, e0⟩ | ⟨g, cap, cur, rfl, hB, hh, hnc, hcm, hcs, ht⟩
  · omega
  · by_cases hr : n + 1 ≤ cap
    · have hsz : cur.size = cap := by omega
      have hc : ∀ j, j < ([x] : List Value).length → (w.cell? ⟨g, 0 + n * t.size + j, none⟩).isSome = true := fun j hj => by
        have hj0 : j = 0 := by simpa using hj
        rw [hj0, h4, cell_of_row _ _ _ _ _ _ hh]
        simp; omega
      have hf : ∀ j, j < ([x] : List Value).length → w.frozen? ⟨g, 0 + n * t.size + j, none⟩ = false := fun j hj => by simp [World.frozen?, hh]
      have hrun2 := run_append_room_cells (P := Tryz.prog) w 40 ty 34 t Tryz.underlying40 h2 g 0 n cap ⟨q, 0, none⟩ 1 1 [x] (by rw [h4]; rfl) hcell hone hr hc hf
      rw [hrun2] at hrun
      injection hrun with e1 e2
      subst e1
      rcases h6.2 with ⟨e, _⟩ | ⟨g', cap', cur', hv', hB', hh', hnc', hcm', hcs', ht'⟩
      · cases e
      · injection hv' with a1 a2 a3
        injection a1 with a1
        injection a1 with a1
        subst a1
        subst a3
        refine ⟨ho.1, .inr ⟨g, cap, cur', rfl, hB, hh', hnc, hcm, hcs', ?_⟩⟩
        have := congrArg (List.take (n * 1)) ht'
        rw [List.take_take, Nat.min_eq_left (by omega)] at this
        have hul := ho.1
        have e5 : (us ++ [x]).take (n * 1) = us := by
          rw [List.take_append_of_le_length (by omega)]
          exact List.take_of_length_le (by omega)
        exact this.trans e5
    · obtain ⟨v2, w2, hrun2, _, hg⟩ := run_append_arg_grows (P := Tryz.prog) w 40 ty 34 t _ 1 24 Tryz.underlying40 h2 h3 h4 h5 rfl (by decide) ⟨g, 0, none⟩ n cap us (by rw [ho.1]) (fun j u hj => by
        rw [Addr.add_lit, Nat.zero_add, cell_of_row _ _ _ _ _ _ hh]
        have hjl : j < us.length := (List.getElem?_eq_some_iff.1 hj).1
        have : (cur.toList.take (n * 1))[j]? = us[j]? := by rw [ht]
        rw [List.getElem?_take, if_pos (by rw [ho.1] at hjl; omega), hj] at this
        simpa using this) ⟨q, 0, none⟩ 1 1 [x] rfl hcell (by omega) (by simp only [maxLen]; omega) (by omega)
      rw [hrun2] at hrun
      injection hrun with e1 e2
      subst e2
      exact ownsRow_keep ho fun k hk => hg.block k (ho.lt k hk).2 (by simp)
theorem step_append_st {w : World} {ops : Array Oper} {o : Oper} {a : Act} {K : Act → World → Prop} {Q : Exit → Act → World → Prop} {E : Prop} (hgd : o.guard = none) (s y : Operand)
    (ho : o.op = .call { callee := .builtin .append, args := #[s, y], argTypes := #[40, 40] })
    (v : Value) (n : Nat) (us : List Value) (hs : a.eval s = v) (hown : w.ownsRow 0 34 1 v n us) (h0 : 0 < n) (x : Value) (hx : x.oneCell' = true) (q : Nat) (hy : a.eval y = .slice (some ⟨q, 0, none⟩) 1 1) (hq : w.heap[q]? = some (.cells #[x] 34 (0, 0))) (hn : n ≤ 100000)
    (h : ∀ v' w', w'.ownsRow 0 34 1 v' (n + 1) (us ++ [x]) → w.grownBy w' v.ownBlock → (v'.ownBlock = v.ownBlock ∨ v'.ownBlock = some w.heap.size) → w'.ownsRow 0 34 1 v n us → K (a.put o.dst v') w') :
    if Region.wanted o (yielded ops a.tmps) = true then Oper.wp Tryz.prog o a w K Q else E := by
  rw [if_pos (by simp [Region.wanted, hgd])]
  obtain ⟨v', w', hr, h1, h2, h3, h4⟩ := run_append_st w o.type v n us hown h0 x hx q hq hn
  unfold Oper.wp execOp
  simp only [ho, resolve, invoke, builtin, Sem.run_bind, Sem.run_pure, Result.andThen_ok, List.map_toArray, List.map_cons, List.map_nil, hs, hy, hr]
  exact h v' w' h1 h2 h3 h4
section
variable {w : World} {P M : Nat → Prop} {p vS : Value} {s : RSt}
theorem RAt.undone {b m : Nat} {vI vC vP : Value} (h : RAt w P M b m vI vC vP vS s) (hw : s.wi = true) :
    let w' := w.setCell ⟨b, 4, none⟩ (.bool false)
    RAt w' P (ROwn b m vC vS false) b m vI vC vP vS { s with wi := false } ∧ Chg M (ROwn b m vC vS false) w w' := by
  intro w'
  have hbl := h.bl
  have hs0 : w'.heap.size = w.heap.size := by simp [w', World.setCell]
  have old : ∀ k, k ≠ b → w'.heap[k]? = w.heap[k]? := fun k hk => heap_setCell_other _ _ _ _ hk
  have hMn : ∀ k, ROwn b m vC vS false k → M k := fun k hk => by
    rcases hk with e | e | ⟨e, _⟩
    · exact (h.own k).2 (.inl e)
    · exact (h.own k).2 (.inr (.inl e))
    · cases e
  have hchg : Chg M (ROwn b m vC vS false) w w' := h.chgOwn (w' := w') rfl rfl rfl (by omega) (fun k hl hm => old k (fun e => hm ((h.own k).2 (.inl e)))) fun k hk => .inl (hMn k hk)
  refine ⟨⟨?_, h.hI.chg hchg.orL, ?_, fun e => (by cases e), h.neS, fun e => (by cases e), fun k hk => h.apart k (hMn k hk), fun k => Iff.rfl, h.len⟩, hchg⟩
  · exact heap_setCell_same w b 4 _ _ (.bool false) h.hb
  · obtain ⟨us, hl, he, ho⟩ := h.hS
    exact ⟨us, hl, fun j hj => (he j hj).chg hchg.orL, ownsRow_keep ho fun g hg => old g fun e => h.neS (by rw [← e]; exact hg)⟩
theorem rsEnd_undo (h : RSo w P M p vS s) (hw : s.wi = true) :
    Calls Tryz.prog 23 #[p, .bool false] w fun e w' => e = .returned (.int .i64 0) ∧ ∃ M', RSo w' P M' p vS { s with wi := false } ∧ Chg M M' w w' := by
  obtain ⟨b, m, vI, vC, vP, rfl, h⟩ := h
  have c4 := h.c4
  have f4 := h.fr 4
  rw [hw] at c4
  have K := Lib.hid (h.undone hw)
  clear h
  go_enter Tryz.func23, Tryz.ntmps23
  go_wp2
  go_ret
  obtain ⟨x1, x2⟩ := K.out
  exact ⟨rfl, _, ⟨b, _, _, _, _, rfl, x1⟩, x2⟩
/-- What End(true) leaves. -/
theorem RAt.ended {b m : Nat} {vI vC vP : Value} (h : RAt w P M b m vI vC vP vS s) (hw : s.wi = true) (hP : ∀ k, P k → k < w.heap.size) {us : List Value} (hul : us.length = s.sts.length) (hue : ∀ j, j < s.sts.length → BBa w (fun k => P k ∨ M k) (us.getD j undef) (s.sts.getD j []))
    {w4 : World} {v' : Value} :
    let w2 := (w.setCell ⟨b, 4, none⟩ (.bool false)).setCell ⟨b, 0, none⟩ vC
    let w3 := (w2.alloc (.cells #[vC] 34)).drew
    w4.ownsRow 0 34 1 v' (s.sts.length + 1) (us ++ [vC]) → w3.grownBy w4 vS.ownBlock → (v'.ownBlock = vS.ownBlock ∨ v'.ownBlock = some w3.heap.size) → w4.ownsRow 0 34 1 vS s.sts.length us →
    RAt (w4.setCell ⟨b, 3, none⟩ v') P (ROwn b m vC v' false) b m vC vC vP v' { s with is := s.call, sts := s.sts ++ [s.call], wi := false } ∧ Chg M (ROwn b m vC v' false) w (w4.setCell ⟨b, 3, none⟩ v') ∧ ROld (w4.setCell ⟨b, 3, none⟩ v') P (ROwn b m vC v' false) vS s.sts := by
  intro w2 w3 ho hg hv hold
  have hbl := h.bl
  obtain ⟨g, cap, hvC, hcap, hMg, hgb, hce⟩ := h.call hw
  have hcl := (h.hC hw).2.2.1
  have hs2 : w2.heap.size = w.heap.size := by simp [w2, World.setCell]
  have hs3 : w3.heap.size = w.heap.size + 1 := by
    show (w2.alloc _).heap.size = _
    simp [hs2]
  have hs4 := hg.size
  have o2 : ∀ k, k ≠ b → w2.heap[k]? = w.heap[k]? := fun k hk => (heap_setCell_other _ _ _ _ hk).trans (heap_setCell_other _ _ _ _ hk)
  have o3 : ∀ k, k < w.heap.size → w3.heap[k]? = w2.heap[k]? := fun k hk => heap_alloc_old w2 _ (by omega)
  have hSb : vS.ownBlock ≠ some b := h.neS
  have o4 : ∀ k, k ≠ b → k < w.heap.size → vS.ownBlock ≠ some k → (w4.setCell ⟨b, 3, none⟩ v').heap[k]? = w.heap[k]? := fun k hk hl hn => by
    refine (heap_setCell_other _ _ _ _ hk).trans ?_
    rw [hg.block k (by omega) (fun e => hn e.symm), o3 k hl, o2 k hk]
  have hs5 : (w4.setCell ⟨b, 3, none⟩ v').heap.size = w4.heap.size := by simp [World.setCell]
  have hMn : ∀ k, ROwn b m vC v' false k → M k ∨ w.heap.size ≤ k := fun k hk => by
    rcases hk with e | e | ⟨e, _⟩
    · exact .inl ((h.own k).2 (.inl e))
    · rcases hv with e2 | e2
      · exact .inl ((h.own k).2 (.inr (.inl (by rw [← e2]; exact e))))
      · rw [e2] at e
        have := Option.some.inj e
        exact .inr (by omega)
    · cases e
  have hchg : Chg M (ROwn b m vC v' false) w (w4.setCell ⟨b, 3, none⟩ v') := h.chgOwn (w' := w4.setCell ⟨b, 3, none⟩ v') hg.os hg.tape hg.output (by omega) (fun k hl hm => o4 k (fun e => hm ((h.own k).2 (.inl e))) hl fun e => hm (h.mS e)) hMn
  have hgl : g < w.heap.size := h.lt hMg
  have hgS : vS.ownBlock ≠ some g := (h.neC hw).2 g (by rw [hvC]; rfl)
  have hng : ¬ ROwn b m vC v' false g := by
    rintro (e | e | ⟨e, _⟩)
    · exact hgb e
    · rcases hv with e2 | e2
      · exact hgS (by rw [← e2]; exact e)
      · rw [e2] at e
        have := Option.some.inj e
        omega
    · cases e
  have hIC : BBa (w4.setCell ⟨b, 3, none⟩ v') (fun k => P k ∨ ROwn b m vC v' false k) vC s.call := by
    refine .inr ⟨⟨g, 0, none⟩, cap, hvC, hcap, fun j hj => ?_⟩
    obtain ⟨u, k1, k2, k3⟩ := hce j hj
    obtain ⟨k4, k5⟩ := k2.chg k3 hchg.orL
    refine ⟨⟨by show g < _; omega, fun e => e.elim (h.apart g hMg) hng⟩, rfl, u, ?_, k4, k5⟩
    rw [Nat.zero_add, World.cell?_of_block (a := ⟨g, j, none⟩) (w := w) (o4 g hgb hgl hgS)]
    exact k1
  have hrow : ∀ (v : Value) (n : Nat) (xs : List Value), v.ownBlock ≠ some b → w4.ownsRow 0 34 1 v n xs → (w4.setCell ⟨b, 3, none⟩ v').ownsRow 0 34 1 v n xs := fun v n xs hne hr => ownsRow_keep hr fun k hk => heap_setCell_other _ _ _ _ fun e => hne (hk.trans (congrArg some e))
  have hv'b : v'.ownBlock ≠ some b := fun e => by
    rcases hv with e2 | e2
    · exact hSb (by rw [← e2]; exact e)
    · rw [e2] at e
      have := Option.some.inj e
      omega
  have hst : ∀ j, j < s.sts.length → BBa (w4.setCell ⟨b, 3, none⟩ v') (fun k => P k ∨ ROwn b m vC v' false k) (us.getD j undef) (s.sts.getD j []) := fun j hj => (hue j hj).chg hchg.orL
  refine ⟨⟨?_, hIC, ⟨us ++ [vC], by simp [hul], fun j hj => ?_, ?_⟩, fun e => (by cases e), hv'b, fun e => (by cases e), fun k hk hp => ?_, fun k => Iff.rfl, ⟨by show 0 < s.call.length; rw [hcl]; exact h.len.1, by show s.call.length ≤ 2000; rw [hcl]; exact h.len.2.1, by simp⟩⟩, hchg, ⟨us, hul, hst, hrow vS _ _ hSb hold⟩⟩
  · have e2 : w2.heap[b]? = some (.cells #[vC, vC, vP, vS, .bool false] 42 (0, 0)) := heap_setCell_same _ b 0 _ _ vC (heap_setCell_same w b 4 _ _ (.bool false) h.hb)
    have e4 : w4.heap[b]? = some (.cells #[vC, vC, vP, vS, .bool false] 42 (0, 0)) := by
      rw [hg.block b (by omega) (fun e => hSb e.symm), o3 b hbl]; exact e2
    exact heap_setCell_same w4 b 3 _ _ v' e4
  · show BBa _ _ ((us ++ [vC]).getD j undef) ((s.sts ++ [s.call]).getD j [])
    rw [List.length_append] at hj
    by_cases hjl : j < s.sts.length
    · have := hst j hjl
      rw [List.getD_eq_getElem?_getD, List.getD_eq_getElem?_getD] at this ⊢
      rw [List.getElem?_append_left (by omega), List.getElem?_append_left hjl]
      exact this
    · have hj0 : j = s.sts.length := by simp at hj; omega
      subst hj0
      rw [List.getD_eq_getElem?_getD, List.getD_eq_getElem?_getD, List.getElem?_append_right (by omega), List.getElem?_append_right (Nat.le_refl _), hul, Nat.sub_self]
      exact hIC
  · have := hrow v' _ _ hv'b ho
    rw [List.length_append]
    exact this
  · rcases hMn k hk with e | e
    · exact h.apart k e hp
    · have := hP k hp; omega
set_option maxHeartbeats 1000000 in
theorem rsEnd_keep (h : RSo w P M p vS s) (hw : s.wi = true) (hP : ∀ k, P k → k < w.heap.size) (hst : s.sts.length ≤ 1000) :
    Calls Tryz.prog 23 #[p, .bool true] w fun e w' => e = .returned (.int .i64 0) ∧ ∃ M' vS', RSo w' P M' p vS' { s with is := s.call, sts := s.sts ++ [s.call], wi := false } ∧ Chg M M' w w' ∧ ROld w' P M' vS s.sts := by
  obtain ⟨b, m, vI, vC, vP, rfl, h⟩ := h
  have c4 := h.c4
  have f4 := h.fr 4
  have hbl := h.bl
  rw [hw] at c4
  obtain ⟨us, hul, hue, hos⟩ := h.hS
  have K := Lib.hid (fun (w4 : World) (v' : Value) => h.ended hw hP hul hue (w4 := w4) (v' := v'))
  have hlen := h.len.2.2
  obtain ⟨g, cap, rfl, hcap, hMg, hgb, hce⟩ := h.call hw
  obtain ⟨L, hL⟩ : ∃ L, L = s.call.length := ⟨_, rfl⟩
  obtain ⟨aS, cS, rfl⟩ := ownsRow_shape hos
  have hbb := h.hb
  rw [hw, ← hL] at hbb
  obtain ⟨n, hn⟩ : ∃ n, n = s.sts.length := ⟨_, rfl⟩
  rw [← hn] at hbb hos hlen hst
  rw [← hL, ← hn] at K
  have hSb : (Value.slice aS n cS).ownBlock ≠ some b := by rw [hn]; exact h.neS
  -- the box, behind the first store, behind the second
  have e1 := heap_setCell_same w b 4 _ _ (.bool false) hbb
  have e2 := heap_setCell_same _ b 0 _ _ (.slice (some ⟨g, 0, none⟩) L cap) e1
  obtain ⟨k1, _⟩ := box_cell (i := 1) e1 rfl
  obtain ⟨k0, g0⟩ := box_cell (i := 0) e1 rfl
  obtain ⟨k3, _⟩ := box_cell (i := 3) e2 rfl
  obtain ⟨k5, _⟩ := box_cell (i := 0) e2 rfl
  have hos2 : ((w.setCell ⟨b, 4, none⟩ (.bool false)).setCell ⟨b, 0, none⟩ (.slice (some ⟨g, 0, none⟩) L cap)).ownsRow 0 34 1 (.slice aS n cS) n us := ownsRow_keep hos fun k hk => (heap_setCell_other _ _ _ _ fun e => hSb (hk.trans (congrArg some e))).trans (heap_setCell_other _ _ _ _ fun e => hSb (hk.trans (congrArg some e)))
  have hb2 : b < ((w.setCell ⟨b, 4, none⟩ (.bool false)).setCell ⟨b, 0, none⟩ (.slice (some ⟨g, 0, none⟩) L cap)).heap.size := by simpa [World.setCell] using hbl
  have HL := Lib.hid hL
  have HN := Lib.hid hn
  have HSB := Lib.hid hSb
  clear h hue hos hbb e1 hce hMg hgb hcap hL hn
  go_enter Tryz.func23, Tryz.ntmps23
  go_upto_region 6 with (fail)
  generalize (w.setCell ⟨b, 4, none⟩ (.bool false)).setCell ⟨b, 0, none⟩ (.slice (some ⟨g, 0, none⟩) L cap) = W2 at K hos2 hb2 k3 k5 e2 ⊢
  have E2 := Lib.hid e2
  have HO2 := Lib.hid hos2
  clear e2 hos2
  have HQ3 : ((W2.alloc (.cells #[.slice (some ⟨g, 0, none⟩) L cap] 34)).drew).heap[W2.heap.size]? = some (.cells #[.slice (some ⟨g, 0, none⟩) L cap] 34 (0, 0)) := heap_alloc_new W2 _
  have HO3 : Hid (((W2.alloc (.cells #[.slice (some ⟨g, 0, none⟩) L cap] 34)).drew).ownsRow 0 34 1 (.slice aS n cS) n us) := Lib.hid (ownsRow_keep HO2.out fun k hk => heap_alloc_old W2 _ (HO2.out.lt k hk).2)
  have HC3 := Lib.hid (fun (w4 : World) (hg : ((W2.alloc (.cells #[.slice (some ⟨g, 0, none⟩) L cap] 34)).drew).grownBy w4 (Value.slice aS n cS).ownBlock) => by
    have e4 : w4.heap[b]? = _ := (hg.block b (by show b < (W2.alloc _).heap.size; simp; omega) (fun e => HSB.out e.symm)).trans ((heap_alloc_old W2 _ hb2).trans E2.out)
    exact box_cell (i := 3) e4 rfl)
  go_region_law
    ((refine step_append_st (by rfl) _ _ (by rfl) (.slice aS n cS) n us (by rfl) HO3.out hlen (.slice (some ⟨g, 0, none⟩) L cap) (by rfl) W2.heap.size (by rfl) HQ3 (by omega) ?_; intro v' w4 ho4 hg4 hv4 hold4; obtain ⟨k6, g6⟩ := HC3.out w4 hg4; obtain ⟨aV, cV, rfl⟩ := ownsRow_shape ho4))
  all_goals
    have HK := Lib.hid (K.out w4 _ ho4 hg4 hv4 hold4)
    clear ho4 hg4 hv4 hold4
    go_wp2
    go_ret
    obtain ⟨x1, x2, x3⟩ := HK.out
    have hn := HN.out
    have hl := HL.out
    subst hn
    subst hl
    exact ⟨rfl, _, ⟨_, b, _, _, _, _, rfl, x1⟩, x2, x3⟩
end
end Go.Proofs.YtigbhdgcjklhoaaGreat

/- The reference's store: PutBlock. -/
namespace Go.Proofs.YtigbhdgcjklhoaaGreat
set_option maxRecDepth 100000
open Go.RowKit Go.ChangeMaps
set_option linter.unusedVariables false

theorem step_append_bytes11 {ops : Array Oper} {o : Oper} {a : Act} {w : World} {K : Act → World → Prop} {Q : Exit → Act → World → Prop} {E : Prop} (hgd : o.guard = none) (s x : Operand)
    (ho : o.op = .call { callee := .builtin .append, args := #[s, x], argTypes := #[59, 59] })
    (B : Nat) (v : Value) (l : List Int) (hs : a.eval s = v) (hown : OB w B v l) (u : Value) (m : List Int) (hx : a.eval x = u) (hr : BSl w u m) (hm : 0 < m.length)
    (hlen : l.length + m.length ≤ 140737488355328) (hB : B ≤ w.heap.size)
    (h : ∀ v' w', OB w' B v' (l ++ m) → Below B w w' → w.grownBy w' v.ownBlock → K (a.put o.dst v') w') :
    if Region.wanted o (yielded ops a.tmps) = true then Oper.wp Tryz.prog o a w K Q else E := by
  have hw : Region.wanted o (yielded ops a.tmps) = true := by simp [Region.wanted, hgd]
  rw [if_pos hw]
  obtain ⟨i, h2, h3, h4, h5⟩ := info_parts infoU8
  obtain ⟨ao, cap, rfl, hcap⟩ := hr.shape
  have hby := byt_append hown.1 hr.1
  have e1 : (l ++ m).length = l.length + m.length := List.length_append
  have e2 : (l ++ m).map (Value.int .u8) = l.map (Value.int .u8) ++ m.map (Value.int .u8) := List.map_append
  cases ao with
  | none =>
    rcases hr.2 with ⟨_, hl⟩ | ⟨_, _, hv, _⟩
    · rw [hl] at hm; simp at hm
    · simp at hv
  | some ad =>
    have hcells : ∀ j v, (m.map (Value.int .u8))[j]? = some v → w.cell? (ad.add j) = some v := by
      intro j v hj
      have hjl : j < m.length := by simpa using (List.getElem?_eq_some_iff.1 hj).1
      obtain ⟨ad', he, hc⟩ := src_cells hr (fun _ _ => rfl) m.length (by simp; omega)
      obtain rfl : ad = ad' := by simpa using he
      exact hc j v (by simpa using hj)
    refine wp_append_own w s x 59 ho B 5 i (.int .u8 0) 1 1 Tryz.underlying59 h2 h3 h4 h5 rfl (by decide) v l.length _ hs hown.2 ad m.length cap _ hx (by simp) hcells (ints_oneCell _ _) (by simp only [maxLen]; omega) (by omega) hB fun v' w' h6 h7 _ => ?_
    exact h v' w' ⟨hby, by rw [e1, e2]; exact h6⟩ ((Below.refl _ _).grown h7 hB fun k hk => (hown.2.lt k hk).1) h7
section
variable {w : World} {P M : Nat → Prop} {p vS : Value} {s : RSt}
theorem rsPut_not (h : RSo w P M p vS s) (hw : s.wi = false) (n : Int) (v : Value) : Calls Tryz.prog 21 #[p, .int .i64 n, v] w fun e w' => e = .returned (.int .i64 17) ∧ w = w' := by
  obtain ⟨b, m, vI, vC, vP, rfl, h⟩ := h
  have c4 := h.c4
  rw [hw] at c4
  clear h
  go_enter Tryz.func21, Tryz.ntmps21
  go_wp2
  go_ret
  exact ⟨rfl, rfl⟩
theorem rsPut_arg (h : RSo w P M p vS s) (hw : s.wi = true) {n : Int} {v : Value} {l : List Int} (hv : BSl w v l) (hb : -9223372036854775808 ≤ n ∧ n ≤ 9223372036854775807) (hn : n < 0 ∨ (s.is.length : Int) ≤ n ∨ l.length ≠ 256) :
    Calls Tryz.prog 21 #[p, .int .i64 n, v] w fun e w' => e = .returned (.int .i64 1) ∧ w = w' := by
  obtain ⟨b, m, vI, vC, vP, rfl, h⟩ := h
  have c4 := h.c4
  have c0 := h.c0
  rw [hw] at c4
  obtain ⟨ao, cap, rfl, _⟩ := h.hI.sl.shape
  obtain ⟨av, cv, rfl, _⟩ := hv.shape
  have hl := h.len
  obtain ⟨L, hL⟩ : ∃ L, L = s.is.length := ⟨_, rfl⟩
  obtain ⟨K, hK⟩ : ∃ K, K = l.length := ⟨_, rfl⟩
  rw [← hL] at hn c0 hl
  rw [← hK] at hn ⊢
  have HH := Lib.hid hn
  clear hL h hv hK hn hl
  by_cases h0 : n < 0
  · go_enter Tryz.func21, Tryz.ntmps21
    go_wp2
    go_ret
    exact ⟨rfl, rfl⟩
  · by_cases h1 : (L : Int) ≤ n
    · go_enter Tryz.func21, Tryz.ntmps21
      go_wp2
      go_ret
      exact ⟨rfl, rfl⟩
    · have h2 : ¬ (K : Int) = 256 := by have := HH.out; omega
      go_enter Tryz.func21, Tryz.ntmps21
      go_wp2
      go_ret
      exact ⟨rfl, rfl⟩
theorem rsPut_full (h : RSo w P M p vS s) (hw : s.wi = true) {n : Nat} {v : Value} {l : List Int} (hv : BSl w v l) (hn : n < s.is.length) (hl : l.length = 256) (hnp : (n : Int) ∉ s.put) (hfull : 37 ≤ s.put.length) (hpl : s.put.length ≤ 1000) :
    Calls Tryz.prog 21 #[p, .int .i64 n, v] w fun e w' => e = .returned (.int .i64 13) ∧ w = w' := by
  obtain ⟨b, m, vI, vC, vP, rfl, h⟩ := h
  have c4 := h.c4
  have c0 := h.c0
  have c2 := h.c2
  rw [hw] at c4
  obtain ⟨rfl, hm, _⟩ := h.hC hw
  obtain ⟨ao, cap, rfl, _⟩ := h.hI.sl.shape
  obtain ⟨av, cv, rfl, _⟩ := hv.shape
  have hll := h.len
  have hlook := hm.lookup (n := (n : Int)) (i64wf (by omega))
  rw [decide_eq_false hnp] at hlook
  have hlen := hm.len
  obtain ⟨L, hL⟩ : ∃ L, L = s.is.length := ⟨_, rfl⟩
  obtain ⟨N, hN⟩ : ∃ N, N = s.put.length := ⟨_, rfl⟩
  rw [← hL] at hn c0 hll
  rw [← hN] at hlen hfull hpl
  rw [hl]
  clear hL h hv hm hN hl hnp
  go_enter Tryz.func21, Tryz.ntmps21
  go_wp2
  go_ret
  exact ⟨rfl, rfl⟩
end
end Go.Proofs.YtigbhdgcjklhoaaGreat

/- The reference's store: PutBlock that changes a block. -/
namespace Go.Proofs.YtigbhdgcjklhoaaGreat
set_option maxRecDepth 100000
open Go.RowKit Go.ChangeMaps
set_option linter.unusedVariables false

section
variable {w : World} {P M : Nat → Prop} {p vS : Value} {s : RSt}
theorem RAt.mb' {b m : Nat} {vI vC vP : Value} (h : RAt w P M b m vI vC vP vS s) (hw : s.wi = true) : m ≠ b ∧ M m ∧ (∀ k, vC.ownBlock = some k → m ≠ k) ∧ ∀ k, vS.ownBlock = some k → m ≠ k := by
  obtain ⟨_, ⟨es, cl, hh, _⟩, _, vs, _, _, ho⟩ := h.hC hw
  obtain ⟨us, _, _, hoS⟩ := h.hS
  refine ⟨fun e => ?_, (h.own m).2 (.inr (.inr ⟨hw, .inr rfl⟩)), fun k hk e => ?_, fun k hk e => ?_⟩
  · rw [e, h.hb] at hh; cases hh
  · rcases ho.2 with ⟨e1, _⟩ | ⟨g, cap, cur, e1, _, hg, _⟩
    · rw [e1] at hk; cases hk
    · rw [e1] at hk
      have := Option.some.inj hk
      rw [e, ← this, hg] at hh; cases hh
  · rcases hoS.2 with ⟨e1, _⟩ | ⟨g, cap, cur, e1, _, hg, _⟩
    · rw [e1] at hk; cases hk
    · rw [e1] at hk
      have := Option.some.inj hk
      rw [e, ← this, hg] at hh; cases hh
/-- What Put leaves. -/
theorem RAt.putted {b m : Nat} {vI vC vP : Value} (h : RAt w P M b m vI vC vP vS s) (hw : s.wi = true) (hP : ∀ k, P k → k < w.heap.size) {g cap : Nat} (hvC : vC = .slice (some ⟨g, 0, none⟩) s.call.length cap) {n : Nat} (hn : n < s.is.length) {l : List Int}
    {w2 w5 : World} {v' : Value} (hb2 : Below w.heap.size w w2) (hv' : OB w2 w.heap.size v' l) (hos : w5.os = w2.os) (htp : w5.tape = w2.tape) (hou : w5.output = w2.output) (hsz : w5.heap.size = w2.heap.size)
    (hk : ∀ k, k ≠ g → k ≠ m → w5.heap[k]? = w2.heap[k]?) (hg : ∀ cur t, w2.heap[g]? = some (.cells cur t (0, 0)) → w5.heap[g]? = some (.cells (cur.setIfInBounds n v') t (0, 0))) (hm : MSet w5 m (addS s.put n)) :
    RAt w5 P M b m vI vC vP vS { s with call := s.call.set n l, put := addS s.put n } ∧ Chg M M w w5 := by
  obtain ⟨hmb, hMm, hmC, hmS⟩ := h.mb' hw
  obtain ⟨hp, _, hcl, vs, hvl, hve, ho⟩ := h.hC hw
  have hgC : vC.ownBlock = some g := by rw [hvC]; rfl
  have hMg : M g := (h.own g).2 (.inr (.inr ⟨hw, .inl hgC⟩))
  have hgb : g ≠ b := fun e => (h.neC hw).1 (by rw [← e]; exact hgC)
  have hgS : vS.ownBlock ≠ some g := (h.neC hw).2 g hgC
  have hs2 := hb2.size
  have hbl := h.bl
  have old : ∀ k, k < w.heap.size → k ≠ g → k ≠ m → w5.heap[k]? = w.heap[k]? := fun k hl h1 h2 => (hk k h1 h2).trans (hb2.block k hl)
  have hchg : Chg M M w w5 := h.chgOwn (w' := w5) (hos.trans hb2.os) (htp.trans hb2.tape) (hou.trans hb2.output) (by omega) (fun k hl hn' => old k hl (fun e => hn' (by rw [e]; exact hMg)) fun e => hn' (by rw [e]; exact hMm)) fun k e => .inl e
  have hc2 : Chg M M w2 w5 := ⟨hos, htp, hou, by omega, fun k _ hn' => ⟨hk k (fun e => hn' (by rw [e]; exact hMg)) fun e => hn' (by rw [e]; exact hMm), hn'⟩⟩
  have hvo : ∀ k, v'.ownBlock = some k → w.heap.size ≤ k := fun k hk' => (hv'.2.lt k hk').1
  have hapt : ∀ Q : Nat → Prop, (∀ k, Q k → k < w.heap.size) → Apt Q v' := fun Q hQ ad n' cap' e _ hq => by
    have := hvo ad.block (by rw [e]; rfl)
    have := hQ _ hq
    omega
  have hMl : ∀ k, M k → k < w.heap.size := fun k hk' => h.lt hk'
  refine ⟨⟨?_, h.hI.chg hchg.orL, ?_, fun _ => ⟨hp, hm, by show (s.call.set n l).length = _; rw [List.length_set]; exact hcl, vs.set n v', by show _ = (s.call.set n l).length; rw [List.length_set, List.length_set]; exact hvl, fun j hj => ?_, ?_⟩, h.neS, fun _ => h.neC hw, h.apart, fun k => (h.own k).trans (by rw [hw]), h.len⟩, hchg⟩
  · rw [old b hbl (Ne.symm hgb) (Ne.symm hmb)]
    have := h.hb
    rw [hw] at this ⊢
    exact this
  · obtain ⟨us, hl, he, hoS⟩ := h.hS
    exact ⟨us, hl, fun j hj => (he j hj).chg hchg.orL, ownsRow_keep hoS fun k hk' => old k (h.lt (h.mS hk')) (fun e => hgS (by rw [← e]; exact hk')) fun e => hmS k hk' e.symm⟩
  · have hj' : j < s.call.length := by
      have : j < (s.call.set n l).length := hj
      rwa [List.length_set] at this
    show BSl w5 ((vs.set n v').getD j undef) ((s.call.set n l).getD j []) ∧ Apt _ ((vs.set n v').getD j undef)
    by_cases e : n = j
    · subst e
      have e1 : (vs.set n v').getD n undef = v' := by
        rw [List.getD_eq_getElem?_getD, List.getElem?_set_self (by omega)]; rfl
      have e2 : (s.call.set n l).getD n [] = l := by
        rw [List.getD_eq_getElem?_getD, List.getElem?_set_self hj']; rfl
      rw [e1, e2]
      exact ⟨(hv'.bsl.chg (hapt M hMl) hc2).1, hapt _ fun k hk' => hk'.elim (hP k) (hMl k)⟩
    · have e1 : (vs.set n v').getD j undef = vs.getD j undef := by
        rw [List.getD_eq_getElem?_getD, List.getD_eq_getElem?_getD, List.getElem?_set_ne e]
      have e2 : (s.call.set n l).getD j [] = s.call.getD j [] := by
        rw [List.getD_eq_getElem?_getD, List.getD_eq_getElem?_getD, List.getElem?_set_ne e]
      rw [e1, e2]
      exact (hve j hj').1.chg (hve j hj').2 hchg.orL
  · show w5.ownsRow 0 59 1 vC (s.call.set n l).length (vs.set n v')
    rw [List.length_set]
    refine ⟨by rw [List.length_set]; exact ho.1, ?_⟩
    rcases ho.2 with ⟨e1, _⟩ | ⟨g', cap', cur, e1, hB, hh, hnc, hcm, hcs, ht⟩
    · rw [hvC] at e1; cases e1
    · have e2 : g' = g := by
        rw [e1] at hgC
        exact Option.some.inj hgC
      subst e2
      have hh2 := hg cur _ ((hb2.block g' (h.lt hMg)).trans hh)
      refine .inr ⟨g', cap', _, e1, hB, hh2, hnc, hcm, by rw [Array.size_setIfInBounds]; exact hcs, ?_⟩
      rw [Array.toList_setIfInBounds, List.take_set, ht]
set_option maxHeartbeats 4000000 in
theorem rsPut_ok (h : RSo w P M p vS s) (hw : s.wi = true) (hP : ∀ k, P k → k < w.heap.size) {n : Nat} {v : Value} {l : List Int} (hv : BSl w v l) (hn : n < s.is.length) (hl : l.length = 256) (hpl : s.put.length ≤ 1000) (hnp : (n : Int) ∈ s.put ∨ s.put.length < 37) :
    Calls Tryz.prog 21 #[p, .int .i64 n, v] w fun e w' => e = .returned (.int .i64 0) ∧ RSo w' P M p vS { s with call := s.call.set n l, put := addS s.put n } ∧ Chg M M w w' := by
  obtain ⟨b, m, vI, vC, vP, rfl, h⟩ := h
  have c4 := h.c4
  have c0 := h.c0
  have c1 := h.c1
  have c2 := h.c2
  rw [hw] at c4
  obtain ⟨hvP, hm, hcl, vs, hvl, hve, ho⟩ := h.hC hw
  obtain ⟨g, cap, hvC, hcap, hMg, hgb, hce⟩ := h.call hw
  obtain ⟨hmb, hMm, hmC, hmS⟩ := h.mb' hw
  have hmg : m ≠ g := hmC g (by rw [hvC]; rfl)
  have hbl := h.bl
  have hgl : g < w.heap.size := h.lt hMg
  have hml : m < w.heap.size := h.lt hMm
  obtain ⟨cur, hcur, hcurs⟩ : ∃ cur, w.heap[g]? = some (.cells cur 59 (0, 0)) ∧ s.call.length ≤ cur.size := by
    rcases ho.2 with ⟨e1, _⟩ | ⟨g', cap', cur, e1, _, hh, hnc, _, hcs, _⟩
    · rw [hvC] at e1; cases e1
    · rw [hvC] at e1
      injection e1 with a1
      injection a1 with a1
      injection a1 with a1
      subst a1
      exact ⟨cur, hh, by omega⟩
  obtain ⟨ao, capI, hvI, _⟩ := h.hI.sl.shape
  have hll := h.len
  have hwf : (Lit.int .i64 (n : Int)).wf = true := i64wf (by omega)
  have hlook := hm.lookup hwf
  have hlen := hm.len
  have hPT := Lib.hid (fun (w2 w5 : World) (v' : Value) => h.putted hw hP hvC hn (l := l) (w2 := w2) (w5 := w5) (v' := v'))
  obtain ⟨es0, ck0, hes0⟩ : ∃ es ck, w.heap[m]? = some (.map es ck) := by
    obtain ⟨es, ck, hh, _⟩ := hm
    exact ⟨es, ck, hh⟩
  have hME := Lib.hid (fun (W : World) (hW : W.heap[m]? = w.heap[m]?) => (hm.below hW).entry hwf)
  obtain ⟨av, cv, rfl, _⟩ := hv.shape
  obtain ⟨L, hL⟩ : ∃ L, L = s.is.length := ⟨_, rfl⟩
  have hbe : Below w.heap.size w ((w.alloc (.cells #[] 5)).drew) := (below_box w _).drew
  have HV2 := Lib.hid (hv.below hbe)
  have HOE : Hid (OB ((w.alloc (.cells #[] 5)).drew) w.heap.size (.slice (some ⟨w.heap.size, 0, none⟩) 0 0) []) := Lib.hid (ob_empty w)
  have HBE := Lib.hid hbe
  have HLL : Hid (l.length = 256) := Lib.hid hl
  have HLM : Hid (0 < l.length) := Lib.hid (by omega)
  have HLN : Hid (([] : List Int).length + l.length ≤ 140737488355328) := Lib.hid (by simp; omega)
  have HSZ : Hid (w.heap.size ≤ ((w.alloc (.cells #[] 5)).drew).heap.size) := Lib.hid hbe.size
  obtain ⟨uo, huo⟩ : ∃ uo, cur[n]? = some uo := ⟨_, Array.getElem?_eq_getElem (by omega)⟩
  -- what holds behind the append
  have HK := Lib.hid (fun (w2 : World) (v' : Value) (hob : OB w2 w.heap.size v' l) (hb2 : Below w.heap.size ((w.alloc (.cells #[] 5)).drew) w2) => by
    have hbw : Below w.heap.size w w2 := HBE.out.trans hb2
    have hW3 : (w2.setCell ⟨g, n, none⟩ v').heap[m]? = w.heap[m]? := (heap_setCell_other _ _ _ _ hmg).trans (hbw.block m hml)
    obtain ⟨x, st, es1, ck1, hE, hS⟩ := hME.out _ hW3
    have hm3 := hW3.trans hes0
    have hm4 : (setBlock (w2.setCell ⟨g, n, none⟩ v') m (.map es1 ck1)).heap[m]? = some (.map es1 ck1) := heap_setBlock_same hm3 _
    obtain ⟨es2, ck2, hE2, hM2⟩ := hS _ hm4
    have hm5 : (setBlock (setBlock (w2.setCell ⟨g, n, none⟩ v') m (.map es1 ck1)) m (.map es2 ck2)).heap[m]? = some (.map es2 ck2) := heap_setBlock_same hm4 _
    have hg2 : w2.heap[g]? = some (.cells cur 59 (0, 0)) := (hbw.block g hgl).trans hcur
    have hfin := hPT.out w2 (setBlock (setBlock (w2.setCell ⟨g, n, none⟩ v') m (.map es1 ck1)) m (.map es2 ck2)) v' hbw hob rfl rfl rfl (by simp [setBlock, World.setCell]) (fun k h1 h2 => by
      rw [heap_setBlock_other hm4 _ h2, heap_setBlock_other hm3 _ h2]
      exact heap_setCell_other _ _ _ _ h1) (fun cu t e => by
      rw [heap_setBlock_other hm4 _ (Ne.symm hmg), heap_setBlock_other hm3 _ (Ne.symm hmg)]
      exact heap_setCell_same w2 g n _ _ v' e) (hM2 _ hm5)
    have q1 := box_cell (i := n) hg2 huo
    have q2 := (hbw.cell (p := ⟨b, 1, none⟩) hbl).trans c1
    have q3 := (hbw.cell (p := ⟨b, 2, none⟩) hbl).trans c2
    exact And.intro q1 (And.intro q2 (And.intro q3 (Exists.intro x (Exists.intro st (Exists.intro es1 (Exists.intro ck1 (Exists.intro es2 (Exists.intro ck2 (And.intro hE (And.intro hE2 hfin)))))))))))
  subst hvP
  subst hvC
  subst hvI
  have hlL : (n : Int) < (L : Int) := by omega
  rw [hcl, ← hL] at c1 HK
  rw [← hL] at c0 hn hll
  rw [hl] at HV2 ⊢
  obtain ⟨N, hN⟩ : ∃ N, N = s.put.length := ⟨_, rfl⟩
  rw [← hN] at hlen hpl hnp
  have HN := Lib.hid hnp
  clear h hm hv ho hve hvl hce hcap hmC hmS hnp hL hN hPT hME hcl hcur hcurs huo hbe HBE hes0
  by_cases hin : (n : Int) ∈ s.put
  · rw [decide_eq_true hin] at hlook
    clear hin HN
    go_enter Tryz.func21, Tryz.ntmps21
    go_wp2
    go_region_law
      ((refine step_append_bytes11 (by rfl) _ _ (by rfl) w.heap.size (.slice (some ⟨w.heap.size, 0, none⟩) 0 0) [] (by rfl) HOE.out (.slice av 256 cv) l (by rfl) HV2.out HLM.out HLN.out HSZ.out ?_; intro v' w2 hob hb2 hg2; obtain ⟨a2, c2', hv2, _⟩ := hob.bsl.shape; rw [show (([] : List Int) ++ l).length = 256 from HLL.out] at hv2; subst hv2; obtain ⟨⟨q1, q1'⟩, q2, q3, x, st, es1, ck1, es2, ck2, hE, hE2, hfin⟩ := HK.out w2 _ hob hb2; have HFIN := Lib.hid hfin; clear hfin hob hb2 hg2))
    all_goals
      go_wp2
      go_ret
      exact ⟨rfl, ⟨b, m, _, _, _, rfl, HFIN.out.1⟩, HFIN.out.2⟩
  · rw [decide_eq_false hin] at hlook
    have hN37 : N < 37 := HN.out.resolve_left hin
    clear hin HN
    go_enter Tryz.func21, Tryz.ntmps21
    go_wp2
    go_region_law
      ((refine step_append_bytes11 (by rfl) _ _ (by rfl) w.heap.size (.slice (some ⟨w.heap.size, 0, none⟩) 0 0) [] (by rfl) HOE.out (.slice av 256 cv) l (by rfl) HV2.out HLM.out HLN.out HSZ.out ?_; intro v' w2 hob hb2 hg2; obtain ⟨a2, c2', hv2, _⟩ := hob.bsl.shape; rw [show (([] : List Int) ++ l).length = 256 from HLL.out] at hv2; subst hv2; obtain ⟨⟨q1, q1'⟩, q2, q3, x, st, es1, ck1, es2, ck2, hE, hE2, hfin⟩ := HK.out w2 _ hob hb2; have HFIN := Lib.hid hfin; clear hfin hob hb2 hg2))
    all_goals
      go_wp2
      go_ret
      exact ⟨rfl, ⟨b, m, _, _, _, rfl, HFIN.out.1⟩, HFIN.out.2⟩
end
end Go.Proofs.YtigbhdgcjklhoaaGreat

/- The reference's store: NewStore. -/
namespace Go.Proofs.YtigbhdgcjklhoaaGreat
set_option maxRecDepth 100000
open Go.RowKit
set_option linter.unusedVariables false

section
variable {w : World} {P : Nat → Prop}
theorem BSl.apt_ge {w : World} {v : Value} {l : List Int} (h : BSl w v l) {Q : Nat → Prop} (hQ : ∀ k, Q k → w.heap.size ≤ k) : Apt Q v := Apt.of_lt h hQ
/-- A row of slices of bytes that are apart from P, in a block of its own. -/
theorem BBa.of_row {w : World} {P : Nat → Prop} {v : Value} {L : List (List Int)} {us : List Value} {B : Nat} (ho : w.ownsRow B 59 1 v L.length us) (hul : us.length = L.length) (he : ∀ j, j < L.length → BSl w (us.getD j undef) (L.getD j []) ∧ Apt P (us.getD j undef)) (hv : ∀ k, v.ownBlock = some k → ¬ P k) : BBa w P v L := by
  rcases ho.2 with ⟨rfl, h0⟩ | ⟨g, cap, cur, rfl, _, hh, hnc, _, hcs, ht⟩
  · exact .inl ⟨rfl, List.eq_nil_of_length_eq_zero h0⟩
  · refine .inr ⟨_, cap, rfl, hnc, fun j hj => ⟨⟨(Array.getElem?_eq_some_iff.1 hh).1, hv g rfl⟩, rfl, us.getD j undef, ?_, he j hj⟩⟩
    show w.cell? ⟨g, 0 + j, none⟩ = _
    rw [Nat.zero_add, cell_of_row _ _ _ _ _ _ hh]
    have : (cur.toList.take (L.length * 1))[j]? = us[j]? := by rw [ht]
    rw [List.getElem?_take, if_pos (by omega)] at this
    simpa [List.getD_eq_getElem?_getD, show j < us.length by omega] using this
/-- What NewStore makes. -/
theorem RAt.made {L : List (List Int)} (hlen : 0 < L.length ∧ L.length ≤ 2000) (hP : ∀ k, P k → k < w.heap.size) {us : List Value} (hul : us.length = L.length) (hue : ∀ j, j < L.length → BSl w (us.getD j undef) (L.getD j []) ∧ Apt P (us.getD j undef))
    {w2 w4 : World} {v5 v8 : Value} (ho2 : w2.ownsRow w.heap.size 59 1 v5 L.length us) (hb2 : Below w.heap.size w w2) (ho4 : w4.ownsRow w2.heap.size 59 1 v8 L.length us) (hb4 : Below w2.heap.size w2 w4) :
    let w5 := w4.alloc (.cells #[v8] 34)
    let vS : Value := .slice (some ⟨w4.heap.size, 0, none⟩) 1 1
    let w6 := w5.alloc (.cells #[v5, .slice none 0 0, .map none, vS, .bool false] 42)
    RAt w6 P (ROwn w5.heap.size 0 (.slice none 0 0) vS false) w5.heap.size 0 v5 (.slice none 0 0) (.map none) vS ⟨L, [], [], [L], false⟩ ∧ Below w.heap.size w w6 ∧ ∀ k, ROwn w5.heap.size 0 (.slice none 0 0) vS false k → w.heap.size ≤ k := by
  intro w5 vS w6
  have s2 := hb2.size
  have s4 := hb4.size
  have s5 : w5.heap.size = w4.heap.size + 1 := by simp [w5]
  have hb24 : Below w.heap.size w w4 := hb2.trans (hb4.mono s2)
  have hb45 : Below w4.heap.size w4 w5 := below_box _ _
  have hb56 : Below w5.heap.size w5 w6 := below_box _ _
  have hb46 : Below w4.heap.size w4 w6 := hb45.trans (hb56.mono (by omega))
  have hb6 : Below w.heap.size w w6 := hb24.trans (hb46.mono (by omega))
  have hM : ∀ k, ROwn w5.heap.size 0 (.slice none 0 0) vS false k → k = w5.heap.size ∨ k = w4.heap.size := fun k hk => by
    rcases hk with e | e | ⟨e, _⟩
    · exact .inl e
    · exact .inr (Option.some.inj e).symm
    · cases e
  have hel : ∀ j, j < L.length → BSl w6 (us.getD j undef) (L.getD j []) ∧ Apt (fun k => P k ∨ ROwn w5.heap.size 0 (.slice none 0 0) vS false k) (us.getD j undef) := fun j hj =>
    ⟨(hue j hj).1.below hb6, (hue j hj).2.or ((hue j hj).1.apt_ge fun k hk => by rcases hM k hk with e | e <;> omega)⟩
  have hv5 : ∀ k, v5.ownBlock = some k → w.heap.size ≤ k ∧ k < w2.heap.size := fun k hk => ho2.lt k hk
  have hv8 : ∀ k, v8.ownBlock = some k → w2.heap.size ≤ k ∧ k < w4.heap.size := fun k hk => ho4.lt k hk
  have r5 : w6.ownsRow w.heap.size 59 1 v5 L.length us := ownsRow_keep ho2 fun g hg => by
    have := hv5 g hg
    rw [hb46.block g (by omega), hb4.block g (by omega)]
  have r8 : w6.ownsRow w2.heap.size 59 1 v8 L.length us := ownsRow_keep ho4 fun g hg => by
    have := hv8 g hg
    rw [hb46.block g (by omega)]
  have h8 : BBa w6 (fun k => P k ∨ ROwn w5.heap.size 0 (.slice none 0 0) vS false k) v8 L := BBa.of_row r8 hul hel fun k hk e => by
    have := hv8 k hk
    rcases e with e | e
    · have := hP k e; omega
    · rcases hM k e with e | e <;> omega
  refine ⟨⟨heap_alloc_new w5 _, ?_, ⟨[v8], rfl, fun j hj => ?_, rfl, .inr ⟨w4.heap.size, 1, #[v8], rfl, Nat.zero_le _, ?_, Nat.le_refl _, by decide, rfl, rfl⟩⟩, fun e => (by cases e), fun e => ?_, fun e => (by cases e), fun k hk hp => ?_, fun k => Iff.rfl, ⟨hlen.1, hlen.2, Nat.one_pos⟩⟩, hb6, fun k hk => by rcases hM k hk with e | e <;> omega⟩
  · exact BBa.of_row r5 hul hel fun k hk e => by
      have := hv5 k hk
      rcases e with e | e
      · have := hP k e; omega
      · rcases hM k e with e | e <;> omega
  · have : j = 0 := by simp at hj; omega
    subst this
    exact h8
  · exact (hb56.block _ (by omega)).trans (heap_alloc_new w4 _)
  · have := Option.some.inj e
    have e2 : w4.heap.size = w5.heap.size := this
    omega
  · have := hP k hp
    rcases hM k hk with e | e <;> omega
set_option maxHeartbeats 1000000 in
theorem rNew_of {v : Value} {L : List (List Int)} (hv : BBa w P v L) (hlen : 0 < L.length ∧ L.length ≤ 2000) (hP : ∀ k, P k → k < w.heap.size) :
    Calls Tryz.prog 8 #[v] w fun e w' => ∃ p vS M, e = .returned p ∧ RSo w' P M p vS ⟨L, [], [], [L], false⟩ ∧ Below w.heap.size w w' ∧ ∀ k, M k → w.heap.size ≤ k := by
  obtain ⟨ad, cap, us, rfl, hul, huc, hue⟩ := hv.cells hlen.1
  have huo : ∀ u ∈ us, u.oneCell' = true := fun u hu => by
    obtain ⟨j, hj, rfl⟩ := List.mem_iff_getElem.1 hu
    have := (hue j (by omega)).1.one
    rw [List.getD_eq_getElem?_getD, List.getElem?_eq_getElem hj] at this
    exact this
  have K := Lib.hid (fun (w2 w4 : World) (v5 v8 : Value) => RAt.made (w := w) hlen hP hul hue (w2 := w2) (w4 := w4) (v5 := v5) (v8 := v8))
  have hn : L.length ≤ 1000000 := by omega
  obtain ⟨N, hN⟩ : ∃ N, N = L.length := ⟨_, rfl⟩
  rw [← hN] at hul hn K ⊢
  have HN := Lib.hid hN
  clear hv hue hlen hN
  go_enter Tryz.func8, Tryz.ntmps8
  go_wp2_with (first
    | (at_builtin; refine wpList_append_copy 34 59 Tryz.underlying34 infoBy w rfl (.tmp 3) (.tmp 4) rfl rfl ad N cap us rfl hul huc huo hn ?_
       intro v5 w2 ho2 hb2 hs2
       obtain ⟨a5, c5, rfl⟩ := ownsRow_shape ho2
       have huc2 : ∀ j u, us[j]? = some u → w2.cell? (ad.add j) = some u ∧ (ad.add j).block < w2.heap.size := fun j u hj => ⟨(hb2.cell (huc j u hj).2).trans (huc j u hj).1, Nat.lt_of_lt_of_le (huc j u hj).2 hb2.size⟩
       have HO2 := Lib.hid ho2
       have HB2 := Lib.hid hb2
       clear ho2 hb2)
    | (at_builtin; refine wpList_append_copy 34 59 Tryz.underlying34 infoBy w2 rfl (.tmp 6) (.tmp 7) rfl rfl ad N cap us rfl hul huc2 huo hn ?_
       intro v8 w4 ho4 hb4 hs4
       obtain ⟨a8, c8, rfl⟩ := ownsRow_shape ho4
       have HO4 := Lib.hid ho4
       have HB4 := Lib.hid hb4
       clear ho4 hb4))
  go_ret
  obtain ⟨x1, x2, x3⟩ := K.out _ _ _ _ HO2.out HB2.out HO4.out HB4.out
  exact ⟨_, rfl, _, _, ⟨_, _, _, _, _, by simp, x1⟩, x2, x3⟩
end
end Go.Proofs.YtigbhdgcjklhoaaGreat

/- The reference's store: each call by one contract. -/
namespace Go.Proofs.YtigbhdgcjklhoaaGreat
set_option maxRecDepth 100000
open Go.RowKit
set_option linter.unusedVariables false

def rBegin (s : RSt) : Int × RSt := if s.wi = true then (17, s) else (0, { s with call := s.is, put := [], wi := true })
def rEnd (s : RSt) (keep : Bool) : Int × RSt := if s.wi = false then (17, s) else if keep = true then (0, { s with is := s.call, sts := s.sts ++ [s.call], wi := false }) else (0, { s with wi := false })
def rSync (s : RSt) : Int × RSt := if s.wi = true then (17, s) else (0, { s with sts := [s.is], wi := false })
def rPut (s : RSt) (n : Int) (l : List Int) : Int × RSt :=
  if s.wi = false then (17, s) else if n < 0 ∨ (s.is.length : Int) ≤ n ∨ l.length ≠ 256 then (1, s) else if n ∉ s.put ∧ 37 ≤ s.put.length then (13, s) else (0, { s with call := s.call.set n.toNat l, put := addS s.put n })
/-- What a call hands back and leaves. -/
def ROut (w : World) (P M : Nat → Prop) (p vS : Value) (sts : List (List (List Int))) (r : Int × RSt) (e : Ending) (w' : World) : Prop :=
  ∃ M' vS', e = .returned (.int .i64 r.1) ∧ RSo w' P M' p vS' r.2 ∧ Chg M M' w w' ∧ ROld w' P M' vS sts
section
variable {w : World} {P M : Nat → Prop} {p vS : Value} {s : RSt}
theorem rsBegin_any (h : RSo w P M p vS s) (hP : ∀ k, P k → k < w.heap.size) : Calls Tryz.prog 18 #[p] w (ROut w P M p vS s.sts (rBegin s)) := by
  cases hw : s.wi
  · refine (rsBegin_ok h hw hP).mono ?_
    rintro e w' ⟨rfl, M', k, c⟩
    have e1 : rBegin s = (0, { s with call := s.is, put := [], wi := true }) := by unfold rBegin; rw [hw]; rfl
    rw [e1]
    exact ⟨M', vS, rfl, k, c, k.old⟩
  · refine (rsBegin_busy h hw).mono ?_
    rintro e w' ⟨rfl, rfl⟩
    have e1 : rBegin s = (17, s) := by unfold rBegin; rw [hw]; rfl
    rw [e1]
    exact ⟨M, vS, rfl, h, Chg.refl _ _, h.old⟩
theorem rsEnd_any (h : RSo w P M p vS s) (hP : ∀ k, P k → k < w.heap.size) (keep : Bool) (hst : s.sts.length ≤ 1000) : Calls Tryz.prog 23 #[p, .bool keep] w (ROut w P M p vS s.sts (rEnd s keep)) := by
  cases hw : s.wi
  · refine (rsEnd_busy h hw keep).mono ?_
    rintro e w' ⟨rfl, rfl⟩
    have e1 : rEnd s keep = (17, s) := by unfold rEnd; rw [hw]; rfl
    rw [e1]
    exact ⟨M, vS, rfl, h, Chg.refl _ _, h.old⟩
  · cases keep
    · refine (rsEnd_undo h hw).mono ?_
      rintro e w' ⟨rfl, M', k, c⟩
      have e1 : rEnd s false = (0, { s with wi := false }) := by unfold rEnd; rw [hw]; rfl
      rw [e1]
      exact ⟨M', vS, rfl, k, c, k.old⟩
    · refine (rsEnd_keep h hw hP hst).mono ?_
      rintro e w' ⟨rfl, M', vS', k, c, o⟩
      have e1 : rEnd s true = (0, { s with is := s.call, sts := s.sts ++ [s.call], wi := false }) := by unfold rEnd; rw [hw]; rfl
      rw [e1]
      exact ⟨M', vS', rfl, k, c, o⟩
theorem rsSync_any (h : RSo w P M p vS s) (hP : ∀ k, P k → k < w.heap.size) : Calls Tryz.prog 25 #[p] w (ROut w P M p vS s.sts (rSync s)) := by
  cases hw : s.wi
  · refine (rsSync_ok h hw hP).mono ?_
    rintro e w' ⟨rfl, M', vS', k, c, o⟩
    have e1 : rSync s = (0, { s with sts := [s.is], wi := false }) := by unfold rSync; rw [hw]; rfl
    rw [e1]
    exact ⟨M', vS', rfl, k, c, o⟩
  · refine (rsSync_busy h hw).mono ?_
    rintro e w' ⟨rfl, rfl⟩
    have e1 : rSync s = (17, s) := by unfold rSync; rw [hw]; rfl
    rw [e1]
    exact ⟨M, vS, rfl, h, Chg.refl _ _, h.old⟩
theorem rsPut_any (h : RSo w P M p vS s) (hP : ∀ k, P k → k < w.heap.size) {n : Int} {v : Value} {l : List Int} (hv : BSl w v l) (hb : -9223372036854775808 ≤ n ∧ n ≤ 9223372036854775807) (hpl : s.put.length ≤ 1000) : Calls Tryz.prog 21 #[p, .int .i64 n, v] w (ROut w P M p vS s.sts (rPut s n l)) := by
  cases hw : s.wi
  · refine (rsPut_not h hw n v).mono ?_
    rintro e w' ⟨rfl, rfl⟩
    have e1 : rPut s n l = (17, s) := by unfold rPut; rw [if_pos hw]
    rw [e1]
    exact ⟨M, vS, rfl, h, Chg.refl _ _, h.old⟩
  · by_cases ha : n < 0 ∨ (s.is.length : Int) ≤ n ∨ l.length ≠ 256
    · refine (rsPut_arg h hw hv hb ha).mono ?_
      rintro e w' ⟨rfl, rfl⟩
      have e1 : rPut s n l = (1, s) := by unfold rPut; rw [if_neg (by rw [hw]; decide), if_pos ha]
      rw [e1]
      exact ⟨M, vS, rfl, h, Chg.refl _ _, h.old⟩
    · have h256 : l.length = 256 := by
        have := (not_or.1 (not_or.1 ha).2).2
        exact Classical.not_not.1 this
      obtain ⟨k, rfl⟩ : ∃ k : Nat, n = k := ⟨n.toNat, by omega⟩
      have hk : k < s.is.length := by omega
      by_cases hf : (k : Int) ∉ s.put ∧ 37 ≤ s.put.length
      · refine (rsPut_full h hw hv hk h256 hf.1 hf.2 hpl).mono ?_
        rintro e w' ⟨rfl, rfl⟩
        have e1 : rPut s k l = (13, s) := by unfold rPut; rw [if_neg (by rw [hw]; decide), if_neg ha, if_pos hf]
        rw [e1]
        exact ⟨M, vS, rfl, h, Chg.refl _ _, h.old⟩
      · refine (rsPut_ok h hw hP hv hk h256 hpl (by
          by_cases hi : (k : Int) ∈ s.put
          · exact .inl hi
          · exact .inr (Nat.lt_of_not_le fun h37 => hf ⟨hi, h37⟩))).mono ?_
        rintro e w' ⟨rfl, k1, c⟩
        have e1 : rPut s k l = (0, { s with call := s.call.set k l, put := addS s.put k }) := by unfold rPut; rw [if_neg (by rw [hw]; decide), if_neg ha, if_neg hf]; rfl
        rw [e1]
        exact ⟨M, vS, rfl, k1, c, k1.old⟩
end
end Go.Proofs.YtigbhdgcjklhoaaGreat

/- Package disk over plain states: New, Blocks, Read, Write, Flush, SetFuse, Crash, Down, Unflushed; bytes that are apart from a disk stay. -/
namespace Go.Proofs.YtigbhdgcjklhoaaGreat
set_option maxRecDepth 100000
open Go.RowKit
set_option linter.unusedVariables false

theorem KSl.chg {P P' : Nat → Prop} {w w' : World} {v : Value} {l : List Bool} (h : KSl w v l) (ha : Apt P v) (hc : Chg P P' w w') : KSl w' v l ∧ Apt P' v := by
  rcases h with ⟨hv, hl⟩ | ⟨a, cap, hv, hcells⟩
  · exact ⟨.inl ⟨hv, hl⟩, by rw [hv]; exact Apt.nil _⟩
  · refine ⟨.inr ⟨a, cap, hv, fun j hj => ?_⟩, fun ad n cap' e hn => ?_⟩
    · obtain ⟨h1, h2, h3⟩ := hcells j hj
      have hk := hc.keep a.block h1 (ha _ _ _ hv (by omega))
      exact ⟨Nat.lt_of_lt_of_le h1 hc.size, h2, by rw [World.cell?_of_block (a := ⟨a.block, a.off + j, none⟩) (w := w) hk.1]; exact h3⟩
    · obtain ⟨rfl, rfl⟩ : ad = a ∧ n = l.length := by
        rw [hv] at e
        exact ⟨(Option.some.inj (Value.slice.inj e).1).symm, (Value.slice.inj e).2.1.symm⟩
      exact (hc.keep ad.block (hcells 0 hn).1 (ha _ _ _ hv hn)).2

section
variable {w : World} {P : Nat → Prop} {p : Value} {s : DS}
theorem kBlocks (h : Dk w P p s) : Calls Tryz.prog 55 #[p] w fun e w' => e = .returned (.int .i64 (s.F.length : Nat)) ∧ w = w' := by
  obtain ⟨bp, bf, bv, u, rfl, h, _⟩ := h
  have c1 := h.c1
  rw [DS.vis_length] at c1
  clear h
  go_enter Tryz.func55, Tryz.ntmps55
  go_wp2
  go_ret
  exact ⟨rfl, rfl⟩
theorem kRead_arg (h : Dk w P p s) (n : Int) (hn : ¬ (0 ≤ n ∧ n < s.F.length)) : Calls Tryz.prog 43 #[p, .int .i64 n] w fun e w' => e = .returned (.tuple #[.slice none 0 0, .int .i64 1]) ∧ w = w' := by
  obtain ⟨bp, bf, bv, u, rfl, h, _⟩ := h
  have KH := Lib.hid (dHas_at h n)
  rw [DS.vis_length, decide_eq_false hn] at KH
  clear h
  go_enter Tryz.func43, Tryz.ntmps43
  go_wp2_with (go_at_call 60; refine KH.out.mono ?_; rintro e w' ⟨rfl, rfl⟩)
  go_ret2
  exact ⟨rfl, rfl⟩
theorem kRead_off (h : Dk w P p s) (n : Int) (hn : 0 ≤ n ∧ n < s.F.length) (hd : s.dn = true) : Calls Tryz.prog 43 #[p, .int .i64 n] w fun e w' => e = .returned (.tuple #[.slice none 0 0, .int .i64 2]) ∧ w = w' := by
  obtain ⟨bp, bf, bv, u, rfl, h, _⟩ := h
  have KH := Lib.hid (dHas_at h n)
  rw [DS.vis_length, decide_eq_true hn] at KH
  have c5 := h.c5
  rw [hd] at c5
  clear h hd
  go_enter Tryz.func43, Tryz.ntmps43
  go_wp2_with (go_at_call 60; refine KH.out.mono ?_; rintro e w' ⟨rfl, rfl⟩)
  go_ret2
  exact ⟨rfl, rfl⟩
set_option maxRecDepth 100000 in
theorem kRead (hk : Dk w P p s) (n : Nat) (hn : n < s.F.length) (hd : s.dn = false) :
    Calls Tryz.prog 43 #[p, .int .i64 n] w fun e w' => ∃ v, e = .returned (.tuple #[v, .int .i64 0]) ∧ BSl w' v (s.vis.getD n []) ∧ Below w.heap.size w w' ∧ v = .slice (some ⟨w.heap.size, 0, none⟩) 256 256 := by
  obtain ⟨bp, bf, bv, u, rfl, h, _⟩ := hk
  rw [hd] at h
  have hnV : n < s.vis.length := by rw [DS.vis_length]; exact hn
  have hge : s.vis.getD n [] = s.vis[n] := by rw [List.getD_eq_getElem?_getD, List.getElem?_eq_getElem hnV]; rfl
  rw [hge]
  generalize s.vis = V at h hnV ⊢
  clear hge hn
  have hlen : Tryz.prog.arrayLen 93 = 256 := by kernel_rfl
  have hblk : Blk V[n] := h.okV _ (List.getElem_mem _)
  have hmem := range_row h.hv (o := n * 256) (vs := cB V[n]) (by rw [cB_length, hblk.1]; exact flat_get (flatB_len h.okV) n hnV)
  have KH := Lib.hid (dHas_at h n)
  have hdc : decide (0 ≤ (n : Int) ∧ (n : Int) < V.length) = true := decide_eq_true (by omega)
  rw [hdc] at KH
  obtain ⟨b, hb⟩ : ∃ b, b = V[n] := ⟨_, rfl⟩
  rw [← hb] at hblk hmem ⊢
  have HL : Hid ((cB b).length = 256) := by show _ = _; rw [cB_length, hblk.1]
  have HR := Lib.hid hmem
  have HB := Lib.hid hblk
  have HZ := Lib.hid zB_length
  have hone : ∀ v ∈ zB, v.oneCell' = true := fun v hv => by rw [List.eq_of_mem_replicate hv]; rfl
  have c1 := h.c1
  have c5 := h.c5
  have hn' : (n : Int) < V.length := by omega
  clear hb hblk hmem h hdc hd
  go_enter Tryz.func43, Tryz.ntmps43
  go_wp2_with (first
    | (go_at_call 60; refine KH.out.mono ?_; rintro e w' ⟨rfl, rfl⟩)
    | with_reducible refine wpList_allocB _ rfl rfl ?_
    | (refine wpList_loadB _ rfl _ (by rfl) bv (n * 256) (cB b) (by rfl) HR.out HL.out ?_)
    | (refine wpList_storeB _ rfl _ _ (by rfl) _ 93 zB (cB b) (by rfl) (by rfl) (heap_alloc_last _ _) HZ.out HL.out (cB_one b) ?_
       rw [World.setRow_alloc_new]))
  go_ret2
  refine ⟨_, rfl, ⟨HB.out.2, .inr ⟨_, 256, by rw [HB.out.1]; rfl, by rw [HB.out.1]; exact Nat.le_refl _, fun j hj => ⟨by simp, rfl, ?_⟩⟩⟩, (Below.refl _ _).alloc (Nat.le_refl _) _, rfl⟩
  show (w.alloc (.cells (cB b).toArray 93)).cell? ⟨w.heap.size, 0 + j, none⟩ = _
  rw [cell_of_row _ _ _ _ _ _ (heap_alloc_last w _)]
  simp [cB, List.getD_eq_getElem?_getD, hj]
theorem kWrite_arg (h : Dk w P p s) (n : Int) {v : Value} {l : List Int} (hv : BSl w v l) (hno : ¬ ((0 ≤ n ∧ n < s.F.length) ∧ l.length = 256)) :
    Calls Tryz.prog 51 #[p, .int .i64 n, v] w fun e w' => e = .returned (.int .i64 1) ∧ w = w' := by
  obtain ⟨bp, bf, bv, u, rfl, h, _⟩ := h
  exact dWrite_fit h n hv (by rw [DS.vis_length]; exact hno)
/-- Write: what it answers, and what it leaves. -/
theorem kWrite (h : Dk w P p s) (n : Nat) (hn : n < s.F.length) {v : Value} {l : List Int} (hv : BSl w v l) (hl : l.length = 256) (hU : s.U.length ≤ 1000000) :
    Calls Tryz.prog 51 #[p, .int .i64 n, v] w fun e w' => e = .returned (.int .i64 (if s.ok then 0 else 2)) ∧ ∃ P', Dk w' P' p (if s.ok then s.write n l else s.pay) ∧ Chg P P' w w' := by
  obtain ⟨bp, bf, bv, u, rfl, h, ⟨h0, h1⟩, hP⟩ := h
  cases hok : s.ok
  · refine (dWrite_off h h0 h1 n hv ⟨by rw [DS.vis_length]; omega, hl⟩ hok).mono ?_
    rintro e w' ⟨rfl, hd, hw⟩
    exact ⟨rfl, P, ⟨bp, bf, bv, u, rfl, hd, pLe_bound ⟨h0, h1⟩, hP⟩, Chg.of_wrote hP hw⟩
  · refine (dWrite_on h h0 h1 hok n (by rw [DS.vis_length]; exact hn) hv hl hU).mono ?_
    rintro e w' ⟨rfl, u', hd, _, hfr⟩
    refine ⟨rfl, _, ⟨bp, bf, bv, u', rfl, ?_, pLe_bound ⟨h0, h1⟩, fun k => Iff.rfl⟩, Chg.of_frU hP hfr⟩
    show DskAt w' 0 bp bf bv u' s.F (s.write n l).vis (s.U ++ [(n, l)]) s.fu _ _
    rw [DS.write_vis]
    exact hd
theorem kFlush (h : Dk w P p s) (hU : s.U.length ≤ 1000000) :
    Calls Tryz.prog 34 #[p] w fun e w' => e = .returned (.int .i64 (if s.ok then 0 else 2)) ∧ ∃ P', Dk w' P' p (if s.ok then s.flush else s.pay) ∧ Chg P P' w w' := by
  obtain ⟨bp, bf, bv, u, rfl, h, ⟨h0, h1⟩, hP⟩ := h
  have KP := Lib.hid (dPowered_any h h0 h1)
  have HP := Lib.hid hP
  have HB := Lib.hid (pLe_bound (fu := s.fu) (dn := s.dn) ⟨h0, h1⟩)
  cases hok : s.ok
  · have hok' : pOk s.fu s.le s.dn = false := hok
    rw [hok'] at KP
    clear h h0 h1 hP hok hok'
    go_enter Tryz.func34, Tryz.ntmps34
    go_wp2_with (go_at_call 52; refine KP.out.mono ?_; rintro e w2 ⟨rfl, hd2, hw2⟩)
    go_ret
    exact ⟨rfl, P, ⟨bp, bf, bv, u, rfl, hd2, HB.out, HP.out⟩, Chg.of_wrote HP.out hw2⟩
  · have hok' : pOk s.fu s.le s.dn = true := hok
    rw [hok'] at KP
    have HSF := Lib.hid (stF_all s.U s.F)
    have HSV := Lib.hid (stV_is (fun _ => true) s.U s.F)
    clear h h0 h1 hP hok hok'
    go_enter Tryz.func34, Tryz.ntmps34
    go_wp2_with (first
      | (go_at_call 52; refine KP.out.mono ?_; rintro e w2 ⟨rfl, hd2, hw2⟩)
      | (go_at_call 45; refine (dSettleFw hd2 (Nat.zero_le _) hU (fun _ => true) (fun W _ i _ => dFlush1_any W i)).mono ?_
         rintro e w4 ⟨rfl, h4, _, f4⟩))
    go_ret
    refine ⟨rfl, _, ⟨bp, bf, bv, .slice none 0 0, rfl, ?_, HB.out, fun k => Iff.rfl⟩, (Chg.of_wrote HP.out hw2).trans (Chg.of_fr3 HP.out f4)⟩
    show DskAt w4 0 bp bf bv (.slice none 0 0) s.vis s.flush.vis [] s.fu _ _
    rw [DS.flush_vis]
    have hd4 : DskAt w4 0 bp bf bv (.slice none 0 0) (stF (fun _ => true) s.U s.F s.U.length) (stV s.U (stF (fun _ => true) s.U s.F s.U.length) (appU s.U s.F) s.U.length) [] s.fu (pLe s.fu s.le s.dn) (pDn s.fu s.le s.dn) := h4
    rw [HSV.out, HSF.out, keepU_all] at hd4
    exact hd4
theorem kSetFuse (h : Dk w P p s) (n : Int) (hn : n ≤ 9223372036854775807) :
    Calls Tryz.prog 7 #[p, .int .i64 n] w fun e w' => e = .returned (.tuple #[]) ∧ Dk w' P p (s.fuse n) ∧ Chg P P w w' := by
  obtain ⟨bp, bf, bv, u, rfl, h, ⟨h0, h1⟩, hP⟩ := h
  refine (dSetFuse_at h n).mono ?_
  rintro e w' ⟨rfl, hd, hb, hk⟩
  exact ⟨rfl, ⟨bp, bf, bv, u, rfl, hd, by show 0 ≤ Max.max n 0 ∧ Max.max n 0 ≤ _; omega, hP⟩, ⟨hb.os, hb.tape, hb.output, hb.size, fun k _ hn => ⟨hk k fun e => hn ((hP k).2 (.inl e)), hn⟩⟩⟩
/-- Crash: whatever the fuse and the power. -/
theorem kCrash (h : Dk w P p s) (hU : s.U.length ≤ 1000000) {v : Value} {k : List Bool} (hk : KSl w v k) (ha : Apt P v) :
    Calls Tryz.prog 28 #[p, v] w fun e w' => e = .returned (.tuple #[]) ∧ ∃ P', Dk w' P' p (s.crash k) ∧ Chg P P' w w' := by
  obtain ⟨bp, bf, bv, u, rfl, h, _, hP⟩ := h
  have HP := Lib.hid hP
  have HSF := Lib.hid (stF_keep (kpOf k) s.U s.F s.U.length)
  have HSV := Lib.hid (stV_is (kpOf k) s.U s.F)
  have HKC := Lib.hid (fun W (hc : Chg P P w W) => (hk.chg ha hc).1)
  have hlt := h.lt
  obtain ⟨ao, cap, rfl⟩ := hk.shape
  obtain ⟨L, hL⟩ : ∃ L, L = k.length := ⟨_, rfl⟩
  rw [← hL] at HKC ⊢
  clear hL hk ha hP
  obtain ⟨h1, b1⟩ := h.flags 5 (.bool false) s.fu s.le false rfl
  have c5 := h.c5
  have f5 := h.fr 5
  have hbpl := (Array.getElem?_eq_some_iff.1 h.hp).1
  have hbfl := (Array.getElem?_eq_some_iff.1 h.hf).1
  have hbvl := (Array.getElem?_eq_some_iff.1 h.hv).1
  obtain ⟨W1, hW1⟩ : ∃ W1, W1 = w.setCell ⟨bp, 5, none⟩ (.bool false) := ⟨_, rfl⟩
  have s1 : W1.heap.size = w.heap.size := by rw [hW1]; simp [World.setCell]
  have C1 : Hid (Chg P P w W1) := Lib.hid (by rw [hW1]; exact Chg.of_wrote HP.out (Wrote.setCell _ _ _ _))
  rw [← hW1] at h1 b1
  have ba : Below W1.heap.size W1 (W1.alloc (.cells #[.slice ao L cap] 23)) := (Below.refl _ _).alloc (Nat.le_refl _) _
  have h2 := h1.below ba
  have hbx : (W1.alloc (.cells #[.slice ao L cap] 23)).heap[w.heap.size]? = some (.cells #[.slice ao L cap] 23 (0, 0)) := by rw [← s1]; exact heap_alloc_last _ _
  have C2 := Lib.hid (C1.out.trans (Chg.of_below (P := P) ba))
  have HW1 := Lib.hid hW1
  clear hW1 s1 h1 b1 ba
  go_enter Tryz.func28, Tryz.ntmps28
  go_wp2_with (first
    | (go_at_call 7; rw [← HW1.out]; refine (dSetFuse_at h2 (-1)).mono ?_; rintro e w3 ⟨rfl, h3, b3, r3⟩
       rw [show decide (0 ≤ (-1 : Int)) = false from rfl, show Max.max (-1 : Int) 0 = 0 from rfl] at h3)
    | (go_at_call 45; refine (dSettleCw h3 (Nat.zero_le _) hU (kpOf k) w.heap.size ?_).mono ?_
       rotate_left 1
       rintro e w4 ⟨rfl, h4, _, f4⟩))
  · go_end0
    have c3 : Chg P P w w3 := C2.out.trans ⟨b3.os, b3.tape, b3.output, b3.size, fun g _ hn => ⟨r3 g fun e => hn ((HP.out g).2 (.inl e)), hn⟩⟩
    refine ⟨rfl, _, ⟨bp, bf, bv, .slice none 0 0, rfl, ?_, ⟨Int.le_refl _, (by decide : (0 : Int) ≤ 9223372036854775807)⟩, fun k => Iff.rfl⟩, c3.trans (Chg.of_fr3 HP.out f4)⟩
    have hd4 : DskAt w4 0 bp bf bv (.slice none 0 0) (stF (kpOf k) s.U s.F s.U.length) (stV s.U (stF (kpOf k) s.U s.F s.U.length) (appU s.U s.F) s.U.length) [] false 0 false := h4
    rw [HSV.out, HSF.out] at hd4
    exact hd4
  · intro W hF i hi
    have c3 : Chg P P w w3 := C2.out.trans ⟨b3.os, b3.tape, b3.output, b3.size, fun g _ hn => ⟨r3 g fun e => hn ((HP.out g).2 (.inl e)), hn⟩⟩
    have hbw3 : w3.heap[w.heap.size]? = some (.cells #[.slice ao L cap] 23 (0, 0)) := by rw [r3 _ (by omega)]; exact hbx
    have hlt3 : w.heap.size < w3.heap.size := (Array.getElem?_eq_some_iff.1 hbw3).1
    have c4 : Chg P P w3 W := ⟨hF.os, hF.tape, hF.output, hF.size, fun g hg hn => ⟨hF.block g hg (fun e => hn ((HP.out g).2 (.inr (.inl e)))) (fun e => hn ((HP.out g).2 (.inr (.inr (.inl e))))), hn⟩⟩
    exact dCrash1_any (v := .slice ao L cap) (t := 23) (by rw [hF.block _ hlt3 (by omega) (by omega)]; exact hbw3) (HKC.out _ (c3.trans c4)) i (by omega)
end
/-- New: a disk of one's own. -/
theorem kNew (w : World) (n : Nat) (hn : n ≤ 2000) :
    Calls Tryz.prog 5 #[.int .i64 n] w fun e w' => ∃ p P, e = .returned p ∧ Dk w' P p (DS.new n) ∧ (∀ k, P k → w.heap.size ≤ k) ∧ Below w.heap.size w w' := by
  refine (dNew_at w n hn).mono ?_
  rintro e w' ⟨p, rfl, _, ⟨bp, bf, bv, u, rfl, hd⟩, hb⟩
  refine ⟨_, DOwn bp bf bv u, rfl, ⟨bp, bf, bv, u, rfl, hd.lower, ⟨Int.le_refl _, (by decide : (0 : Int) ≤ 9223372036854775807)⟩, fun k => Iff.rfl⟩, fun k hk => ?_, hb⟩
  rcases hk with rfl | rfl | rfl | hk
  · exact hd.bB.1
  · exact hd.bB.2.1
  · exact hd.bB.2.2
  · exact (hd.hu.lt k hk).1
end Go.Proofs.YtigbhdgcjklhoaaGreat
