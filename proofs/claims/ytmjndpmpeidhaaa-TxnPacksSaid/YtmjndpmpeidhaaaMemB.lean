/- Values of type [][]byte that read as lists of bytes; such of one's own; one appended, many appended. -/
import Derived.Test.YtmjndpmpeidhaaaMemF
namespace Go.Proofs.Ytmjndpmpeidhaaa
open Go.RowKit
set_option linter.unusedVariables false

/-- A value of type [][]byte that reads as L. -/
def BBSl (w : World) (v : Value) (L : List (List Int)) : Prop :=
  (v = .slice none 0 0 ∧ L = []) ∨ ∃ a cap, v = .slice (some a) L.length cap ∧ L.length ≤ cap ∧ ∀ j, j < L.length → a.block < w.heap.size ∧ a.spot = none ∧
    ∃ u, w.cell? ⟨a.block, a.off + j, none⟩ = some u ∧ BSl w u (L.getD j [])
theorem bbsl_nil (w : World) : BBSl w (.slice none 0 0) [] := .inl ⟨rfl, rfl⟩
theorem BBSl.keep {w w' : World} {v : Value} {L : List (List Int)} (h : BBSl w v L) (hs : w.heap.size ≤ w'.heap.size) (hb : ∀ p : Addr, p.block < w.heap.size → w'.cell? p = w.cell? p) : BBSl w' v L := by
  rcases h with h | ⟨a, cap, hv, hcap, hc⟩
  · exact .inl h
  · refine .inr ⟨a, cap, hv, hcap, fun j hj => ?_⟩
    obtain ⟨h1, h2, u, h3, h4⟩ := hc j hj
    exact ⟨Nat.lt_of_lt_of_le h1 hs, h2, u, by rw [hb _ (by exact h1), h3], h4.keep hs hb⟩
theorem BBSl.below {w w' : World} {v : Value} {L : List (List Int)} (h : BBSl w v L) (hb : Below w.heap.size w w') : BBSl w' v L :=
  h.keep hb.size fun _ hp => hb.cell hp
theorem BBSl.open' {w : World} {v : Value} {L : List (List Int)} (h : BBSl w v L) : ∃ ao cap, v = .slice ao L.length cap ∧ L.length ≤ cap ∧ (0 < L.length → ∃ b off, ao = some ⟨b, off, none⟩ ∧ b < w.heap.size ∧
    ∀ j, j < L.length → ∃ u, w.cell? ⟨b, off + j, none⟩ = some u ∧ BSl w u (L.getD j [])) := by
  rcases h with ⟨hv, hk⟩ | ⟨⟨b, off, spot⟩, cap, hv, hcap, hc⟩
  · exact ⟨none, 0, by rw [hv, hk]; rfl, by rw [hk]; exact Nat.le_refl _, fun h => by rw [hk] at h; simp at h⟩
  · refine ⟨_, cap, hv, hcap, fun h0 => ?_⟩
    obtain ⟨h1, h2, _⟩ := hc 0 h0
    obtain rfl : spot = none := h2
    exact ⟨b, off, rfl, h1, fun j hj => (hc j hj).2.2⟩
theorem BBSl.shape {w : World} {v : Value} {L : List (List Int)} (h : BBSl w v L) : ∃ ao cap, v = .slice ao L.length cap ∧ L.length ≤ cap := by
  obtain ⟨ao, cap, hv, hc, _⟩ := h.open'
  exact ⟨ao, cap, hv, hc⟩
theorem BSl.one {w : World} {v : Value} {l : List Int} (h : BSl w v l) : v.oneCell' = true := by
  obtain ⟨ao, cap, rfl, _⟩ := h.shape
  rfl
/-- A []byte that reads as l and lies below block B, or in a row of bytes: a write into a row of slices from B on does not touch it. -/
def BElt (w : World) (B : Nat) (x : Value) (l : List Int) : Prop :=
  BSl w x l ∧ (0 < l.length → ∃ b off cap, x = .slice (some ⟨b, off, none⟩) l.length cap ∧ b < w.heap.size ∧ (b < B ∨ ∃ cur, w.heap[b]? = some (.cells cur 5 (0, 0))))
theorem BElt.grown {w w' : World} {B : Nat} {x : Value} {l : List Int} (h : BElt w B x l) {row : Option Nat} (hrow : ∀ g, row = some g → B ≤ g ∧ ∃ cur, w.heap[g]? = some (.cells cur 40 (0, 0))) (hg : w.grownBy w' row) : BElt w' B x l := by
  by_cases h0 : 0 < l.length
  · obtain ⟨b, off, cap, rfl, hb, hor⟩ := h.2 h0
    have hne : some b ≠ row := fun e => by
      obtain ⟨h1, cur, h2⟩ := hrow b e.symm
      rcases hor with h3 | ⟨cur', h3⟩
      · omega
      · rw [h3] at h2
        injection h2 with h2
        injection h2 with _ h4
        exact absurd h4 (by decide)
    have hbk := hg.block b hb hne
    refine ⟨⟨h.1.1, ?_⟩, fun _ => ⟨b, off, cap, rfl, Nat.lt_of_lt_of_le hb hg.size, hor.elim .inl fun ⟨cur, hc⟩ => .inr ⟨cur, by rw [hbk]; exact hc⟩⟩⟩
    rcases h.1.2 with ⟨hv, _⟩ | ⟨a, cap', hv, hcap, hc⟩
    · simp at hv
    · obtain ⟨rfl, rfl⟩ : a = ⟨b, off, none⟩ ∧ cap = cap' := ⟨(Option.some.inj (Value.slice.inj hv).1).symm, (Value.slice.inj hv).2.2⟩
      refine .inr ⟨_, cap, rfl, hcap, fun j hj => ?_⟩
      obtain ⟨h1, h2, h3⟩ := hc j hj
      exact ⟨Nat.lt_of_lt_of_le h1 hg.size, rfl, by rw [World.cell?_of_block (a := ⟨b, off + j, none⟩) hbk]; exact h3⟩
  · obtain rfl : l = [] := List.eq_nil_of_length_eq_zero (by omega)
    refine ⟨⟨byt_nil, ?_⟩, fun h => absurd h h0⟩
    rcases h.1.2 with h | ⟨a, cap, hv, hcap, _⟩
    · exact .inl h
    · exact .inr ⟨a, cap, hv, hcap, fun j hj => absurd hj (Nat.not_lt_zero _)⟩
theorem grown_of_below {w w' : World} (h : Below w.heap.size w w') : w.grownBy w' none := ⟨h.os, h.tape, h.output, h.size, fun k hk _ => h.block k hk⟩
theorem BElt.below {w w' : World} {B : Nat} {x : Value} {l : List Int} (h : BElt w B x l) (hb : Below w.heap.size w w') : BElt w' B x l :=
  h.grown (row := none) (fun g e => by cases e) (grown_of_below hb)
theorem BElt.old {w : World} {B : Nat} {x : Value} {l : List Int} (h : BSl w x l) (hB : w.heap.size ≤ B) : BElt w B x l := by
  refine ⟨h, fun h0 => ?_⟩
  rcases h.2 with ⟨_, hl⟩ | ⟨⟨b, off, spot⟩, cap, hv, _, hc⟩
  · rw [hl] at h0; simp at h0
  · obtain ⟨h1, h2, _⟩ := hc 0 h0
    obtain rfl : spot = none := h2
    exact ⟨b, off, cap, hv, h1, .inl (Nat.lt_of_lt_of_le h1 hB)⟩
theorem OB.elt {w : World} {B B' : Nat} {x : Value} {l : List Int} (h : OB w B' x l) : BElt w B x l := by
  refine ⟨h.bsl, fun h0 => ?_⟩
  rcases h.2.2 with ⟨_, hl⟩ | ⟨g, cap, cur, hv, _, hh, _⟩
  · omega
  · exact ⟨g, 0, cap, hv, (Array.getElem?_eq_some_iff.1 hh).1, .inr ⟨cur, hh⟩⟩

/-- A value of type [][]byte that reads as L, each of whose elements is as above. -/
def BBE (w : World) (B : Nat) (v : Value) (L : List (List Int)) : Prop :=
  (v = .slice none 0 0 ∧ L = []) ∨ ∃ a cap, v = .slice (some a) L.length cap ∧ L.length ≤ cap ∧ ∀ j, j < L.length → a.block < w.heap.size ∧ a.spot = none ∧
    ∃ u, w.cell? ⟨a.block, a.off + j, none⟩ = some u ∧ BElt w B u (L.getD j [])
theorem BBSl.old {w : World} {B : Nat} {v : Value} {L : List (List Int)} (h : BBSl w v L) (hB : w.heap.size ≤ B) : BBE w B v L := by
  rcases h with h | ⟨a, cap, hv, hcap, hc⟩
  · exact .inl h
  · refine .inr ⟨a, cap, hv, hcap, fun j hj => ?_⟩
    obtain ⟨h1, h2, u, h3, h4⟩ := hc j hj
    exact ⟨h1, h2, u, h3, BElt.old h4 hB⟩
theorem BBE.below {w w' : World} {B : Nat} {v : Value} {L : List (List Int)} (h : BBE w B v L) (hb : Below w.heap.size w w') : BBE w' B v L := by
  rcases h with h | ⟨a, cap, hv, hcap, hc⟩
  · exact .inl h
  · refine .inr ⟨a, cap, hv, hcap, fun j hj => ?_⟩
    obtain ⟨h1, h2, u, h3, h4⟩ := hc j hj
    exact ⟨Nat.lt_of_lt_of_le h1 hb.size, h2, u, by rw [hb.cell (p := ⟨a.block, a.off + j, none⟩) h1, h3], h4.below hb⟩
theorem BBE.sl {w : World} {B : Nat} {v : Value} {L : List (List Int)} (h : BBE w B v L) : BBSl w v L := by
  rcases h with h | ⟨a, cap, hv, hcap, hc⟩
  · exact .inl h
  · refine .inr ⟨a, cap, hv, hcap, fun j hj => ?_⟩
    obtain ⟨h1, h2, u, h3, h4⟩ := hc j hj
    exact ⟨h1, h2, u, h3, h4.1⟩

/-- A [][]byte of one's own, from block B on, that reads as L. -/
def BBR (w : World) (B : Nat) (v : Value) (L : List (List Int)) : Prop :=
  ∃ vs : List Value, vs.length = L.length ∧ (∀ j, j < L.length → BElt w B (vs.getD j undef) (L.getD j [])) ∧ w.ownsRow B 40 1 v L.length vs
theorem bbr_nil (w : World) (B : Nat) : BBR w B (.slice none 0 0) [] := ⟨[], rfl, fun j hj => absurd hj (Nat.not_lt_zero _), World.ownsRow_nil _ _ _ _⟩
theorem BBR.be {w : World} {B : Nat} {v : Value} {L : List (List Int)} (h : BBR w B v L) : BBE w B v L := by
  obtain ⟨vs, hl, hr, ho⟩ := h
  rcases ho.2 with ⟨hv, hl0⟩ | ⟨g, cap, cur, hv, hg, hh, hnc, hcm, hcs, ht⟩
  · exact .inl ⟨hv, List.eq_nil_of_length_eq_zero hl0⟩
  · refine .inr ⟨_, cap, hv, hnc, fun j hj => ⟨(Array.getElem?_eq_some_iff.1 hh).1, rfl, vs.getD j undef, ?_, hr j hj⟩⟩
    show w.cell? ⟨g, 0 + j, none⟩ = _
    rw [Nat.zero_add, cell_of_row _ _ _ _ _ _ hh]
    have : (cur.toList.take (L.length * 1))[j]? = vs[j]? := by rw [ht]
    rw [List.getElem?_take, if_pos (by omega)] at this
    simpa [List.getD_eq_getElem?_getD, show j < vs.length by omega] using this
theorem BBR.sl {w : World} {B : Nat} {v : Value} {L : List (List Int)} (h : BBR w B v L) : BBSl w v L := h.be.sl
theorem BBR.below {w w' : World} {B : Nat} {v : Value} {L : List (List Int)} (h : BBR w B v L) (hb : Below w.heap.size w w') : BBR w' B v L := by
  obtain ⟨vs, hl, hr, ho⟩ := h
  refine ⟨vs, hl, fun j hj => (hr j hj).below hb, ho.1, ?_⟩
  rcases ho.2 with h | ⟨g, cap, cur, hv, hg, hh, r⟩
  · exact .inl h
  · exact .inr ⟨g, cap, cur, hv, hg, by rw [hb.block g (Array.getElem?_eq_some_iff.1 hh).1]; exact hh, r⟩
theorem infoBy : (Try.prog.info? 40).map (fun i => (i.zero, i.size, i.bytes)) = some (some (.slice none 0 0), 1, 24) := by kernel_rfl
/-- A [][]byte of one, just made. -/
theorem bbr_one {w1 : World} {B : Nat} {x : Value} {l : List Int} (hx : BElt w1 B x l) (hB : B ≤ w1.heap.size) :
    BBR (w1.alloc (.cells #[x] 40)) B (.slice (some ⟨w1.heap.size, 0, none⟩) 1 1) [l] := by
  refine ⟨[x], rfl, fun j hj => ?_, rfl, .inr ⟨w1.heap.size, 1, #[x], rfl, hB, heap_alloc_new w1 _, Nat.le_refl _, by decide, rfl, rfl⟩⟩
  obtain rfl : j = 0 := by simpa using hj
  exact hx.below (below_box _ _)
/-- append of a [][]byte that is there onto one of one's own. -/
theorem run_append_bbs (S : TypeId) (hS : Try.prog.underlying S = some (.slice 40)) (w : World) (B : Nat) (ty : TypeId) (v : Value) (L : List (List Int)) (hown : BBR w B v L) (u : Value) (M : List (List Int)) (hr : BBE w B u M)
    (hlen : L.length + M.length ≤ 1000000) (hB : B ≤ w.heap.size) :
    ∃ v' w', (Builtin.append_ #[S, S] ty #[v, u]).run Try.prog w = .ok v' w' ∧ BBR w' B v' (L ++ M) ∧ Below B w w' ∧ w.grownBy w' v.ownBlock := by
  obtain ⟨t, h2, h3, h4, h5⟩ := info_parts infoBy
  obtain ⟨vs, hvl, hve, ho⟩ := hown
  rcases hr with ⟨rfl, rfl⟩ | ⟨⟨b, off, spot⟩, cap, rfl, hcap, hc⟩
  · have hrun := run_append_owned_none (P := Try.prog) (w := w) B S ty 40 t 1 hS h2 v L.length vs ho
    exact ⟨v, w, hrun, by rw [List.append_nil]; exact ⟨vs, hvl, hve, ho⟩, Below.refl _ _, World.grownBy.refl w _⟩
  · have hex : ∀ j, j < M.length → ∃ x, w.cell? ⟨b, off + j, none⟩ = some x ∧ BElt w B x (M.getD j []) := fun j hj => (hc j hj).2.2
    obtain ⟨f, hf⟩ : ∃ f : Nat → Value, ∀ j, j < M.length → w.cell? ⟨b, off + j, none⟩ = some (f j) ∧ BElt w B (f j) (M.getD j []) := by
      refine ⟨fun j => if hj : j < M.length then (hex j hj).choose else undef, fun j hj => ?_⟩
      simp only [hj, dif_pos]
      exact (hex j hj).choose_spec
    have hsp : 0 < M.length → spot = none := fun h0 => (hc 0 h0).2.1
    have hcells : ∀ j x, ((List.range M.length).map f)[j]? = some x → w.cell? (Addr.add ⟨b, off, spot⟩ j) = some x := fun j x hj => by
      have hjl : j < M.length := by simpa using (List.getElem?_eq_some_iff.1 hj).1
      obtain rfl := hsp (by omega)
      rw [Addr.add_lit, (hf j hjl).1, ← hj]
      simp [hjl]
    obtain ⟨v', w', hrun, h6, h7, _⟩ := run_append_own (P := Try.prog) w B S ty 40 t _ 1 24 hS h2 h3 h4 h5 rfl (by decide) v L.length vs ho ⟨b, off, spot⟩ M.length cap ((List.range M.length).map f) (by simp) hcells (fun x hx => by
      obtain ⟨j, hj, rfl⟩ := List.mem_map.1 hx
      exact (hf j (List.mem_range.1 hj)).2.1.one) (by simp only [maxLen]; omega) (by omega) hB
    have hrow : ∀ g, v.ownBlock = some g → B ≤ g ∧ ∃ cur, w.heap[g]? = some (.cells cur 40 (0, 0)) := fun g hg => by
      rcases ho.2 with ⟨rfl, _⟩ | ⟨g', cap', cur, rfl, hg', hh, _⟩
      · simp [Value.ownBlock] at hg
      · obtain rfl : g' = g := by simpa [Value.ownBlock] using hg
        exact ⟨hg', cur, hh⟩
    refine ⟨v', w', hrun, ⟨vs ++ (List.range M.length).map f, by simp [hvl], fun j hj => ?_, by rw [List.length_append]; exact h6⟩, (Below.refl _ _).grown h7 hB fun k hk => (World.ownsRow.lt ho k hk).1, h7⟩
    rw [List.length_append] at hj
    by_cases e : j < L.length
    · have := (hve j e).grown hrow h7
      rw [List.getD_eq_getElem?_getD, List.getD_eq_getElem?_getD, List.getElem?_append_left (by omega), List.getElem?_append_left e, ← List.getD_eq_getElem?_getD, ← List.getD_eq_getElem?_getD]
      exact this
    · have hjm : j - L.length < M.length := by omega
      have := (hf (j - L.length) hjm).2.grown hrow h7
      rw [List.getD_eq_getElem?_getD, List.getD_eq_getElem?_getD, List.getElem?_append_right (by omega), List.getElem?_append_right (by omega), hvl]
      rw [List.getD_eq_getElem?_getD] at this
      simpa [hjm] using this
theorem wpList_append_bbs (S : TypeId) (hS : Try.prog.underlying S = some (.slice 40)) (w : World) {ops : Array Oper} {rest : List Oper} {o : Oper} {a : Act} {Q : Exit → Act → World → Prop} (hgd : o.guard = none) (s y : Operand)
    (ho : o.op = .call { callee := .builtin .append, args := #[s, y], argTypes := #[S, S] })
    (B : Nat) (v : Value) (L : List (List Int)) (hs : a.eval s = v) (hown : BBR w B v L) (u : Value) (M : List (List Int)) (hy : a.eval y = u) (hr : BBE w B u M)
    (hlen : L.length + M.length ≤ 1000000) (hB : B ≤ w.heap.size)
    (h : ∀ v' w', BBR w' B v' (L ++ M) → Below B w w' → wpList Try.prog ops Q rest (a.put o.dst v') w') : wpList Try.prog ops Q (o :: rest) a w := by
  obtain ⟨v', w', hr, h2, h3, _⟩ := run_append_bbs S hS w B o.type v L hown u M hr hlen hB
  refine wpList_plain hgd fun K hK => ?_
  unfold Oper.wp execOp
  simp only [ho, resolve, invoke, builtin, Sem.run_bind, Sem.run_pure, Result.andThen_ok, List.map_toArray, List.map_cons, List.map_nil, hs, hy, hr]
  exact hK _ _ (h v' w' h2 h3)
/-- append of one []byte onto a [][]byte of one's own (its cell lies in the block that was made last, at g). -/
theorem wpList_append_bb (S : TypeId) (hS : Try.prog.underlying S = some (.slice 40)) (w1 : World) (x : Value) (l : List Int) {ops : Array Oper} {rest : List Oper} {o : Oper} {a : Act} {Q : Exit → Act → World → Prop} (hgd : o.guard = none) (s y : Operand)
    (ho : o.op = .call { callee := .builtin .append, args := #[s, y], argTypes := #[S, S] })
    (B : Nat) (v : Value) (L : List (List Int)) (hs : a.eval s = v) (hown : BBR w1 B v L) (hx : BElt w1 B x l) (q : Nat) (hy : a.eval y = .slice (some ⟨q, 0, none⟩) 1 1) (hq : q = w1.heap.size) (hlen : L.length ≤ 100000) (hB : B ≤ w1.heap.size)
    (h : ∀ v' w', BBR w' B v' (L ++ [l]) → Below B w1 w' → wpList Try.prog ops Q rest (a.put o.dst v') w') : wpList Try.prog ops Q (o :: rest) a (w1.alloc (.cells #[x] 40)) := by
  subst hq
  have hbel : Below w1.heap.size w1 (w1.alloc (.cells #[x] 40)) := below_box _ _
  refine wpList_append_bbs S hS _ hgd s y ho B v L hs (hown.below hbel) _ [l] hy (bbr_one hx hB).be (by simp; omega) (by simp; omega) fun v' w' h1 h2 => ?_
  exact h v' w' h1 ((hbel.mono hB).trans h2)
end Go.Proofs.Ytmjndpmpeidhaaa
