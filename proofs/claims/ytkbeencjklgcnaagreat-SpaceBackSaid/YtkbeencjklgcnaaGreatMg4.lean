/- Values of type [][]byte that read as lists of bytes; such of one's own; one appended, many appended. -/
import Derived.Laws.Rows
import Derived.Laws.Tables
import Derived.Test.YtkbeencjklgcnaaGreatMg2
import Derived.Test.YtkbeencjklgcnaaGreatMg3
namespace Go.Proofs.YtkbeencjklgcnaaGreat
set_option maxRecDepth 100000
open Go.RowKit
set_option linter.unusedVariables false

/-- A value of type [][]byte that reads as L. -/
def BBSl (w : World) (v : Value) (L : List (List Int)) : Prop :=
  (v = .slice none 0 0 ∧ L = []) ∨ ∃ a cap, v = .slice (some a) L.length cap ∧ L.length ≤ cap ∧ ∀ j, j < L.length → a.block < w.heap.size ∧ a.spot = none ∧
    ∃ u, w.cell? ⟨a.block, a.off + j, none⟩ = some u ∧ BSl w u (L.getD j [])
theorem bbsl_nil (w : World) : BBSl w (.slice none 0 0) [] := .inl ⟨rfl, rfl⟩
theorem BBSl.keep {w w' : World} {v : Value} {L : List (List Int)} (h : BBSl w v L) (hs : w.heap.size ≤ w'.heap.size) (hb : ∀ p : Addr, p.block < w.heap.size → w'.cell? p = w.cell? p) : BBSl w' v L := by
  rcases h with h | ⟨a, cap, hv, hcap, hc⟩
  · exact .inl h
  · refine .inr ⟨a, cap, hv, hcap, fun j hj => ?_⟩
    obtain ⟨h1, h2, u, h3, h4⟩ := hc j hj
    exact ⟨Nat.lt_of_lt_of_le h1 hs, h2, u, by rw [hb _ (by exact h1), h3], h4.keep hs hb⟩
theorem BBSl.below {w w' : World} {v : Value} {L : List (List Int)} (h : BBSl w v L) (hb : Below w.heap.size w w') : BBSl w' v L :=
  h.keep hb.size fun _ hp => hb.cell hp
theorem BBSl.open' {w : World} {v : Value} {L : List (List Int)} (h : BBSl w v L) : ∃ ao cap, v = .slice ao L.length cap ∧ L.length ≤ cap ∧ (0 < L.length → ∃ b off, ao = some ⟨b, off, none⟩ ∧ b < w.heap.size ∧
    ∀ j, j < L.length → ∃ u, w.cell? ⟨b, off + j, none⟩ = some u ∧ BSl w u (L.getD j [])) := by
  rcases h with ⟨hv, hk⟩ | ⟨⟨b, off, spot⟩, cap, hv, hcap, hc⟩
  · exact ⟨none, 0, by rw [hv, hk]; rfl, by rw [hk]; exact Nat.le_refl _, fun h => by rw [hk] at h; simp at h⟩
  · refine ⟨_, cap, hv, hcap, fun h0 => ?_⟩
    obtain ⟨h1, h2, _⟩ := hc 0 h0
    obtain rfl : spot = none := h2
    exact ⟨b, off, rfl, h1, fun j hj => (hc j hj).2.2⟩
theorem BBSl.shape {w : World} {v : Value} {L : List (List Int)} (h : BBSl w v L) : ∃ ao cap, v = .slice ao L.length cap ∧ L.length ≤ cap := by
  obtain ⟨ao, cap, hv, hc, _⟩ := h.open'
  exact ⟨ao, cap, hv, hc⟩
theorem BSl.one {w : World} {v : Value} {l : List Int} (h : BSl w v l) : v.oneCell' = true := by
  obtain ⟨ao, cap, rfl, _⟩ := h.shape
  rfl
/-- A []byte that reads as l and lies below block B, or in a row of bytes: a write into a row of slices from B on does not touch it. -/
def BElt (w : World) (B : Nat) (x : Value) (l : List Int) : Prop :=
  BSl w x l ∧ (0 < l.length → ∃ b off cap, x = .slice (some ⟨b, off, none⟩) l.length cap ∧ b < w.heap.size ∧ (b < B ∨ ∃ cur, w.heap[b]? = some (.cells cur 5 (0, 0))))
theorem BElt.grown {w w' : World} {B : Nat} {x : Value} {l : List Int} (h : BElt w B x l) {row : Option Nat} (hrow : ∀ g, row = some g → B ≤ g ∧ ∃ cur, w.heap[g]? = some (.cells cur 62 (0, 0))) (hg : w.grownBy w' row) : BElt w' B x l := by
  by_cases h0 : 0 < l.length
  · obtain ⟨b, off, cap, rfl, hb, hor⟩ := h.2 h0
    have hne : some b ≠ row := fun e => by
      obtain ⟨h1, cur, h2⟩ := hrow b e.symm
      rcases hor with h3 | ⟨cur', h3⟩
      · omega
      · rw [h3] at h2
        injection h2 with h2
        injection h2 with _ h4
        exact absurd h4 (by decide)
    have hbk := hg.block b hb hne
    refine ⟨⟨h.1.1, ?_⟩, fun _ => ⟨b, off, cap, rfl, Nat.lt_of_lt_of_le hb hg.size, hor.elim .inl fun ⟨cur, hc⟩ => .inr ⟨cur, by rw [hbk]; exact hc⟩⟩⟩
    rcases h.1.2 with ⟨hv, _⟩ | ⟨a, cap', hv, hcap, hc⟩
    · simp at hv
    · obtain ⟨rfl, rfl⟩ : a = ⟨b, off, none⟩ ∧ cap = cap' := ⟨(Option.some.inj (Value.slice.inj hv).1).symm, (Value.slice.inj hv).2.2⟩
      refine .inr ⟨_, cap, rfl, hcap, fun j hj => ?_⟩
      obtain ⟨h1, h2, h3⟩ := hc j hj
      exact ⟨Nat.lt_of_lt_of_le h1 hg.size, rfl, by rw [World.cell?_of_block (a := ⟨b, off + j, none⟩) hbk]; exact h3⟩
  · obtain rfl : l = [] := List.eq_nil_of_length_eq_zero (by omega)
    refine ⟨⟨byt_nil, ?_⟩, fun h => absurd h h0⟩
    rcases h.1.2 with h | ⟨a, cap, hv, hcap, _⟩
    · exact .inl h
    · exact .inr ⟨a, cap, hv, hcap, fun j hj => absurd hj (Nat.not_lt_zero _)⟩
theorem grown_of_below {w w' : World} (h : Below w.heap.size w w') : w.grownBy w' none := ⟨h.os, h.tape, h.output, h.size, fun k hk _ => h.block k hk⟩
theorem BElt.below {w w' : World} {B : Nat} {x : Value} {l : List Int} (h : BElt w B x l) (hb : Below w.heap.size w w') : BElt w' B x l :=
  h.grown (row := none) (fun g e => by cases e) (grown_of_below hb)
theorem BElt.old {w : World} {B : Nat} {x : Value} {l : List Int} (h : BSl w x l) (hB : w.heap.size ≤ B) : BElt w B x l := by
  refine ⟨h, fun h0 => ?_⟩
  rcases h.2 with ⟨_, hl⟩ | ⟨⟨b, off, spot⟩, cap, hv, _, hc⟩
  · rw [hl] at h0; simp at h0
  · obtain ⟨h1, h2, _⟩ := hc 0 h0
    obtain rfl : spot = none := h2
    exact ⟨b, off, cap, hv, h1, .inl (Nat.lt_of_lt_of_le h1 hB)⟩
theorem OB.elt {w : World} {B B' : Nat} {x : Value} {l : List Int} (h : OB w B' x l) : BElt w B x l := by
  refine ⟨h.bsl, fun h0 => ?_⟩
  rcases h.2.2 with ⟨_, hl⟩ | ⟨g, cap, cur, hv, _, hh, _⟩
  · omega
  · exact ⟨g, 0, cap, hv, (Array.getElem?_eq_some_iff.1 hh).1, .inr ⟨cur, hh⟩⟩

/-- A value of type [][]byte that reads as L, each of whose elements is as above. -/
def BBE (w : World) (B : Nat) (v : Value) (L : List (List Int)) : Prop :=
  (v = .slice none 0 0 ∧ L = []) ∨ ∃ a cap, v = .slice (some a) L.length cap ∧ L.length ≤ cap ∧ ∀ j, j < L.length → a.block < w.heap.size ∧ a.spot = none ∧
    ∃ u, w.cell? ⟨a.block, a.off + j, none⟩ = some u ∧ BElt w B u (L.getD j [])
theorem BBSl.old {w : World} {B : Nat} {v : Value} {L : List (List Int)} (h : BBSl w v L) (hB : w.heap.size ≤ B) : BBE w B v L := by
  rcases h with h | ⟨a, cap, hv, hcap, hc⟩
  · exact .inl h
  · refine .inr ⟨a, cap, hv, hcap, fun j hj => ?_⟩
    obtain ⟨h1, h2, u, h3, h4⟩ := hc j hj
    exact ⟨h1, h2, u, h3, BElt.old h4 hB⟩
theorem BBE.below {w w' : World} {B : Nat} {v : Value} {L : List (List Int)} (h : BBE w B v L) (hb : Below w.heap.size w w') : BBE w' B v L := by
  rcases h with h | ⟨a, cap, hv, hcap, hc⟩
  · exact .inl h
  · refine .inr ⟨a, cap, hv, hcap, fun j hj => ?_⟩
    obtain ⟨h1, h2, u, h3, h4⟩ := hc j hj
    exact ⟨Nat.lt_of_lt_of_le h1 hb.size, h2, u, by rw [hb.cell (p := ⟨a.block, a.off + j, none⟩) h1, h3], h4.below hb⟩
theorem BBE.sl {w : World} {B : Nat} {v : Value} {L : List (List Int)} (h : BBE w B v L) : BBSl w v L := by
  rcases h with h | ⟨a, cap, hv, hcap, hc⟩
  · exact .inl h
  · refine .inr ⟨a, cap, hv, hcap, fun j hj => ?_⟩
    obtain ⟨h1, h2, u, h3, h4⟩ := hc j hj
    exact ⟨h1, h2, u, h3, h4.1⟩

/-- A [][]byte of one's own, from block B on, that reads as L. -/
def BBR (w : World) (B : Nat) (v : Value) (L : List (List Int)) : Prop :=
  ∃ vs : List Value, vs.length = L.length ∧ (∀ j, j < L.length → BElt w B (vs.getD j undef) (L.getD j [])) ∧ w.ownsRow B 62 1 v L.length vs
theorem bbr_nil (w : World) (B : Nat) : BBR w B (.slice none 0 0) [] := ⟨[], rfl, fun j hj => absurd hj (Nat.not_lt_zero _), World.ownsRow_nil _ _ _ _⟩
theorem BBR.be {w : World} {B : Nat} {v : Value} {L : List (List Int)} (h : BBR w B v L) : BBE w B v L := by
  obtain ⟨vs, hl, hr, ho⟩ := h
  rcases ho.2 with ⟨hv, hl0⟩ | ⟨g, cap, cur, hv, hg, hh, hnc, hcm, hcs, ht⟩
  · exact .inl ⟨hv, List.eq_nil_of_length_eq_zero hl0⟩
  · refine .inr ⟨_, cap, hv, hnc, fun j hj => ⟨(Array.getElem?_eq_some_iff.1 hh).1, rfl, vs.getD j undef, ?_, hr j hj⟩⟩
    show w.cell? ⟨g, 0 + j, none⟩ = _
    rw [Nat.zero_add, cell_of_row _ _ _ _ _ _ hh]
    have : (cur.toList.take (L.length * 1))[j]? = vs[j]? := by rw [ht]
    rw [List.getElem?_take, if_pos (by omega)] at this
    simpa [List.getD_eq_getElem?_getD, show j < vs.length by omega] using this
theorem BBR.sl {w : World} {B : Nat} {v : Value} {L : List (List Int)} (h : BBR w B v L) : BBSl w v L := h.be.sl
theorem BBR.below {w w' : World} {B : Nat} {v : Value} {L : List (List Int)} (h : BBR w B v L) (hb : Below w.heap.size w w') : BBR w' B v L := by
  obtain ⟨vs, hl, hr, ho⟩ := h
  refine ⟨vs, hl, fun j hj => (hr j hj).below hb, ho.1, ?_⟩
  rcases ho.2 with h | ⟨g, cap, cur, hv, hg, hh, r⟩
  · exact .inl h
  · exact .inr ⟨g, cap, cur, hv, hg, by rw [hb.block g (Array.getElem?_eq_some_iff.1 hh).1]; exact hh, r⟩
theorem infoBy : (Tryz.prog.info? 62).map (fun i => (i.zero, i.size, i.bytes)) = some (some (.slice none 0 0), 1, 24) := by kernel_rfl
/-- A [][]byte of one, just made. -/
theorem bbr_one {w1 : World} {B : Nat} {x : Value} {l : List Int} (hx : BElt w1 B x l) (hB : B ≤ w1.heap.size) :
    BBR (w1.alloc (.cells #[x] 62)) B (.slice (some ⟨w1.heap.size, 0, none⟩) 1 1) [l] := by
  refine ⟨[x], rfl, fun j hj => ?_, rfl, .inr ⟨w1.heap.size, 1, #[x], rfl, hB, heap_alloc_new w1 _, Nat.le_refl _, by decide, rfl, rfl⟩⟩
  obtain rfl : j = 0 := by simpa using hj
  exact hx.below (below_box _ _)
/-- append of a [][]byte that is there onto one of one's own. -/
theorem run_append_bbs (S : TypeId) (hS : Tryz.prog.underlying S = some (.slice 62)) (w : World) (B : Nat) (ty : TypeId) (v : Value) (L : List (List Int)) (hown : BBR w B v L) (u : Value) (M : List (List Int)) (hr : BBE w B u M)
    (hlen : L.length + M.length ≤ 1000000) (hB : B ≤ w.heap.size) :
    ∃ v' w', (Builtin.append_ #[S, S] ty #[v, u]).run Tryz.prog w = .ok v' w' ∧ BBR w' B v' (L ++ M) ∧ Below B w w' ∧ w.grownBy w' v.ownBlock := by
  obtain ⟨t, h2, h3, h4, h5⟩ := info_parts infoBy
  obtain ⟨vs, hvl, hve, ho⟩ := hown
  rcases hr with ⟨rfl, rfl⟩ | ⟨⟨b, off, spot⟩, cap, rfl, hcap, hc⟩
  · have hrun := run_append_owned_none (P := Tryz.prog) (w := w) B S ty 62 t 1 hS h2 v L.length vs ho
    exact ⟨v, w, hrun, by rw [List.append_nil]; exact ⟨vs, hvl, hve, ho⟩, Below.refl _ _, World.grownBy.refl w _⟩
  · have hex : ∀ j, j < M.length → ∃ x, w.cell? ⟨b, off + j, none⟩ = some x ∧ BElt w B x (M.getD j []) := fun j hj => (hc j hj).2.2
    obtain ⟨f, hf⟩ : ∃ f : Nat → Value, ∀ j, j < M.length → w.cell? ⟨b, off + j, none⟩ = some (f j) ∧ BElt w B (f j) (M.getD j []) := by
      refine ⟨fun j => if hj : j < M.length then (hex j hj).choose else undef, fun j hj => ?_⟩
      simp only [hj, dif_pos]
      exact (hex j hj).choose_spec
    have hsp : 0 < M.length → spot = none := fun h0 => (hc 0 h0).2.1
    have hcells : ∀ j x, ((List.range M.length).map f)[j]? = some x → w.cell? (Addr.add ⟨b, off, spot⟩ j) = some x := fun j x hj => by
      have hjl : j < M.length := by simpa using (List.getElem?_eq_some_iff.1 hj).1
      obtain rfl := hsp (by omega)
      rw [Addr.add_lit, (hf j hjl).1, ← hj]
      simp [hjl]
    obtain ⟨v', w', hrun, h6, h7, _⟩ := run_append_own (P := Tryz.prog) w B S ty 62 t _ 1 24 hS h2 h3 h4 h5 rfl (by decide) v L.length vs ho ⟨b, off, spot⟩ M.length cap ((List.range M.length).map f) (by simp) hcells (fun x hx => by
      obtain ⟨j, hj, rfl⟩ := List.mem_map.1 hx
      exact (hf j (List.mem_range.1 hj)).2.1.one) (by simp only [maxLen]; omega) (by omega) hB
    have hrow : ∀ g, v.ownBlock = some g → B ≤ g ∧ ∃ cur, w.heap[g]? = some (.cells cur 62 (0, 0)) := fun g hg => by
      rcases ho.2 with ⟨rfl, _⟩ | ⟨g', cap', cur, rfl, hg', hh, _⟩
      · simp [Value.ownBlock] at hg
      · obtain rfl : g' = g := by simpa [Value.ownBlock] using hg
        exact ⟨hg', cur, hh⟩
    refine ⟨v', w', hrun, ⟨vs ++ (List.range M.length).map f, by simp [hvl], fun j hj => ?_, by rw [List.length_append]; exact h6⟩, (Below.refl _ _).grown h7 hB fun k hk => (World.ownsRow.lt ho k hk).1, h7⟩
    rw [List.length_append] at hj
    by_cases e : j < L.length
    · have := (hve j e).grown hrow h7
      rw [List.getD_eq_getElem?_getD, List.getD_eq_getElem?_getD, List.getElem?_append_left (by omega), List.getElem?_append_left e, ← List.getD_eq_getElem?_getD, ← List.getD_eq_getElem?_getD]
      exact this
    · have hjm : j - L.length < M.length := by omega
      have := (hf (j - L.length) hjm).2.grown hrow h7
      rw [List.getD_eq_getElem?_getD, List.getD_eq_getElem?_getD, List.getElem?_append_right (by omega), List.getElem?_append_right (by omega), hvl]
      rw [List.getD_eq_getElem?_getD] at this
      simpa [hjm] using this
theorem wpList_append_bbs (S : TypeId) (hS : Tryz.prog.underlying S = some (.slice 62)) (w : World) {ops : Array Oper} {rest : List Oper} {o : Oper} {a : Act} {Q : Exit → Act → World → Prop} (hgd : o.guard = none) (s y : Operand)
    (ho : o.op = .call { callee := .builtin .append, args := #[s, y], argTypes := #[S, S] })
    (B : Nat) (v : Value) (L : List (List Int)) (hs : a.eval s = v) (hown : BBR w B v L) (u : Value) (M : List (List Int)) (hy : a.eval y = u) (hr : BBE w B u M)
    (hlen : L.length + M.length ≤ 1000000) (hB : B ≤ w.heap.size)
    (h : ∀ v' w', BBR w' B v' (L ++ M) → Below B w w' → wpList Tryz.prog ops Q rest (a.put o.dst v') w') : wpList Tryz.prog ops Q (o :: rest) a w := by
  obtain ⟨v', w', hr, h2, h3, _⟩ := run_append_bbs S hS w B o.type v L hown u M hr hlen hB
  refine wpList_plain hgd fun K hK => ?_
  unfold Oper.wp execOp
  simp only [ho, resolve, invoke, builtin, Sem.run_bind, Sem.run_pure, Result.andThen_ok, List.map_toArray, List.map_cons, List.map_nil, hs, hy, hr]
  exact hK _ _ (h v' w' h2 h3)
/-- append of one []byte onto a [][]byte of one's own (its cell lies in the block that was made last, at g). -/
theorem wpList_append_bb (S : TypeId) (hS : Tryz.prog.underlying S = some (.slice 62)) (w1 : World) (x : Value) (l : List Int) {ops : Array Oper} {rest : List Oper} {o : Oper} {a : Act} {Q : Exit → Act → World → Prop} (hgd : o.guard = none) (s y : Operand)
    (ho : o.op = .call { callee := .builtin .append, args := #[s, y], argTypes := #[S, S] })
    (B : Nat) (v : Value) (L : List (List Int)) (hs : a.eval s = v) (hown : BBR w1 B v L) (hx : BElt w1 B x l) (q : Nat) (hy : a.eval y = .slice (some ⟨q, 0, none⟩) 1 1) (hq : q = w1.heap.size) (hlen : L.length ≤ 100000) (hB : B ≤ w1.heap.size)
    (h : ∀ v' w', BBR w' B v' (L ++ [l]) → Below B w1 w' → wpList Tryz.prog ops Q rest (a.put o.dst v') w') : wpList Tryz.prog ops Q (o :: rest) a (w1.alloc (.cells #[x] 62)) := by
  subst hq
  have hbel : Below w1.heap.size w1 (w1.alloc (.cells #[x] 62)) := below_box _ _
  refine wpList_append_bbs S hS _ hgd s y ho B v L hs (hown.below hbel) _ [l] hy (bbr_one hx hB).be (by simp; omega) (by simp; omega) fun v' w' h1 h2 => ?_
  exact h v' w' h1 ((hbel.mono hB).trans h2)
/-- The same, the row from block B on, the elements below block E or in rows of bytes. -/
def BB2 (w : World) (B E : Nat) (v : Value) (L : List (List Int)) : Prop :=
  ∃ vs : List Value, vs.length = L.length ∧ (∀ j, j < L.length → BElt w E (vs.getD j undef) (L.getD j [])) ∧ w.ownsRow B 62 1 v L.length vs
theorem BB2.lower {w : World} {B B' E : Nat} {v : Value} {L : List (List Int)} (h : BB2 w B E v L) (hB : B' ≤ B) : BB2 w B' E v L := by
  obtain ⟨vs, hl, hr, ho⟩ := h
  exact ⟨vs, hl, hr, ho.1, ho.2.imp id fun ⟨g, cap, cur, hv, hg, r⟩ => ⟨g, cap, cur, hv, Nat.le_trans hB hg, r⟩⟩
theorem BB2.bbr {w : World} {B : Nat} {v : Value} {L : List (List Int)} (h : BB2 w B B v L) : BBR w B v L := h
theorem BBR.bb2 {w : World} {B : Nat} {v : Value} {L : List (List Int)} (h : BBR w B v L) : BB2 w B B v L := h
theorem BB2.zero {w : World} {B : Nat} {v : Value} {L : List (List Int)} (h : BB2 w B 0 v L) : BBR w 0 v L := h.lower (Nat.zero_le _)
theorem BB2.below {w w' : World} {B E : Nat} {v : Value} {L : List (List Int)} (h : BB2 w B E v L) (hb : Below w.heap.size w w') : BB2 w' B E v L := by
  obtain ⟨vs, hl, hr, ho⟩ := h
  refine ⟨vs, hl, fun j hj => (hr j hj).below hb, ho.1, ?_⟩
  rcases ho.2 with h | ⟨g, cap, cur, hv, hg, hh, r⟩
  · exact .inl h
  · exact .inr ⟨g, cap, cur, hv, hg, by rw [hb.block g (Array.getElem?_eq_some_iff.1 hh).1]; exact hh, r⟩
theorem bb2_one {w1 : World} {B E : Nat} {x : Value} {l : List Int} (hx : BElt w1 E x l) (hB : B ≤ w1.heap.size) :
    BB2 (w1.alloc (.cells #[x] 62)) B E (.slice (some ⟨w1.heap.size, 0, none⟩) 1 1) [l] := by
  refine ⟨[x], rfl, fun j hj => ?_, rfl, .inr ⟨w1.heap.size, 1, #[x], rfl, hB, heap_alloc_new w1 _, Nat.le_refl _, by decide, rfl, rfl⟩⟩
  obtain rfl : j = 0 := by simpa using hj
  exact hx.below (below_box _ _)
theorem run_append_bb2 (S : TypeId) (hS : Tryz.prog.underlying S = some (.slice 62)) (w : World) (B E : Nat) (hEB : E ≤ B) (ty : TypeId) (v : Value) (L : List (List Int)) (hown : BB2 w B E v L) (u : Value) (M : List (List Int)) (hr : BBE w E u M)
    (hlen : L.length + M.length ≤ 1000000) (hB : B ≤ w.heap.size) :
    ∃ v' w', (Builtin.append_ #[S, S] ty #[v, u]).run Tryz.prog w = .ok v' w' ∧ BB2 w' B E v' (L ++ M) ∧ Below B w w' ∧ w.grownBy w' v.ownBlock := by
  obtain ⟨t, h2, h3, h4, h5⟩ := info_parts infoBy
  obtain ⟨vs, hvl, hve, ho⟩ := hown
  rcases hr with ⟨rfl, rfl⟩ | ⟨⟨b, off, spot⟩, cap, rfl, hcap, hc⟩
  · have hrun := run_append_owned_none (P := Tryz.prog) (w := w) B S ty 62 t 1 hS h2 v L.length vs ho
    exact ⟨v, w, hrun, by rw [List.append_nil]; exact ⟨vs, hvl, hve, ho⟩, Below.refl _ _, World.grownBy.refl w _⟩
  · have hex : ∀ j, j < M.length → ∃ x, w.cell? ⟨b, off + j, none⟩ = some x ∧ BElt w E x (M.getD j []) := fun j hj => (hc j hj).2.2
    obtain ⟨f, hf⟩ : ∃ f : Nat → Value, ∀ j, j < M.length → w.cell? ⟨b, off + j, none⟩ = some (f j) ∧ BElt w E (f j) (M.getD j []) := by
      refine ⟨fun j => if hj : j < M.length then (hex j hj).choose else undef, fun j hj => ?_⟩
      simp only [hj, dif_pos]
      exact (hex j hj).choose_spec
    have hsp : 0 < M.length → spot = none := fun h0 => (hc 0 h0).2.1
    have hcells : ∀ j x, ((List.range M.length).map f)[j]? = some x → w.cell? (Addr.add ⟨b, off, spot⟩ j) = some x := fun j x hj => by
      have hjl : j < M.length := by simpa using (List.getElem?_eq_some_iff.1 hj).1
      obtain rfl := hsp (by omega)
      rw [Addr.add_lit, (hf j hjl).1, ← hj]
      simp [hjl]
    obtain ⟨v', w', hrun, h6, h7, _⟩ := run_append_own (P := Tryz.prog) w B S ty 62 t _ 1 24 hS h2 h3 h4 h5 rfl (by decide) v L.length vs ho ⟨b, off, spot⟩ M.length cap ((List.range M.length).map f) (by simp) hcells (fun x hx => by
      obtain ⟨j, hj, rfl⟩ := List.mem_map.1 hx
      exact (hf j (List.mem_range.1 hj)).2.1.one) (by simp only [maxLen]; omega) (by omega) hB
    have hrow : ∀ g, v.ownBlock = some g → E ≤ g ∧ ∃ cur, w.heap[g]? = some (.cells cur 62 (0, 0)) := fun g hg => by
      rcases ho.2 with ⟨rfl, _⟩ | ⟨g', cap', cur, rfl, hg', hh, _⟩
      · simp [Value.ownBlock] at hg
      · obtain rfl : g' = g := by simpa [Value.ownBlock] using hg
        exact ⟨Nat.le_trans hEB hg', cur, hh⟩
    refine ⟨v', w', hrun, ⟨vs ++ (List.range M.length).map f, by simp [hvl], fun j hj => ?_, by rw [List.length_append]; exact h6⟩, (Below.refl _ _).grown h7 hB fun k hk => (World.ownsRow.lt ho k hk).1, h7⟩
    rw [List.length_append] at hj
    by_cases e : j < L.length
    · have := (hve j e).grown hrow h7
      rw [List.getD_eq_getElem?_getD, List.getD_eq_getElem?_getD, List.getElem?_append_left (by omega), List.getElem?_append_left e, ← List.getD_eq_getElem?_getD, ← List.getD_eq_getElem?_getD]
      exact this
    · have hjm : j - L.length < M.length := by omega
      have := (hf (j - L.length) hjm).2.grown hrow h7
      rw [List.getD_eq_getElem?_getD, List.getD_eq_getElem?_getD, List.getElem?_append_right (by omega), List.getElem?_append_right (by omega), hvl]
      rw [List.getD_eq_getElem?_getD] at this
      simpa [hjm] using this
theorem wpList_append_bb2 (S : TypeId) (hS : Tryz.prog.underlying S = some (.slice 62)) (w : World) {ops : Array Oper} {rest : List Oper} {o : Oper} {a : Act} {Q : Exit → Act → World → Prop} (hgd : o.guard = none) (s y : Operand)
    (ho : o.op = .call { callee := .builtin .append, args := #[s, y], argTypes := #[S, S] })
    (B E : Nat) (hEB : E ≤ B) (v : Value) (L : List (List Int)) (hs : a.eval s = v) (hown : BB2 w B E v L) (u : Value) (M : List (List Int)) (hy : a.eval y = u) (hr : BBE w E u M)
    (hlen : L.length + M.length ≤ 1000000) (hB : B ≤ w.heap.size)
    (h : ∀ v' w', BB2 w' B E v' (L ++ M) → Below B w w' → wpList Tryz.prog ops Q rest (a.put o.dst v') w') : wpList Tryz.prog ops Q (o :: rest) a w := by
  obtain ⟨v', w', hr, h2, h3, _⟩ := run_append_bb2 S hS w B E hEB o.type v L hown u M hr hlen hB
  refine wpList_plain hgd fun K hK => ?_
  unfold Oper.wp execOp
  simp only [ho, resolve, invoke, builtin, Sem.run_bind, Sem.run_pure, Result.andThen_ok, List.map_toArray, List.map_cons, List.map_nil, hs, hy, hr]
  exact hK _ _ (h v' w' h2 h3)
/-- append of one []byte onto such a [][]byte (its cell lies in the block that was made last, at q). -/
theorem wpList_append_bb2one (S : TypeId) (hS : Tryz.prog.underlying S = some (.slice 62)) (w1 : World) (x : Value) (l : List Int) {ops : Array Oper} {rest : List Oper} {o : Oper} {a : Act} {Q : Exit → Act → World → Prop} (hgd : o.guard = none) (s y : Operand)
    (ho : o.op = .call { callee := .builtin .append, args := #[s, y], argTypes := #[S, S] })
    (B E : Nat) (hEB : E ≤ B) (v : Value) (L : List (List Int)) (hs : a.eval s = v) (hown : BB2 w1 B E v L) (hx : BElt w1 E x l) (q : Nat) (hy : a.eval y = .slice (some ⟨q, 0, none⟩) 1 1) (hq : q = w1.heap.size) (hlen : L.length ≤ 100000) (hB : B ≤ w1.heap.size)
    (h : ∀ v' w', BB2 w' B E v' (L ++ [l]) → Below B w1 w' → wpList Tryz.prog ops Q rest (a.put o.dst v') w') : wpList Tryz.prog ops Q (o :: rest) a (w1.alloc (.cells #[x] 62)) := by
  subst hq
  have hbel : Below w1.heap.size w1 (w1.alloc (.cells #[x] 62)) := below_box _ _
  have h1 : BBE (w1.alloc (.cells #[x] 62)) E (.slice (some ⟨w1.heap.size, 0, none⟩) 1 1) [l] := (bbr_one hx (B := E) (Nat.le_trans hEB hB)).be
  refine wpList_append_bb2 S hS _ hgd s y ho B E hEB v L hs (hown.below hbel) _ [l] hy h1 (by simp; omega) (by simp; omega) fun v' w' h1 h2 => ?_
  exact h v' w' h1 ((hbel.mono hB).trans h2)
end Go.Proofs.YtkbeencjklgcnaaGreat

/- Values of type []int that read as lists, and such of one's own; rows of numbers; a row of elements of one size: one is loaded, stored; nothing but one block has turned. -/
namespace Go.Proofs.YtkbeencjklgcnaaGreat
set_option maxRecDepth 100000
open Go.RowKit
set_option linter.unusedVariables false

/-- A value of type []int that reads as l. -/
def ISl (w : World) (v : Value) (l : List Int) : Prop :=
  (v = .slice none 0 0 ∧ l = []) ∨ ∃ a cap, v = .slice (some a) l.length cap ∧ ∀ j, j < l.length → a.block < w.heap.size ∧ a.spot = none ∧ w.cell? ⟨a.block, a.off + j, none⟩ = some (.int .i64 (l.getD j 0))
theorem isl_nil (w : World) : ISl w (.slice none 0 0) [] := .inl ⟨rfl, rfl⟩
theorem ISl.below {w w' : World} {v : Value} {l : List Int} (h : ISl w v l) (hb : Below w.heap.size w w') : ISl w' v l := by
  rcases h with h | ⟨a, cap, hv, hc⟩
  · exact .inl h
  · refine .inr ⟨a, cap, hv, fun j hj => ?_⟩
    obtain ⟨h1, h2, h3⟩ := hc j hj
    exact ⟨Nat.lt_of_lt_of_le h1 hb.size, h2, by rw [hb.cell (p := ⟨a.block, a.off + j, none⟩) h1, h3]⟩
theorem ISl.open' {w : World} {v : Value} {l : List Int} (h : ISl w v l) : ∃ ao cap, v = .slice ao l.length cap ∧ (0 < l.length → ∃ b off, ao = some ⟨b, off, none⟩ ∧ b < w.heap.size ∧
    ∀ j, j < l.length → w.cell? ⟨b, off + j, none⟩ = some (.int .i64 (l.getD j 0))) := by
  rcases h with ⟨hv, hk⟩ | ⟨⟨b, off, spot⟩, cap, hv, hc⟩
  · exact ⟨none, 0, by rw [hv, hk]; rfl, fun h => by rw [hk] at h; simp at h⟩
  · refine ⟨_, cap, hv, fun h0 => ?_⟩
    obtain ⟨h1, h2, _⟩ := hc 0 h0
    obtain rfl : spot = none := h2
    exact ⟨b, off, rfl, h1, fun j hj => (hc j hj).2.2⟩
theorem ISl.at {w : World} {v : Value} {l : List Int} (h : ISl w v l) (h0 : 0 < l.length) : ∃ b off cap, v = .slice (some ⟨b, off, none⟩) l.length cap ∧ b < w.heap.size ∧
    ∀ j, j < l.length → w.cell? ⟨b, off + j, none⟩ = some (.int .i64 (l.getD j 0)) := by
  obtain ⟨ao, cap, hv, hc⟩ := h.open'
  obtain ⟨b, off, rfl, h1, h2⟩ := hc h0
  exact ⟨b, off, cap, hv, h1, h2⟩
theorem ISl.shape {w : World} {v : Value} {l : List Int} (h : ISl w v l) : ∃ ao cap, v = .slice ao l.length cap := by
  obtain ⟨ao, cap, hv, _⟩ := h.open'
  exact ⟨ao, cap, hv⟩

/-- A row of numbers in memory. -/
def iC (l : List Int) : List Value := l.map (Value.int .i64)
theorem iC_length (l : List Int) : (iC l).length = l.length := List.length_map _
theorem iC_one (l : List Int) : ∀ v ∈ iC l, v.oneCell' = true := fun v hv => by
  obtain ⟨x, _, rfl⟩ := List.mem_map.1 hv; rfl
def iO (l : List Int) (T : TypeId) : Obj := .cells (iC l).toArray T (0, 0)
theorem io_cell {W : World} {g : Nat} {l : List Int} {T : TypeId} (h : W.heap[g]? = some (iO l T)) (k : Nat) (hk : k < l.length) : W.cell? ⟨g, k, none⟩ = some (.int .i64 (l.getD k 0)) := by
  rw [cell_of_row _ _ _ _ _ _ h]
  simp [iC, List.getD_eq_getElem?_getD, hk]
theorem io_free {W : World} {g : Nat} {l : List Int} {T : TypeId} (h : W.heap[g]? = some (iO l T)) (k : Nat) : W.frozen? ⟨g, k, none⟩ = false := by
  simp [World.frozen?, h, iO]
theorem io_set {W : World} {g : Nat} {l : List Int} {T : TypeId} (h : W.heap[g]? = some (iO l T)) (j : Nat) (y : Int) : (W.setCell ⟨g, j, none⟩ (.int .i64 y)).heap[g]? = some (iO (l.set j y) T) := by
  rw [heap_setCell_same W g j _ _ _ h]
  simp [iO, iC]
theorem io_range {W : World} {g : Nat} {l : List Int} {T : TypeId} (h : W.heap[g]? = some (iO l T)) : W.rangeAt g 0 (iC l) :=
  range_row h (by rw [List.drop_zero, List.take_length])

/-- A []int of one's own, from block B on, that reads as l. -/
def IR (w : World) (B : Nat) (v : Value) (l : List Int) : Prop := w.ownsRow B 3 1 v l.length (iC l)
theorem IR.sl {w : World} {B : Nat} {v : Value} {l : List Int} (h : IR w B v l) : ISl w v l := by
  rcases h.2 with ⟨hv, hl⟩ | ⟨g, cap, cur, hv, hg, hh, hnc, hcm, hcs, ht⟩
  · exact .inl ⟨hv, List.eq_nil_of_length_eq_zero hl⟩
  · refine .inr ⟨_, cap, hv, fun j hj => ⟨(Array.getElem?_eq_some_iff.1 hh).1, rfl, ?_⟩⟩
    show w.cell? ⟨g, 0 + j, none⟩ = _
    rw [Nat.zero_add, cell_of_row _ _ _ _ _ _ hh]
    have : (cur.toList.take (l.length * 1))[j]? = (iC l)[j]? := by rw [ht]
    rw [List.getElem?_take, if_pos (by omega)] at this
    simpa [iC, List.getD_eq_getElem?_getD, hj] using this
theorem IR.below {w w' : World} {B : Nat} {v : Value} {l : List Int} (h : IR w B v l) (hb : Below w.heap.size w w') : IR w' B v l := by
  refine ⟨h.1, ?_⟩
  rcases h.2 with h | ⟨g, cap, cur, hv, hg, hh, r⟩
  · exact .inl h
  · exact .inr ⟨g, cap, cur, hv, hg, by rw [hb.block g (Array.getElem?_eq_some_iff.1 hh).1]; exact hh, r⟩
theorem ir_nil (w : World) (B : Nat) : IR w B (.slice none 0 0) [] := World.ownsRow_nil w B _ _
theorem IR.of_row {w : World} {B g : Nat} {l : List Int} (hB : B ≤ g) (hg : w.heap[g]? = some (iO l 3)) (hm : l.length ≤ maxLen) :
    IR w B (.slice (some ⟨g, 0, none⟩) l.length l.length) l := by
  refine ⟨by simp [iC], .inr ⟨g, l.length, _, rfl, hB, hg, Nat.le_refl _, hm, by simp [iC], ?_⟩⟩
  rw [List.take_of_length_le (by simp [iC])]

theorem infoI64 : (Tryz.prog.info? 3).map (fun i => (i.zero, i.size, i.bytes)) = some (some (.int .i64 0), 1, 8) := by kernel_rfl
theorem made_int (n : Nat) : madeCells (Value.int .i64 0).cells n = (iC (List.replicate n 0)).toArray := by
  apply Array.ext'
  rw [show (Value.int .i64 0).cells = #[Value.int .i64 0] from rfl, toList_madeCells_one]
  simp [iC]
/-- make([]int, n). -/
theorem wpList_make_int (w : World) {ops : Array Oper} {rest : List Oper} {o : Oper} {a : Act} {Q : Exit → Act → World → Prop}
    (hg : o.guard = none) (l c : Operand) (hop : o.op = Op.makeSlice 55 l c) (C : Int) (n : Nat) (hl : a.eval l = .int .i64 C) (hc : a.eval c = .int .i64 C) (hC : C = n) (hn : n ≤ 1000000)
    (hK : wpList Tryz.prog ops Q rest (a.put o.dst (.slice (some ⟨w.heap.size, 0, none⟩) n n)) (w.alloc (iO (List.replicate n 0) 3))) :
    wpList Tryz.prog ops Q (o :: rest) a w := by
  refine wpList_plain hg fun K hK' => ?_
  obtain ⟨i, h2, h3, h4, h5⟩ := info_parts infoI64
  subst hC
  have hrun := run_make (P := Tryz.prog) w 55 3 i (.int .i64 0) Tryz.underlying55 h2 h3 .i64 .i64 n n (by omega) (by omega) (by rw [h5]; omega) (by omega)
  unfold Oper.wp
  simp only [Int.toNat_natCast, h4, Nat.mul_one, made_int] at hrun
  simp [execOp, hop, hl, hc, hrun, Result.andThen]
  exact hK' _ _ hK
/-- append of one number onto numbers of one's own (its cell lies in the block that was made last). -/
theorem wpList_append_int (w1 : World) (x : Int) {ops : Array Oper} {rest : List Oper} {o : Oper} {a : Act} {Q : Exit → Act → World → Prop} (hgd : o.guard = none) (s y : Operand)
    (ho : o.op = .call { callee := .builtin .append, args := #[s, y], argTypes := #[55, 55] })
    (B : Nat) (v : Value) (l : List Int) (hs : a.eval s = v) (hown : IR w1 B v l) (hO : l.length ≤ 1000000) (hy : a.eval y = .slice (some ⟨w1.heap.size, 0, none⟩) 1 1) (hB : B ≤ w1.heap.size)
    (h : ∀ v' w', IR w' B v' (l ++ [x]) → Below B w1 w' → wpList Tryz.prog ops Q rest (a.put o.dst v') w') : wpList Tryz.prog ops Q (o :: rest) a (w1.alloc (.cells #[.int .i64 x] 3)) := by
  obtain ⟨t, h2, h3, h4, h5⟩ := info_parts infoI64
  have hbel : Below w1.heap.size w1 (w1.alloc (.cells #[.int .i64 x] 3)) := below_box _ _
  have hnew : (w1.alloc (.cells #[.int .i64 x] 3)).heap[w1.heap.size]? = some (.cells #[.int .i64 x] 3 (0, 0)) := heap_alloc_new w1 _
  have hf := hown.below hbel
  refine wpList_append_own _ hgd s y 55 ho B 3 t _ 1 8 Tryz.underlying55 h2 h3 h4 h5 rfl (by decide) v l.length _ hs hf ⟨w1.heap.size, 0, none⟩ 1 1 [.int .i64 x] hy rfl ?_ ?_ (by simp only [maxLen]; omega) (by omega) (by simp; omega) fun v' w' h6 h7 _ => ?_
  · intro m u hm
    have hm2 : m < 1 := by simpa using (List.getElem?_eq_some_iff.1 hm).1
    obtain rfl : m = 0 := by omega
    rw [Addr.add_lit, Nat.zero_add, cell_of_row _ _ _ _ _ _ hnew, ← hm]; rfl
  · intro u hu
    simp at hu
    subst hu; rfl
  · refine h v' w' ?_ ((hbel.mono hB).trans ((Below.refl _ _).grown h7 (by simp; omega) fun k hk => (World.ownsRow.lt hf k hk).1))
    have e : iC (l ++ [x]) = iC l ++ [.int .i64 x] := by simp [iC]
    show w'.ownsRow B 3 1 v' (l ++ [x]).length (iC (l ++ [x]))
    rw [e, List.length_append]; exact h6

section
variable {α : Type} {f : α → List Value} {s : Nat}
/-- One element of a row that is known whole. -/
theorem flat_range {w : World} {g k : Nat} {t : TypeId} {L : List α} (hg : w.heap[g]? = some (.cells (L.flatMap f).toArray t (0, 0))) (hf : ∀ x ∈ L, (f x).length = s) (hk : k < L.length) : w.rangeAt g (k * s) (f L[k]) := by
  refine range_row hg ?_
  rw [hf _ (List.getElem_mem hk)]
  exact flat_get hf k hk
/-- A struct into a row of structs that is known whole. -/
theorem wpList_store_flat {ops : Array Oper} {rest : List Oper} {op : Oper} {a : Act} {w : World} {Q : Exit → Act → World → Prop} (hgd : op.guard = none) (T : TypeId) (x y : Operand) (ho : op.op = .store T x y)
    (hs : (Tryz.prog.info? T).map (·.size) = some s) (g k : Nat) (L : List α) (z : α) (t : TypeId) (hx : a.eval x = .pointer (some ⟨g, k * s, none⟩)) (hy : a.eval y = .agg (f z).toArray)
    (hg : w.heap[g]? = some (.cells (L.flatMap f).toArray t (0, 0))) (hk : k < L.length) (hf : ∀ x ∈ L, (f x).length = s) (hz : (f z).length = s) (h1 : ∀ v ∈ f z, v.oneCell' = true)
    (h : ∀ w', Wrote w w' g → w'.heap[g]? = some (.cells ((L.set k z).flatMap f).toArray t (0, 0)) → wpList Tryz.prog ops Q rest (a.put op.dst undef) w') : wpList Tryz.prog ops Q (op :: rest) a w := by
  have hle : k * s + s ≤ L.length * s := by
    have := Nat.mul_le_mul_right s (show k + 1 ≤ L.length from hk)
    rw [Nat.succ_mul] at this; omega
  have hl : k * s + (f z).length ≤ (L.flatMap f).length := by rw [flat_length hf, hz]; exact hle
  refine wpList_store_mid hgd T x y ho g (k * s) (f z).toArray hx hy (there_row hg (by simpa using hl)) (by rw [hs]; simp [hz]) (all_oneCell_toArray h1) ?_
  have e := setCells_row hg hl h1
  rw [show (f z).toArray.toList = f z from rfl, e]
  refine h _ (Wrote.setRow _ _ _) ?_
  rw [setRow_heap _ _ _ _ _ _ hg, flat_set hf k hk z hz]
end
/-- A struct of numbers, out of a range, as a whole. -/
theorem wpList_load_nums {ops : Array Oper} {rest : List Oper} {op : Oper} {a : Act} {w : World} {Q : Exit → Act → World → Prop} (hgd : op.guard = none) (T : TypeId) (x : Operand) (ho : op.op = .load T x)
    (b o : Nat) (hx : a.eval x = .pointer (some ⟨b, o, none⟩)) (l : List Int) (d : TypeDesc) (hc : w.rangeAt b o (iC l))
    (hu : Tryz.prog.underlying T = some d) (hd : d.isRow = true) (hi : (Tryz.prog.info? T).map (·.size) = some l.length)
    (h : wpList Tryz.prog ops Q rest (a.put op.dst (.agg (iC l).toArray)) w) : wpList Tryz.prog ops Q (op :: rest) a w :=
  wpList_load_mid hgd T x ho b o hx (iC l) d hc hu hd (by rw [hi, iC_length]) h
theorem range_low {w w' : World} {b o : Nat} {cs : List Value} (h : w.rangeAt b o cs) (hb : Below w.heap.size w w') (hl : b < w.heap.size) : w'.rangeAt b o cs := fun j v hv => by
  rw [hb.cell (p := ⟨b, o + j, none⟩) hl]; exact h j v hv

/-- Nothing but block g has turned, of what was there. -/
def KeptG (w w' : World) (g : Nat) : Prop := w'.os = w.os ∧ w'.tape = w.tape ∧ w'.output = w.output ∧ w.heap.size ≤ w'.heap.size ∧ ∀ k, k < w.heap.size → k ≠ g → w'.heap[k]? = w.heap[k]?
theorem KeptG.refl (w : World) (g : Nat) : KeptG w w g := ⟨rfl, rfl, rfl, Nat.le_refl _, fun _ _ _ => rfl⟩
theorem KeptG.then {w w' w'' : World} {g : Nat} (h : KeptG w w' g) (hb : Below w'.heap.size w' w'') : KeptG w w'' g :=
  ⟨hb.os.trans h.1, hb.tape.trans h.2.1, hb.output.trans h.2.2.1, Nat.le_trans h.2.2.2.1 hb.size, fun k hk hne => by rw [hb.block k (Nat.lt_of_lt_of_le hk h.2.2.2.1)]; exact h.2.2.2.2 k hk hne⟩
theorem KeptG.wrote {w w' w'' : World} {g : Nat} (h : KeptG w w' g) (hb : Wrote w' w'' g) : KeptG w w'' g :=
  ⟨hb.1.trans h.1, hb.2.1.trans h.2.1, hb.2.2.1.trans h.2.2.1, by rw [hb.2.2.2.1]; exact h.2.2.2.1, fun k hk hne => by rw [hb.2.2.2.2 k hne]; exact h.2.2.2.2 k hk hne⟩
theorem KeptG.below {w w' : World} {g B : Nat} (h : KeptG w w' g) (hB : B ≤ g) (hw : B ≤ w.heap.size) : Below B w w' :=
  ⟨h.1, h.2.1, h.2.2.1, h.2.2.2.1, fun k hk => h.2.2.2.2 k (Nat.lt_of_lt_of_le hk hw) (by omega)⟩
theorem KeptG.cell {w w' : World} {g : Nat} (h : KeptG w w' g) {b o : Nat} (hb : b < w.heap.size) (hne : b ≠ g) : w'.cell? ⟨b, o, none⟩ = w.cell? ⟨b, o, none⟩ := by
  simp only [World.cell?]; rw [h.2.2.2.2 b hb hne]

theorem strs_ne {l m : List Int} (hl : Byt l) (hm : Byt m) (h : l ≠ m) (hi : ∀ {l m : List Int}, Byt l → Byt m → (strOfNums l).data.toList = (strOfNums m).data.toList → l = m) :
    ((strOfNums l).toList != (strOfNums m).toList) = true ∧ ((strOfNums l).toList == (strOfNums m).toList) = false := by
  have hn : ¬ (strOfNums l).toList = (strOfNums m).toList := fun hh => by
    rw [ByteArray.toList_eq, ByteArray.toList_eq] at hh
    exact h (hi hl hm hh)
  exact ⟨by rw [bne_iff_ne]; exact hn, by rw [beq_eq_false_iff_ne]; exact hn⟩
end Go.Proofs.YtkbeencjklgcnaaGreat

/- What stays behind a call that turns its own blocks alone: Chg; slices that are apart from such blocks; a [][]byte of one's own whose elements lie anywhere but in it. -/
namespace Go.Proofs.YtkbeencjklgcnaaGreat
set_option maxRecDepth 100000
open Go.RowKit
set_option linter.unusedVariables false

/-- Of what was there nothing has turned but what P owns; what P' owns is P's, or new. -/
structure Chg (P P' : Nat → Prop) (w w' : World) : Prop where
  os : w'.os = w.os
  tape : w'.tape = w.tape
  output : w'.output = w.output
  size : w.heap.size ≤ w'.heap.size
  keep : ∀ k, k < w.heap.size → ¬ P k → w'.heap[k]? = w.heap[k]? ∧ ¬ P' k
theorem Chg.refl (P : Nat → Prop) (w : World) : Chg P P w w := ⟨rfl, rfl, rfl, Nat.le_refl _, fun _ _ h => ⟨rfl, h⟩⟩
theorem Chg.trans {P P' P'' : Nat → Prop} {a b c : World} (h : Chg P P' a b) (k : Chg P' P'' b c) : Chg P P'' a c :=
  ⟨k.os.trans h.os, k.tape.trans h.tape, k.output.trans h.output, Nat.le_trans h.size k.size, fun i hi hn => by
    obtain ⟨h1, h2⟩ := h.keep i hi hn
    obtain ⟨h3, h4⟩ := k.keep i (Nat.lt_of_lt_of_le hi h.size) h2
    exact ⟨h3.trans h1, h4⟩⟩
theorem Chg.of_below {P : Nat → Prop} {w w' : World} (h : Below w.heap.size w w') : Chg P P w w' := ⟨h.os, h.tape, h.output, h.size, fun k hk hn => ⟨h.block k hk, hn⟩⟩
theorem Chg.below {P P' : Nat → Prop} {w w' : World} (h : Chg P P' w w') {B : Nat} (hB : ∀ k, k < B → k < w.heap.size ∧ ¬ P k) : Below B w w' :=
  ⟨h.os, h.tape, h.output, h.size, fun k hk => (h.keep k (hB k hk).1 (hB k hk).2).1⟩

/-- A slice does not lie in P's blocks. -/
def Apt (P : Nat → Prop) (v : Value) : Prop := ∀ ad n cap, v = .slice (some ad) n cap → 0 < n → ¬ P ad.block
theorem Apt.nil (P : Nat → Prop) : Apt P (.slice none 0 0) := fun ad n cap h => by cases h
theorem Apt.new {P : Nat → Prop} {g off n cap : Nat} (h : ¬ P g) : Apt P (.slice (some ⟨g, off, none⟩) n cap) := fun ad n' cap' e _ => by
  obtain rfl := Option.some.inj (Value.slice.inj e).1
  exact h
theorem BSl.chg {P P' : Nat → Prop} {w w' : World} {v : Value} {l : List Int} (h : BSl w v l) (ha : Apt P v) (hc : Chg P P' w w') : BSl w' v l ∧ Apt P' v := by
  rcases h.2 with ⟨hv, hl⟩ | ⟨a, cap, hv, hcap, hcells⟩
  · exact ⟨⟨h.1, .inl ⟨hv, hl⟩⟩, by rw [hv]; exact Apt.nil _⟩
  · refine ⟨⟨h.1, .inr ⟨a, cap, hv, hcap, fun j hj => ?_⟩⟩, fun ad n cap' e hn => ?_⟩
    · obtain ⟨h1, h2, h3⟩ := hcells j hj
      have hk := hc.keep a.block h1 (ha _ _ _ hv (by omega))
      exact ⟨Nat.lt_of_lt_of_le h1 hc.size, h2, by rw [World.cell?_of_block (a := ⟨a.block, a.off + j, none⟩) (w := w) hk.1]; exact h3⟩
    · obtain ⟨rfl, rfl⟩ : ad = a ∧ n = l.length := by
        rw [hv] at e
        exact ⟨(Option.some.inj (Value.slice.inj e).1).symm, (Value.slice.inj e).2.1.symm⟩
      exact (hc.keep ad.block (hcells 0 hn).1 (ha _ _ _ hv hn)).2
/-- A []int, apart from P's blocks. -/
theorem ISl.chg {P P' : Nat → Prop} {w w' : World} {v : Value} {l : List Int} (h : ISl w v l) (ha : Apt P v) (hc : Chg P P' w w') : ISl w' v l ∧ Apt P' v := by
  rcases h with ⟨hv, hl⟩ | ⟨a, cap, hv, hcells⟩
  · exact ⟨.inl ⟨hv, hl⟩, by rw [hv]; exact Apt.nil _⟩
  · refine ⟨.inr ⟨a, cap, hv, fun j hj => ?_⟩, fun ad n cap' e hn => ?_⟩
    · obtain ⟨h1, h2, h3⟩ := hcells j hj
      have hk := hc.keep a.block h1 (ha _ _ _ hv (by omega))
      exact ⟨Nat.lt_of_lt_of_le h1 hc.size, h2, by rw [World.cell?_of_block (a := ⟨a.block, a.off + j, none⟩) (w := w) hk.1]; exact h3⟩
    · obtain ⟨rfl, rfl⟩ : ad = a ∧ n = l.length := by
        rw [hv] at e
        exact ⟨(Option.some.inj (Value.slice.inj e).1).symm, (Value.slice.inj e).2.1.symm⟩
      exact (hc.keep ad.block (hcells 0 hn).1 (ha _ _ _ hv hn)).2
/-- A [][]byte that reads as L, itself and its elements apart from P's blocks. -/
def BBa (w : World) (P : Nat → Prop) (v : Value) (L : List (List Int)) : Prop :=
  (v = .slice none 0 0 ∧ L = []) ∨ ∃ a cap, v = .slice (some a) L.length cap ∧ L.length ≤ cap ∧ ∀ j, j < L.length → (a.block < w.heap.size ∧ ¬ P a.block) ∧ a.spot = none ∧
    ∃ u, w.cell? ⟨a.block, a.off + j, none⟩ = some u ∧ BSl w u (L.getD j []) ∧ Apt P u
theorem BBa.sl {w : World} {P : Nat → Prop} {v : Value} {L : List (List Int)} (h : BBa w P v L) : BBSl w v L := by
  rcases h with h | ⟨a, cap, hv, hcap, hc⟩
  · exact .inl h
  · refine .inr ⟨a, cap, hv, hcap, fun j hj => ?_⟩
    obtain ⟨h1, h2, u, h3, h4, _⟩ := hc j hj
    exact ⟨h1.1, h2, u, h3, h4⟩
theorem BBa.chg {P P' : Nat → Prop} {w w' : World} {v : Value} {L : List (List Int)} (h : BBa w P v L) (hc : Chg P P' w w') : BBa w' P' v L := by
  rcases h with h | ⟨a, cap, hv, hcap, hcells⟩
  · exact .inl h
  · refine .inr ⟨a, cap, hv, hcap, fun j hj => ?_⟩
    obtain ⟨⟨h1, h1'⟩, h2, u, h3, h4, h5⟩ := hcells j hj
    obtain ⟨k1, k2⟩ := hc.keep a.block h1 h1'
    obtain ⟨m1, m2⟩ := h4.chg h5 hc
    exact ⟨⟨Nat.lt_of_lt_of_le h1 hc.size, k2⟩, h2, u, by rw [World.cell?_of_block (a := ⟨a.block, a.off + j, none⟩) (w := w) k1]; exact h3, m1, m2⟩
theorem BBa.nil (w : World) (P : Nat → Prop) : BBa w P (.slice none 0 0) [] := .inl ⟨rfl, rfl⟩
/-- What was there ahead of the disk is apart from it. -/
theorem BSl.apt_low {w : World} {B : Nat} {P : Nat → Prop} {v : Value} {l : List Int} (h : BSl w v l) (hB : w.heap.size ≤ B) (hP : ∀ k, P k → B ≤ k) : Apt P v := by
  intro ad n cap e hn hp
  rcases h.2 with ⟨hv, _⟩ | ⟨a, c, hv, _, hc⟩
  · rw [hv] at e; cases e
  · rw [hv] at e
    obtain ⟨rfl, rfl⟩ : a = ad ∧ l.length = n := ⟨Option.some.inj (Value.slice.inj e).1, (Value.slice.inj e).2.1⟩
    have := (hc 0 hn).1
    have := hP _ hp
    omega
theorem ISl.apt_low {w : World} {B : Nat} {P : Nat → Prop} {v : Value} {l : List Int} (h : ISl w v l) (hB : w.heap.size ≤ B) (hP : ∀ k, P k → B ≤ k) : Apt P v := by
  intro ad n cap e hn hp
  rcases h with ⟨hv, _⟩ | ⟨a, c, hv, hc⟩
  · rw [hv] at e; cases e
  · rw [hv] at e
    obtain ⟨rfl, rfl⟩ : a = ad ∧ l.length = n := ⟨Option.some.inj (Value.slice.inj e).1, (Value.slice.inj e).2.1⟩
    have := (hc 0 hn).1
    have := hP _ hp
    omega
theorem BBSl.apart_low {w : World} {B : Nat} {P : Nat → Prop} {v : Value} {L : List (List Int)} (h : BBSl w v L) (hB : w.heap.size ≤ B) (hP : ∀ k, P k → B ≤ k) : BBa w P v L := by
  rcases h with h | ⟨a, cap, hv, hcap, hc⟩
  · exact .inl h
  · refine .inr ⟨a, cap, hv, hcap, fun j hj => ?_⟩
    obtain ⟨h1, h2, u, h3, h4⟩ := hc j hj
    exact ⟨⟨h1, fun hp => by have := hP _ hp; omega⟩, h2, u, h3, h4, h4.apt_low hB hP⟩
/-- A [][]byte of one's own, from block B on, that reads as L: its elements apart from P's blocks, and from its own. -/
def BBo (w : World) (B : Nat) (P : Nat → Prop) (v : Value) (L : List (List Int)) : Prop :=
  ∃ vs : List Value, vs.length = L.length ∧ (∀ j, j < L.length → BSl w (vs.getD j undef) (L.getD j []) ∧ Apt P (vs.getD j undef) ∧ Apt (fun k => v.ownBlock = some k) (vs.getD j undef)) ∧ w.ownsRow B 62 1 v L.length vs
theorem BBo.nil (w : World) (B : Nat) (P : Nat → Prop) : BBo w B P (.slice none 0 0) [] := ⟨[], rfl, fun j hj => absurd hj (Nat.not_lt_zero _), World.ownsRow_nil _ _ _ _⟩
theorem BBo.below {w w' : World} {B : Nat} {P : Nat → Prop} {v : Value} {L : List (List Int)} (h : BBo w B P v L) (hb : Below w.heap.size w w') : BBo w' B P v L := by
  obtain ⟨vs, hl, hr, ho⟩ := h
  refine ⟨vs, hl, fun j hj => ⟨(hr j hj).1.below hb, (hr j hj).2⟩, ho.1, ?_⟩
  rcases ho.2 with h | ⟨g, cap, cur, hv, hg, hh, r⟩
  · exact .inl h
  · exact .inr ⟨g, cap, cur, hv, hg, by rw [hb.block g (Array.getElem?_eq_some_iff.1 hh).1]; exact hh, r⟩
theorem BBo.own {w : World} {B : Nat} {P : Nat → Prop} {v : Value} {L : List (List Int)} (h : BBo w B P v L) (k : Nat) (hk : v.ownBlock = some k) : B ≤ k ∧ k < w.heap.size := by
  obtain ⟨vs, _, _, ho⟩ := h
  exact World.ownsRow.lt ho k hk
theorem BBo.bba {w : World} {B : Nat} {P : Nat → Prop} {v : Value} {L : List (List Int)} (h : BBo w B P v L) (hP : ∀ k, P k → k < B) : BBa w P v L := by
  obtain ⟨vs, hl, hr, ho⟩ := h
  rcases ho.2 with ⟨hv, hl0⟩ | ⟨g, cap, cur, hv, hg, hh, hnc, hcm, hcs, ht⟩
  · exact .inl ⟨hv, List.eq_nil_of_length_eq_zero hl0⟩
  · refine .inr ⟨_, cap, hv, hnc, fun j hj => ⟨⟨(Array.getElem?_eq_some_iff.1 hh).1, fun hp => by have := hP g hp; omega⟩, rfl, vs.getD j undef, ?_, (hr j hj).1, (hr j hj).2.1⟩⟩
    show w.cell? ⟨g, 0 + j, none⟩ = _
    rw [Nat.zero_add, cell_of_row _ _ _ _ _ _ hh]
    have : (cur.toList.take (L.length * 1))[j]? = vs[j]? := by rw [ht]
    rw [List.getElem?_take, if_pos (by omega)] at this
    simpa [List.getD_eq_getElem?_getD, show j < vs.length by omega] using this
theorem Apt.of_lt {w : World} {v : Value} {l : List Int} (h : BSl w v l) {Q : Nat → Prop} (hQ : ∀ k, Q k → w.heap.size ≤ k) : Apt Q v := by
  intro ad n cap e hn hq
  rcases h.2 with ⟨hv, _⟩ | ⟨a, c, hv, _, hc⟩
  · rw [hv] at e; cases e
  · rw [hv] at e
    obtain ⟨rfl, rfl⟩ : a = ad ∧ l.length = n := ⟨Option.some.inj (Value.slice.inj e).1, (Value.slice.inj e).2.1⟩
    have := (hc 0 hn).1
    have := hQ _ hq
    omega
/-- append of one []byte that is apart from it (its cell lies in the block that was made last, at q). -/
theorem wpList_append_bbo (S : TypeId) (hS : Tryz.prog.underlying S = some (.slice 62)) (w1 : World) (x : Value) (l : List Int) {ops : Array Oper} {rest : List Oper} {o : Oper} {a : Act} {Q : Exit → Act → World → Prop} (hgd : o.guard = none) (s y : Operand)
    (ho : o.op = .call { callee := .builtin .append, args := #[s, y], argTypes := #[S, S] })
    (B : Nat) (P : Nat → Prop) (v : Value) (L : List (List Int)) (hs : a.eval s = v) (hown : BBo w1 B P v L) (hx : BSl w1 x l) (hxP : Apt P x) (hxo : Apt (fun k => v.ownBlock = some k) x) (q : Nat) (hy : a.eval y = .slice (some ⟨q, 0, none⟩) 1 1) (hq : q = w1.heap.size) (hlen : L.length ≤ 100000) (hB : B ≤ w1.heap.size)
    (h : ∀ v' w', BBo w' B P v' (L ++ [l]) → Below B w1 w' → Chg (fun k => v.ownBlock = some k) (fun k => v'.ownBlock = some k) w1 w' → wpList Tryz.prog ops Q rest (a.put o.dst v') w') : wpList Tryz.prog ops Q (o :: rest) a (w1.alloc (.cells #[x] 62)) := by
  subst hq
  obtain ⟨t, h2, h3, h4, h5⟩ := info_parts infoBy
  have hbel : Below w1.heap.size w1 (w1.alloc (.cells #[x] 62)) := below_box _ _
  have hf := hown.below hbel
  obtain ⟨vs, hvl, hve, how⟩ := hf
  have hnew : (w1.alloc (.cells #[x] 62)).heap[w1.heap.size]? = some (.cells #[x] 62 (0, 0)) := heap_alloc_new w1 _
  obtain ⟨v', w', hrun, h6, h7, _, h8⟩ := run_append_own_at (P := Tryz.prog) (w1.alloc (.cells #[x] 62)) B S o.type 62 t _ 1 24 hS h2 h3 h4 h5 rfl (by decide) v L.length vs how ⟨w1.heap.size, 0, none⟩ 1 1 [x] rfl (fun j u hj => by
    have hj0 : j = 0 := by have := (List.getElem?_eq_some_iff.1 hj).1; simp at this; omega
    subst hj0
    rw [Addr.add_lit, Nat.zero_add, cell_of_row _ _ _ _ _ _ hnew, ← hj]; rfl) (fun u hu => by
    simp at hu
    subst hu
    exact hx.one) (by simp only [maxLen]; omega) (by omega) (by simp; omega)
  have hsz : (w1.alloc (.cells #[x] 62)).heap.size = w1.heap.size + 1 := by simp
  have hc : Chg (fun k => v.ownBlock = some k) (fun k => v'.ownBlock = some k) (w1.alloc (.cells #[x] 62)) w' := by
    refine ⟨h7.os, h7.tape, h7.output, h7.size, fun k hk hn => ⟨h7.block k hk (fun e => hn e.symm), fun e => ?_⟩⟩
    rcases h8 with h8 | h8
    · rw [h8] at e; exact hn e
    · rw [h8] at e
      have := Option.some.inj e
      omega
  have hc0 : Chg (fun k => v.ownBlock = some k) (fun k => v'.ownBlock = some k) w1 w' := (Chg.of_below hbel).trans hc
  refine wpList_plain hgd fun K hK => ?_
  unfold Oper.wp execOp
  simp only [ho, resolve, invoke, builtin, Sem.run_bind, Sem.run_pure, Result.andThen_ok, List.map_toArray, List.map_cons, List.map_nil, hs, hy, hrun]
  refine hK _ _ (h v' w' ⟨vs ++ [x], by simp [hvl], fun j hj => ?_, by rw [List.length_append]; exact h6⟩ ((hbel.mono hB).trans ((Below.refl _ _).grown h7 (by rw [hsz]; omega) fun k hk => (World.ownsRow.lt how k hk).1)) hc0)
  rw [List.length_append] at hj
  by_cases e : j < L.length
  · obtain ⟨m1, m2, m3⟩ := hve j e
    obtain ⟨n1, n2⟩ := m1.chg m3 hc
    rw [List.getD_eq_getElem?_getD, List.getD_eq_getElem?_getD, List.getElem?_append_left (by omega), List.getElem?_append_left e, ← List.getD_eq_getElem?_getD, ← List.getD_eq_getElem?_getD]
    exact ⟨n1, m2, n2⟩
  · obtain rfl : j = L.length := by simp at hj; omega
    obtain ⟨n1, n2⟩ := hx.chg hxo hc0
    have e1 : (vs ++ [x]).getD L.length undef = x := by rw [← hvl]; simp [List.getD_eq_getElem?_getD]
    have e2 : (L ++ [l]).getD L.length [] = l := by simp [List.getD_eq_getElem?_getD]
    rw [e1, e2]
    exact ⟨n1, hxP, n2⟩
end Go.Proofs.YtkbeencjklgcnaaGreat

/- Layer 12's reference: contract of Give. -/
namespace Go.Proofs.YtkbeencjklgcnaaGreat
set_option maxRecDepth 100000
open Go.RowKit
set_option linter.unusedVariables false

section
variable {w : World} {M : Nat → Prop} {p : Value} {n : Int} {O : List (Int × Int)}
theorem RSp.row (h : RSp w M p n O) (h0 : 0 < O.length) : ∃ b g cap cur, p = .pointer (some ⟨b, 0, none⟩) ∧ w.heap[b]? = some (.cells #[.int .i64 n, .slice (some ⟨g, 0, none⟩) O.length cap] 37 (0, 0)) ∧ w.heap[g]? = some (.cells cur 32 (0, 0)) ∧ cur.toList.take (O.length * 2) = ownC O ∧ O.length ≤ cap ∧ cap ≤ maxLen ∧ cur.size = cap * 2 ∧ OwB O ∧ ∀ k, M k ↔ k = b ∨ k = g := by
  obtain ⟨b, v, rfl, hb, ⟨hB, ho⟩, hM⟩ := h
  rcases ho.2 with ⟨_, e0⟩ | ⟨g, cap, cur, rfl, _, hg, hnc, hcm, hcs, ht⟩
  · omega
  · refine ⟨b, g, cap, cur, rfl, hb, hg, ht, hnc, hcm, hcs, hB, fun k => (hM k).trans ?_⟩
    simp only [Value.ownBlock, Option.some.injEq]
    exact ⟨fun h => h.imp id Eq.symm, fun h => h.imp id Eq.symm⟩
theorem RSp.stored {b g cap : Nat} {cur' : Array Value} (hb : w.heap[b]? = some (.cells #[.int .i64 n, .slice (some ⟨g, 0, none⟩) O.length cap] 37 (0, 0))) {cur : Array Value} (hg0 : w.heap[g]? = some (.cells cur 32 (0, 0))) (hnc : O.length ≤ cap) (hcm : cap ≤ maxLen) (hB : OwB O) (hM : ∀ k, M k ↔ k = b ∨ k = g) {w' : World} (hw : Wrote w w' g) (hg : w'.heap[g]? = some (.cells cur' 32 (0, 0))) (hs : cur'.size = cap * 2)
    {k : Nat} {i j : Int} (ht : cur'.toList.take (O.length * 2) = ownC (O.set k (i, j))) (hij : (0 ≤ i ∧ i ≤ 65535) ∧ (0 ≤ j ∧ j ≤ 65535)) : RSp w' M (.pointer (some ⟨b, 0, none⟩)) n (O.set k (i, j)) ∧ Chg M M w w' := by
  have hne : b ≠ g := fun e => by
    rw [e, hg0] at hb
    injection hb with hb
    injection hb with _ hb _
    exact absurd hb (by decide)
  refine ⟨⟨b, .slice (some ⟨g, 0, none⟩) O.length cap, rfl, (hw.2.2.2.2 b hne).trans hb, ⟨?_, ?_⟩, ?_⟩, ⟨hw.1, hw.2.1, hw.2.2.1, by rw [hw.2.2.2.1]; exact Nat.le_refl _, fun x hx hn => ⟨hw.2.2.2.2 x fun e => hn ((hM x).2 (.inr e)), hn⟩⟩⟩
  · intro x
    rw [List.getD_eq_getElem?_getD, List.getElem?_set]
    by_cases e : k = x
    · rw [if_pos e]
      split
      · exact hij
      · exact ⟨by decide, by decide⟩
    · rw [if_neg e, ← List.getD_eq_getElem?_getD]
      exact hB x
  · rw [List.length_set]
    exact ⟨by rw [ownC_length, List.length_set], .inr ⟨g, cap, cur', rfl, Nat.zero_le _, hg, hnc, hcm, hs, ht⟩⟩
  · intro x
    rw [hM x]
    simp only [Value.ownBlock, Option.some.injEq]
    exact ⟨fun h => h.imp id Eq.symm, fun h => h.imp id Eq.symm⟩
end
end Go.Proofs.YtkbeencjklgcnaaGreat

/- Layer 12's reference: contract of Give. -/
namespace Go.Proofs.YtkbeencjklgcnaaGreat
set_option maxRecDepth 100000
open Go.RowKit
set_option linter.unusedVariables false

section
variable {w : World} {M : Nat → Prop} {p : Value} {n : Int} {O : List (Int × Int)}
theorem rSpGive_no (h : RSp w M p n O) (h0 : 0 < O.length) (hO : O.length ≤ 100000) {q : Int} (hq : -9223372036854775808 ≤ q ∧ q ≤ 9223372036854775807) (hno : q < 0 ∨ (O.length : Int) ≤ q ∨ fixB q = true ∨ freeJ O q.toNat = true) : Calls Tryz.prog 30 #[p, .int .i64 q] w fun e w' => e = .returned (.int .i64 1) ∧ w = w' := by
  have KF := Lib.hid (rFixed_any q hq.2 w)
  obtain ⟨bp, g, off, cap, rfl, c0, c1, hc⟩ := h.cells h0
  have HC := Lib.hid hc
  clear h hc
  by_cases h1 : q < 0
  · clear hno hO h0
    go_enter Tryz.func30, Tryz.ntmps30
    go_wp2
    go_ret
    exact ⟨rfl, rfl⟩
  by_cases h2 : (O.length : Int) ≤ q
  · obtain ⟨m, hm⟩ : ∃ m, m = O.length := ⟨_, rfl⟩
    rw [← hm] at c1 h2
    clear hno hO h0 hm
    go_enter Tryz.func30, Tryz.ntmps30
    go_wp2
    go_ret
    exact ⟨rfl, rfl⟩
  obtain ⟨k, rfl⟩ : ∃ k : Nat, q = k := ⟨q.toNat, by omega⟩
  obtain ⟨d0, d1⟩ := HC.out k (by omega)
  obtain ⟨x, hx⟩ : ∃ x, x = (O.getD k (0, 0)).1 := ⟨_, rfl⟩
  have HF : freeJ O k = decide (x = 0) := by unfold freeJ; rw [hx]
  rw [Int.toNat_natCast, HF] at hno
  rw [← hx] at d0
  obtain ⟨m, hm⟩ : ∃ m, m = O.length := ⟨_, rfl⟩
  rw [← hm] at c1 h2 h0 hO hno
  cases hfx : fixB (k : Int)
  · rw [hfx] at KF hno
    have hx0 : x = 0 := by
      rcases hno with h | h | h | h
      · omega
      · omega
      · cases h
      · simpa using h
    subst hx0
    clear hno hm hx HF hfx
    go_enter Tryz.func30, Tryz.ntmps30
    go_wp2_with (go_at_call 47; (with_reducible refine KF.out.mono ?_); rintro e w' ⟨rfl, rfl⟩)
    go_ret
    exact ⟨rfl, rfl⟩
  · rw [hfx] at KF
    clear hno hm hx HF hfx
    go_enter Tryz.func30, Tryz.ntmps30
    go_wp2_with (go_at_call 47; (with_reducible refine KF.out.mono ?_); rintro e w' ⟨rfl, rfl⟩)
    go_ret
    exact ⟨rfl, rfl⟩
theorem rSpGive_yes (h : RSp w M p n O) (hO : O.length ≤ 100000) {k : Nat} (hk : k < O.length) (hx : fixB (k : Int) = false) (hf : freeJ O k = false) : Calls Tryz.prog 30 #[p, .int .i64 k] w fun e w' => e = .returned (.int .i64 0) ∧ RSp w' M p n (O.set k (0, 0)) ∧ Chg M M w w' := by
  have KF := Lib.hid (rFixed_any (k : Int) (by omega) w)
  rw [hx] at KF
  obtain ⟨bp, g, off, cap, e1, c0, c1, hc⟩ := h.cells (by omega)
  obtain ⟨b, g', cap', cur, rfl, hb, hg, ht, hnc, hcm, hcs, hB, hM⟩ := h.row (by omega)
  obtain rfl : b = bp := by injection e1 with e1; injection e1 with e1; injection e1 with e1
  have c1' : w.cell? ⟨b, 1, none⟩ = some (.slice (some ⟨g', 0, none⟩) O.length cap') := by rw [cell_of_row _ _ _ _ _ _ hb]; rfl
  obtain ⟨rfl, rfl, rfl⟩ : g = g' ∧ off = 0 ∧ cap = cap' := by
    rw [c1'] at c1
    injection c1 with c1
    injection c1 with a1 _ a3
    injection a1 with a1
    injection a1 with a1 a2
    exact ⟨a1.symm, a2.symm, a3.symm⟩
  obtain ⟨d0, d1⟩ := hc k hk
  rw [Nat.zero_add] at d0 d1
  obtain ⟨x, hxx⟩ : ∃ x, x = (O.getD k (0, 0)).1 := ⟨_, rfl⟩
  have HF : freeJ O k = decide (x = 0) := by unfold freeJ; rw [hxx]
  rw [← hxx] at d0
  rw [HF] at hf
  have hx0 : (x == 0) = false := by simpa using hf
  have HFIN := Lib.hid (fun (w' : World) (cur' : Array Value) (hw : Wrote w w' g) (hg' : w'.heap[g]? = some (.cells cur' 32 (0, 0))) (hs : cur'.size = cur.size) (ht' : cur'.toList.take (O.length * 2) = ownC (O.set k (0, 0))) => RSp.stored hb hg hnc hcm hB hM hw hg' (hs.trans hcs) ht' ⟨by decide, by decide⟩)
  have HG := Lib.hid hg
  have HT := Lib.hid ht
  have HS : Hid (O.length * 2 ≤ cur.size) := Lib.hid (by omega)
  have HK := Lib.hid hk
  obtain ⟨m, hm⟩ : ∃ m, m = O.length := ⟨_, rfl⟩
  have hkm : k < m := by omega
  have hm1 : m ≤ 100000 := by omega
  rw [← hm] at c1
  clear hm hxx HF hf hb hg ht hnc hcm hcs hB hM hc h hO hk hx e1 c1'
  go_enter Tryz.func30, Tryz.ntmps30
  go_wp2_with (first
    | (go_at_call 47; (with_reducible refine KF.out.mono ?_); rintro e w' ⟨rfl, rfl⟩)
    | (with_reducible refine wpList_store_owp rfl (.tmp 37) (.tmp 36) rfl g k O cur 0 0 rfl rfl HG.out HT.out HS.out HK.out ?_; intro w2 cur2 hw2 hg2 hs2 ht2
       have HH := Lib.hid (HFIN.out w2 cur2 hw2 hg2 hs2 ht2)
       clear hw2 hg2 hs2 ht2))
  go_ret
  exact ⟨rfl, HH.out.1, HH.out.2⟩
end
end Go.Proofs.YtkbeencjklgcnaaGreat
