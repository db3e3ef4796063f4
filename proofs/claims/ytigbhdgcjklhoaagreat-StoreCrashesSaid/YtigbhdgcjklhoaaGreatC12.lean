/- The law's functions of layer 10: fits, inJournal, blocks, same. -/
import Derived.Laws.Rows
import Derived.BigRegion
import Derived.StillTailTactics
import Derived.Test.YtigbhdgcjklhoaaGreatC11
import Derived.Test.YtigbhdgcjklhoaaGreatC9
namespace Go.Proofs.YtigbhdgcjklhoaaGreat
set_option maxRecDepth 100000
open Go.RowKit
set_option linter.unusedVariables false

/-- Has a change blocks of the journal? -/
def inJS (N : List Int) : Bool := (List.range N.length).any fun k => decide (3 ≤ N.getD k 0) && decide (N.getD k 0 < 43)
theorem inJS_no (N : List Int) : inJS N = false ↔ ∀ k, k < N.length → ¬ (3 ≤ N.getD k 0 ∧ N.getD k 0 < 43) := by
  unfold inJS
  rw [List.any_eq_false]
  constructor
  · intro h k hk hc
    exact h k (List.mem_range.2 hk) (by rw [Bool.and_eq_true, decide_eq_true_eq, decide_eq_true_eq]; exact hc)
  · intro h k hk
    have := h k (List.mem_range.1 hk)
    simp only [Bool.and_eq_true, decide_eq_true_eq]
    exact this
theorem inJS_yes {N : List Int} (k : Nat) (hk : k < N.length) (h : 3 ≤ N.getD k 0 ∧ N.getD k 0 < 43) : inJS N = true := by
  cases e : inJS N
  · exact absurd h ((inJS_no N).1 e k hk)
  · rfl
end Go.Proofs.YtigbhdgcjklhoaaGreat

/- The law's functions of layer 10: same, sameOpen, want. -/
namespace Go.Proofs.YtigbhdgcjklhoaaGreat
set_option maxRecDepth 100000
open Go.RowKit
set_option linter.unusedVariables false

/-- Alike, but for the journal's. -/
def openS (L M : List (List Int)) (k : Nat) : Prop := ∀ i, i < k → OutJ i → L.getD i [] = M.getD i []
end Go.Proofs.YtigbhdgcjklhoaaGreat

/- The law's few, Few, Theirs, awake. -/
namespace Go.Proofs.YtigbhdgcjklhoaaGreat
set_option maxRecDepth 100000
open Go.RowKit
set_option linter.unusedVariables false

/-- How many bytes the first k have; is it few? -/
def sumK9 (L : List (List Int)) : Nat → Int
  | 0 => 0
  | k + 1 => sumK9 L k + ((L.getD k []).length : Int)
def okF9 (L : List (List Int)) (k : Nat) : Bool := decide (k < 60) && decide (sumK9 L (k + 1) ≤ 20000)
def fewS (L : List (List Int)) : Bool := (List.range L.length).all fun k => okF9 L k
def FewS (N : List Int) (D : List (List Int)) : Bool := fewS D && decide (N.length ≤ 60)
theorem fewS_iff (L : List (List Int)) : fewS L = true ↔ ∀ k, k < L.length → okF9 L k = true := by
  unfold fewS
  rw [List.all_eq_true]
  exact ⟨fun h i hi => h i (List.mem_range.2 hi), fun h i hi => h i (List.mem_range.1 hi)⟩
theorem fewS_no {L : List (List Int)} (k : Nat) (hk : k < L.length) (h : okF9 L k = false) : fewS L = false := by
  cases e : fewS L
  · rfl
  · rw [(fewS_iff L).1 e k hk] at h; cases h
theorem fewS_len {L : List (List Int)} (h : fewS L = true) : L.length ≤ 60 := by
  by_cases h0 : L.length = 0
  · omega
  · have := (fewS_iff L).1 h (L.length - 1) (by omega)
    unfold okF9 at this
    rw [Bool.and_eq_true, decide_eq_true_eq] at this
    omega
theorem sumK9_pos (L : List (List Int)) (k : Nat) : 0 ≤ sumK9 L k := by
  induction k with
  | zero => exact Int.le_refl _
  | succ k ih => unfold sumK9; omega
theorem okF9_of {L : List (List Int)} {k : Nat} (h : ∀ j, j < k → okF9 L j = true) : k ≤ 60 ∧ sumK9 L k ≤ 20000 := by
  cases k with
  | zero => exact ⟨by omega, by unfold sumK9; omega⟩
  | succ k =>
    have := h k (by omega)
    unfold okF9 at this
    rw [Bool.and_eq_true, decide_eq_true_eq, decide_eq_true_eq] at this
    exact ⟨by omega, this.2⟩
end Go.Proofs.YtigbhdgcjklhoaaGreat

/- TxnPacks: the walk of the law itself. -/
namespace Go.Proofs.YtigbhdgcjklhoaaGreat
set_option maxRecDepth 100000
open Go.RowKit
set_option linter.unusedVariables false

theorem bbr_empty (w : World) (B : Nat) (hB : B ≤ w.heap.size) : BBR (w.alloc (.cells #[] 59)) B (.slice (some ⟨w.heap.size, 0, none⟩) 0 0) [] :=
  ⟨[], rfl, fun j hj => absurd hj (Nat.not_lt_zero _), rfl, .inr ⟨w.heap.size, 0, #[], rfl, hB, heap_alloc_new w _, Nat.le_refl _, by decide, rfl, rfl⟩⟩
/-- s[:hi] of a [][]byte. -/
theorem wpList_slice_bbh {w : World} {ops : Array Oper} {rest : List Oper} {o : Oper} {a : Act} {Q : Exit → Act → World → Prop} (hgd : o.guard = none) (x hi : Operand) (ho : o.op = .slice 34 x none (some hi) none)
    (b off n cap : Nat) (hx : a.eval x = .slice (some ⟨b, off, none⟩) n cap) (H : Int) (hh : a.eval hi = .int .i64 H) (h : Nat) (hH : H = h) (h2 : h ≤ cap)
    (hK : wpList Tryz.prog ops Q rest (a.put o.dst (.slice (some ⟨b, off, none⟩) h cap)) w) : wpList Tryz.prog ops Q (o :: rest) a w := by
  subst hH
  obtain ⟨i, g2, g3, g4, g5⟩ := info_parts infoBy
  have ee : Tryz.prog.elem 34 = 59 := by kernel_rfl
  have hs : (sizeOf 59).run Tryz.prog w = .ok 1 w := by simp [sizeOf, typeInfo, g2, g4]
  have hrun : (Instr.sliceAt 34 (.slice (some ⟨b, off, none⟩) n cap) none (some (.int .i64 (h : Int))) none).run Tryz.prog w = .ok (.slice (some ⟨b, off, none⟩) h cap) w := by
    rw [run_sliceAt_slice w 34 _ _ _ _ (by rw [ee]; exact Tryz.underlying34), run_slice_h w 34 _ n cap (by rw [ee]; exact Tryz.underlying34) .i64 (h : Int) (by omega) (by omega)]
    simp [sliced, ee, hs, Addr.add_lit]
  refine wpList_plain hgd fun K hK' => ?_
  unfold Oper.wp execOp
  simp only [ho, hx, hh, Option.map_some, Option.map_none, hrun, Sem.run_bind, Sem.run_pure, Result.andThen_ok]
  exact hK' _ _ hK
theorem BBSl.take {w : World} {b off cap : Nat} {L : List (List Int)} (h : BBSl w (.slice (some ⟨b, off, none⟩) L.length cap) L) (k : Nat) (hk : k ≤ L.length) : BBSl w (.slice (some ⟨b, off, none⟩) k cap) (L.take k) := by
  have := h.mid 0 k (by omega) (L.take k) (by rw [List.drop_zero])
  rw [Nat.add_zero, Nat.sub_zero] at this
  exact this
end Go.Proofs.YtigbhdgcjklhoaaGreat

/- The law's functions of layer 10: want. -/
namespace Go.Proofs.YtigbhdgcjklhoaaGreat
set_option maxRecDepth 100000
open Go.RowKit
set_option linter.unusedVariables false

theorem BBR.row {w : World} {B g n cap : Nat} {L : List (List Int)} (h : BBR w B (.slice (some ⟨g, 0, none⟩) n cap) L) : ∃ cur : Array Value, w.heap[g]? = some (.cells cur 59 (0, 0)) ∧ L.length ≤ cur.size ∧ B ≤ g := by
  obtain ⟨vs, hl, hr, ho⟩ := h
  rcases ho.2 with ⟨hv, _⟩ | ⟨g', cap', cur, hv, hg, hh, hnc, hcm, hcs, ht⟩
  · simp at hv
  · obtain rfl : g = g' := by have := Option.some.inj (Value.slice.inj hv).1; injection this
    exact ⟨cur, hh, by omega, hg⟩
theorem BBR.set {w : World} {B g n cap : Nat} {L : List (List Int)} (h : BBR w B (.slice (some ⟨g, 0, none⟩) n cap) L) {x : Nat} (hx : x < L.length) {y : Value} {l : List Int} (hy : BElt w B y l) : BBR (w.setCell ⟨g, x, none⟩ y) B (.slice (some ⟨g, 0, none⟩) n cap) (L.set x l) := by
  obtain ⟨vs, hl, hr, ho⟩ := h
  rcases ho.2 with ⟨hv, _⟩ | ⟨g', cap', cur, hv, hg, hh, hnc, hcm, hcs, ht⟩
  · simp at hv
  · obtain rfl : g = g' := by have := Option.some.inj (Value.slice.inj hv).1; injection this
    have hw := Wrote.setCell w g x y
    have hgr : w.grownBy (w.setCell ⟨g, x, none⟩ y) (some g) :=
      ⟨hw.1, hw.2.1, hw.2.2.1, by rw [hw.2.2.2.1]; exact Nat.le_refl _, fun b hb hne => hw.2.2.2.2 b (fun e => hne (by rw [e]))⟩
    have hrow : ∀ g', some g = some g' → B ≤ g' ∧ ∃ cur, w.heap[g']? = some (.cells cur 59 (0, 0)) := fun g' e => by
      obtain rfl := Option.some.inj e
      exact ⟨hg, _, hh⟩
    refine ⟨vs.set x y, by rw [List.length_set, List.length_set]; exact hl, fun j hj => ?_, by rw [List.length_set, List.length_set]; exact ho.1, .inr ⟨g, cap', cur.setIfInBounds x y, by rw [List.length_set]; exact hv, hg, ?_, by rw [List.length_set]; exact hnc, hcm, by rw [Array.size_setIfInBounds]; exact hcs, ?_⟩⟩
    · rw [List.length_set] at hj
      by_cases e : j = x
      · subst e
        have e1 : (vs.set j y).getD j undef = y := by simp [List.getD_eq_getElem?_getD, hl, hx]
        have e2 : (L.set j l).getD j [] = l := by simp [List.getD_eq_getElem?_getD, hx]
        rw [e1, e2]
        exact hy.grown hrow hgr
      · have e1 : (vs.set x y).getD j undef = vs.getD j undef := by rw [List.getD_eq_getElem?_getD, List.getElem?_set_ne (by omega), ← List.getD_eq_getElem?_getD]
        have e2 : (L.set x l).getD j [] = L.getD j [] := by rw [List.getD_eq_getElem?_getD, List.getElem?_set_ne (by omega), ← List.getD_eq_getElem?_getD]
        rw [e1, e2]
        exact (hr j hj).grown hrow hgr
    · exact heap_setCell_same w g x _ _ _ hh
    · rw [List.length_set, Array.toList_setIfInBounds, List.take_set, ht]
theorem homeW_take (N : List Int) (D : List (List Int)) (k : Nat) (hk : k < N.length) (L : List (List Int)) : appU ((homeW N D).take (k + 1)) L = (appU ((homeW N D).take k) L).set (N.getD k 0).toNat (D.getD k []) := by
  have hl : k < (homeW N D).length := by simp [homeW]; exact hk
  have e : (homeW N D)[k] = ((N.getD k 0).toNat, D.getD k []) := by simp [homeW]
  rw [List.take_succ_eq_append_getElem hl, e, appU_snoc]
end Go.Proofs.YtigbhdgcjklhoaaGreat

/- LogWrites: the walk of the law itself, where it ends early. -/
namespace Go.Proofs.YtigbhdgcjklhoaaGreat
set_option maxRecDepth 100000
open Go.RowKit
set_option linter.unusedVariables false

/-- With power, and no fuse, all of it is laid down, and flushed. -/
theorem lay_free {q : Int} {N : List Int} {D : List (List Int)} (hF : frmT N D = true) (q0 : 0 ≤ q) (q1 : q < 4294967296) (s : DS) (h1 : s.fu = false) (h2 : s.dn = false) (h43 : 43 ≤ s.F.length) :
    let r := runA (layA q (layWs q N D)) s
    r.1 = 0 ∧ r.2.fu = false ∧ r.2.dn = false ∧ r.2.U = [] ∧ r.2.F.length = s.F.length ∧ (∀ i, i < D.length + 1 → r.2.vis.getD (3 + i) [] = (packT q N D).getD i []) ∧ r.2.vis.getD 42 [] = (packT q N D).getD (D.length + 1) [] ∧ isTxn (jour r.2.vis) q N D := by
  intro r
  obtain ⟨g1, g2, g3, g4, _⟩ := runA_free (layA q (layWs q N D)) s h1 h2
  obtain ⟨hd, hl, hall⟩ := frmT_of hF
  have e : foldA (layA q (layWs q N D)) s.fuP = ((appU (layWs q N D) (s.vis.set 42 z256)).set 42 (sealS (endL q)), []) := by
    unfold layA
    rw [foldA_append, foldA_append, foldA_ws]
    rfl
  rw [e] at g2
  have e1 : r.2.F = (appU (layWs q N D) (s.vis.set 42 z256)).set 42 (sealS (endL q)) := congrArg Prod.fst g2
  have e2 : r.2.U = [] := congrArg Prod.snd g2
  have ev : r.2.vis = r.2.F := by show appU r.2.U r.2.F = _; rw [e2]; rfl
  have hvl : (s.vis.set 42 z256).length = s.F.length := by rw [List.length_set, DS.vis_length]
  have el : r.2.F.length = s.F.length := by rw [e1, List.length_set, appU_length, hvl]
  have hp : packT q N D = (sealS (headL q N) :: D) ++ [sealS (endL q)] := rfl
  have p1 : ∀ i, i < D.length + 1 → (packT q N D).getD i [] = (sealS (headL q N) :: D).getD i [] := fun i hi => by
    rw [hp, List.getD_eq_getElem?_getD, List.getElem?_append_left (by simpa using hi), ← List.getD_eq_getElem?_getD]
  have p2 : (packT q N D).getD (D.length + 1) [] = sealS (endL q) := by
    rw [hp, List.getD_eq_getElem?_getD, List.getElem?_append_right (by simp)]
    simp
  have a1 : ∀ i, i < D.length + 1 → r.2.vis.getD (3 + i) [] = (sealS (headL q N) :: D).getD i [] := fun i hi => by
    rw [ev, e1, set_other _ _ _ _ (by omega)]
    exact layWs_hit (by omega) (by omega) i hi
  have a2 : r.2.vis.getD 42 [] = sealS (endL q) := by
    rw [ev, e1]
    exact set_same _ _ _ (by rw [appU_length, hvl]; omega)
  refine ⟨g1, g3, g4, e2, el, fun i hi => by rw [a1 i hi, p1 i hi], by rw [a2, p2], ?_⟩
  refine jour_txn (by rw [DS.vis_length, el]; omega) hF ⟨q0, q1⟩ ?_ (fun j hj => ?_) a2
  · exact a1 0 (by omega)
  · have := a1 (1 + j) (by omega)
    rw [show 3 + (1 + j) = 4 + j by omega] at this
    rw [this, show 1 + j = j + 1 by omega]
    rfl
end Go.Proofs.YtigbhdgcjklhoaaGreat

/- What a crash leaves while a second change is laid down, and what Recover makes of it. -/
namespace Go.Proofs.YtigbhdgcjklhoaaGreat
set_option maxRecDepth 100000
open Go.RowKit
set_option linter.unusedVariables false

theorem far_of {N : List Int} {D : List (List Int)} {z n : Nat} (hF : frmT N D = true) (hH : hasN z N = true) (hJ : inJS N = false) (hz : z ≤ n) : farT n N := fun j hj => by
  have h1 := (frmT_of hF).2.2 j hj
  have h2 := (hasN_iff _ _).1 hH j hj
  have h3 := (inJS_no N).1 hJ j hj
  unfold OutJ
  omega
section
variable {q1 q2 : Int} {N1 N2 : List Int} {D1 D2 Z G : List (List Int)} {er : Int}
/-- Behind a crash: the first change, as it was told to be; none, and all of the first one is there; the second one. -/
def CrI (q1 q2 : Int) (N1 : List Int) (D1 : List (List Int)) (N2 : List Int) (D2 Z : List (List Int)) (er : Int) (F : List (List Int)) : Prop :=
  (InvT F q1 N1 D1 Z ∧ er = 2) ∨ (InvN F (appU (homeW N1 D1) Z) ∧ er = 2) ∨ InvT F q2 N2 D2 (appU (homeW N1 D1) Z)
def CrS (q1 q2 : Int) (N1 : List Int) (D1 : List (List Int)) (N2 : List Int) (D2 Z : List (List Int)) (er : Int) (s : DS) : Prop := s.U = [] ∧ s.dn = false ∧ CrI q1 q2 N1 D1 N2 D2 Z er s.F
/-- What stands there at the end. -/
def CrE (N1 : List Int) (D1 : List (List Int)) (N2 : List Int) (D2 Z : List (List Int)) (er : Int) (V : List (List Int)) : Prop :=
  (∀ i, OutJ i → i < Z.length → V.getD i [] = (appU (homeW N2 D2) (appU (homeW N1 D1) Z)).getD i []) ∨ (er = 2 ∧ ∀ i, OutJ i → i < Z.length → V.getD i [] = (appU (homeW N1 D1) Z).getD i [])
theorem CrS.fuse {s : DS} (h : CrS q1 q2 N1 D1 N2 D2 Z er s) (n : Int) : CrS q1 q2 N1 D1 N2 D2 Z er (s.fuse n) := h
theorem CrI.length {F : List (List Int)} (h : CrI q1 q2 N1 D1 N2 D2 Z er F) : F.length = Z.length := by
  rcases h with ⟨h, _⟩ | ⟨h, _⟩ | h
  · exact h.1
  · rw [h.1, appU_length]
  · rw [h.1, appU_length]
theorem vis_empty {s : DS} (h : s.U = []) : s.vis = s.F := by unfold DS.vis; rw [h]; rfl
/-- One Recover, wherever its power goes: behind a crash it is as it was; with power all is there. -/
theorem recover_cr {w : World} {P : Nat → Prop} {p : Value} {s : DS} (h : Dk w P p s) (hs : CrS q1 q2 N1 D1 N2 D2 Z er s) (hZ : Z.length = 100) (hF1 : frmT N1 D1 = true) (hH1 : hasN 100 N1 = true) (hf1 : farT Z.length N1) (hF2 : frmT N2 D2 = true) (hH2 : hasN 100 N2 = true) (hf2 : farT Z.length N2) :
    Calls Tryz.prog 17 #[p] w fun e w' => ∃ x r s' P', e = .returned (.tuple #[.int .u32 x, .int .i64 r]) ∧ Dk w' P' p s' ∧ Chg P P' w w' ∧ s'.U.length ≤ 1000 ∧ (∀ k, CrS q1 q2 N1 D1 N2 D2 Z er (s'.crash k)) ∧ (s.fu = false → r = 0 ∧ s'.dn = false ∧ s'.F.length = 100 ∧ CrE N1 D1 N2 D2 Z er s'.vis) := by
  obtain ⟨hU, hd, hI⟩ := hs
  have hFl : s.F.length = 100 := hI.length.trans hZ
  have hv := vis_empty hU
  have hU0 : s.U.length ≤ 900000 := by rw [hU]; show 0 ≤ 900000; omega
  have hGl : (appU (homeW N1 D1) Z).length = 100 := by rw [appU_length, hZ]
  have l1 := (frmT_of hF1).1
  have l2 := (frmT_of hF2).1
  rcases hI with ⟨hT, he⟩ | ⟨hN, he⟩ | hT
  · have hc := fun kp => home_crash hF1 hf1 (by omega) s hT (by rw [hU]; intro x hx; cases hx) true kp
    have hdn := fun h1 => home_done hF1 hf1 (by omega) s hT (by rw [hU]; intro x hx; cases hx) h1 hd true
    have hlen := runA_len (homeA N1 D1 ++ [.f]) s
    rw [List.length_append, homeA_length, hU] at hlen
    refine (gRecover_yes h (by omega) hd hU0 (q := q1) (N := N1) (D := D1) ⟨by rw [hv]; exact hT.2.1, by rw [hFl]; exact hH1⟩).mono ?_
    rintro e w' ⟨x, rfl, ⟨P', hk, hcg⟩, _⟩
    refine ⟨x, _, _, P', rfl, hk, hcg, by have := hlen.2; simp at this; omega, fun k => ⟨rfl, rfl, .inl ⟨(hc (kpOf k)).1, he⟩⟩, fun h1 => ?_⟩
    obtain ⟨e1, _, e3, e4, _⟩ := hdn h1
    exact ⟨e1, e3, by rw [hlen.1, hFl], .inr ⟨he, e4⟩⟩
  · have hno : ∀ q N D, ¬ holdsT s.F.length (jour s.vis) q N D := fun q N D ht => jour_zero (by rw [DS.vis_length]; omega) (by rw [hv]; exact hN.2.1) q N D ht.1
    have hst : ∀ kp, appU (keepU kp (runA ([] ++ [.f]) s).2.U) (runA ([] ++ [.f]) s).2.F = s.F ∧ (runA ([] ++ [.f]) s).2.U = [] := fun kp => by
      rw [List.nil_append, runA_cons]
      cases hok : s.ok
      · rw [if_neg Bool.false_ne_true]
        show appU (keepU kp s.U) s.F = s.F ∧ s.U = []
        rw [hU]; exact ⟨rfl, rfl⟩
      · rw [if_pos rfl]
        show appU (keepU kp []) s.vis = s.F ∧ ([] : List (Nat × List Int)) = []
        rw [hv]; exact ⟨rfl, rfl⟩
    have hfr := fun h1 => runA_free ([] ++ [.f]) s h1 hd
    have hlen := runA_len ([] ++ [.f]) s
    refine (gRecover_no h (by omega) hd hU0 hno).mono ?_
    rintro e w' ⟨x, rfl, ⟨P', hk, hcg⟩, _⟩
    refine ⟨x, _, _, P', rfl, hk, hcg, by rw [(hst fun _ => true).2]; show 0 ≤ 1000; omega, fun k => ⟨rfl, rfl, .inr (.inl ⟨?_, he⟩)⟩, fun h1 => ?_⟩
    · show InvN (appU (keepU (kpOf k) _) _) _
      rw [(hst (kpOf k)).1]; exact hN
    · obtain ⟨e1, _, _, e4, _⟩ := hfr h1
      refine ⟨e1, e4, by rw [hlen.1, hFl], .inr ⟨he, fun i hi hl => ?_⟩⟩
      rw [vis_empty (hst fun _ => true).2]
      have := (hst fun _ => true).1
      rw [(hst fun _ => true).2] at this
      have e5 : (runA ([] ++ [.f]) s).2.F = s.F := this
      rw [e5]
      exact hN.2.2 i hi (by rw [hGl]; omega)
  · have hf2' : farT (appU (homeW N1 D1) Z).length N2 := by rw [appU_length]; exact hf2
    have hc := fun kp => home_crash hF2 hf2' (by omega) s hT (by rw [hU]; intro x hx; cases hx) true kp
    have hdn := fun h1 => home_done hF2 hf2' (by omega) s hT (by rw [hU]; intro x hx; cases hx) h1 hd true
    have hlen := runA_len (homeA N2 D2 ++ [.f]) s
    rw [List.length_append, homeA_length, hU] at hlen
    refine (gRecover_yes h (by omega) hd hU0 (q := q2) (N := N2) (D := D2) ⟨by rw [hv]; exact hT.2.1, by rw [hFl]; exact hH2⟩).mono ?_
    rintro e w' ⟨x, rfl, ⟨P', hk, hcg⟩, _⟩
    refine ⟨x, _, _, P', rfl, hk, hcg, by have := hlen.2; simp at this; omega, fun k => ⟨rfl, rfl, .inr (.inr (hc (kpOf k)).1)⟩, fun h1 => ?_⟩
    obtain ⟨e1, _, e3, e4, _⟩ := hdn h1
    exact ⟨e1, e3, by rw [hlen.1, hFl], .inl fun i hi hl => e4 i hi (by rw [appU_length]; exact hl)⟩
end
/-- The first change made, and written home; then the fuse. -/
theorem cr_first {N : List Int} {D : List (List Int)} (hF : frmT N D = true) (hf : farT 100 N) :
    let s1 := (runA (layA 1 (layWs 1 N D)) (DS.new 100)).2
    let s2 := (runA (homeA N D) s1).2
    (runA (layA 1 (layWs 1 N D)) (DS.new 100)).1 = 0 ∧ s1.F.length = 100 ∧ s1.U = [] ∧ (runA (homeA N D) s1).1 = 0 ∧ s2.F.length = 100 ∧ s2.U.length ≤ 37 ∧
      InvT s2.F 1 N D (List.replicate 100 zb) ∧ (∀ x ∈ s2.U, x ∈ homeW N D) ∧ (∀ i, OutJ i → i < 100 → s2.vis.getD i [] = (appU (homeW N D) (List.replicate 100 zb)).getD i []) := by
  intro s1 s2
  have hl0 : (DS.new 100).F.length = 100 := List.length_replicate
  have hzl : (List.replicate 100 zb).length = 100 := List.length_replicate
  obtain ⟨g0, g1, g2, g3, g4, g5, g6, g7⟩ := lay_free hF (q := 1) (by omega) (by omega) (DS.new 100) rfl rfl (by rw [hl0]; omega)
  rw [hl0] at g4
  obtain ⟨f1, f2, _⟩ := frmT_of hF
  -- the other blocks
  have hout : ∀ i, OutJ i → i < 100 → s1.F.getD i [] = (List.replicate 100 zb).getD i [] := fun i hi hl => by
    obtain ⟨k1, k2, _⟩ := runA_free (layA 1 (layWs 1 N D)) (DS.new 100) rfl rfl
    have e : foldA (layA 1 (layWs 1 N D)) (DS.new 100).fuP = ((appU (layWs 1 N D) ((DS.new 100).vis.set 42 z256)).set 42 (sealS (endL 1)), []) := by
      unfold layA
      rw [foldA_append, foldA_append, foldA_ws]
      rfl
    rw [e] at k2
    have e1 : s1.F = (appU (layWs 1 N D) ((DS.new 100).vis.set 42 z256)).set 42 (sealS (endL 1)) := congrArg Prod.fst k2
    rw [e1, set_other _ _ _ _ (by rcases hi with h | h <;> omega), appU_other _ _ _ (fun x hx ex => by
      obtain ⟨k, hk, rfl⟩ := layWs_mem hx
      have ex' : 3 + k = i := ex
      rcases hi with h | h <;> omega), set_other _ _ _ _ (by rcases hi with h | h <;> omega)]
    rfl
  obtain ⟨h0, h1, h2, h3, _⟩ := runA_free (homeA N D) s1 g1 g2
  have ef : foldA (homeA N D) s1.fuP = (s1.F, s1.U ++ homeW N D) := by unfold homeA; rw [foldA_ws]; rfl
  rw [ef] at h1
  have a1 : s2.F = s1.F := congrArg Prod.fst h1
  have a2 : s2.U = s1.U ++ homeW N D := congrArg Prod.snd h1
  rw [show s1.U = [] from g3, List.nil_append] at a2
  have hj : jour s1.vis = jour s1.F := by rw [vis_empty g3]
  have hI : InvT s2.F 1 N D (List.replicate 100 zb) := ⟨by rw [a1, hzl]; exact g4, by rw [a1, ← hj]; exact g7, fun i hi hl => .inl (by rw [a1]; exact hout i hi (by rw [hzl] at hl; exact hl))⟩
  refine ⟨g0, g4, g3, h0, by rw [a1]; exact g4, by rw [a2]; simp [homeW]; omega, hI, fun x hx => by rw [a2] at hx; exact hx, fun i hi hl => ?_⟩
  show (appU s2.U s2.F).getD i [] = _
  rw [a2]
  exact hI.done hF i hi (by rw [hzl]; exact hl)
/-- The second one, while the power may go: what a crash leaves. -/
theorem cr_second {N1 N2 : List Int} {D1 D2 : List (List Int)} (hF1 : frmT N1 D1 = true) (hf1 : farT 100 N1) (hF2 : frmT N2 D2 = true) (hf2 : farT 100 N2) (s : DS) (hI : InvT s.F 1 N1 D1 (List.replicate 100 zb)) (hU : ∀ x ∈ s.U, x ∈ homeW N1 D1)
    (hv : ∀ i, OutJ i → i < 100 → s.vis.getD i [] = (appU (homeW N1 D1) (List.replicate 100 zb)).getD i []) (k : List Bool) :
    let r := runA (layA 2 (layWs 2 N2 D2)) s
    (r.1 = 2 → CrS 1 2 N1 D1 N2 D2 (List.replicate 100 zb) r.1 (r.2.crash k)) ∧ (r.1 = 0 → r.2.U = [] ∧ CrS 1 2 N1 D1 N2 D2 (List.replicate 100 zb) r.1 ((runA (homeA N2 D2) r.2).2.crash k)) := by
  intro r
  have hzl : (List.replicate 100 zb).length = 100 := List.length_replicate
  obtain ⟨a, b⟩ := lay_crash (q2 := 2) (by rw [hzl]; omega) (layW_of hF2) hF1 (by rw [hzl]; exact hf1) hF2 (by omega) s hI hU (fun i hi hl => hv i hi (by rw [hzl] at hl; exact hl)) (kpOf k)
  refine ⟨fun h => ⟨rfl, rfl, ?_⟩, fun h => ?_⟩
  · rcases a with ⟨a, _⟩ | ⟨a, _⟩ | a
    · exact .inl ⟨a, h⟩
    · exact .inr (.inl ⟨a, h⟩)
    · exact .inr (.inr a)
  · obtain ⟨b1, b2, b3⟩ := b h
    refine ⟨b1, rfl, rfl, .inr (.inr ?_)⟩
    have := home_crash hF2 (by rw [appU_length, hzl]; exact hf2) (by rw [appU_length, hzl]; omega) r.2 b2 (by rw [b1]; intro x hx; cases hx) false (kpOf k)
    rw [show (if (false : Bool) = true then [PA.f] else []) = [] from rfl, List.append_nil] at this
    exact this.1
end Go.Proofs.YtigbhdgcjklhoaaGreat

/- A disk with a journal over which changes of calls go: what a crash leaves, what Recover makes of it, whatever change was the last one (for the store). -/
namespace Go.Proofs.YtigbhdgcjklhoaaGreat
set_option maxRecDepth 100000
open Go.RowKit
set_option linter.unusedVariables false

/-- The same, but for the journal. -/
def eqO (A B : List (List Int)) : Prop := A.length = B.length ∧ ∀ i, OutJ i → i < B.length → A.getD i [] = B.getD i []
theorem eqO.refl (A : List (List Int)) : eqO A A := ⟨rfl, fun _ _ _ => rfl⟩
theorem eqO.symm {A B : List (List Int)} (h : eqO A B) : eqO B A := ⟨h.1.symm, fun i ho hi => (h.2 i ho (by rw [← h.1]; exact hi)).symm⟩
theorem eqO.trans {A B C : List (List Int)} (h : eqO A B) (k : eqO B C) : eqO A C := ⟨h.1.trans k.1, fun i ho hi => (h.2 i ho (by rw [k.1]; exact hi)).trans (k.2 i ho hi)⟩
/-- A change that the disk takes, outside the journal. -/
def okT (n : Nat) (N : List Int) (D : List (List Int)) : Prop := frmT N D = true ∧ hasN n N = true ∧ inJS N = false
theorem okT.far {n : Nat} {N : List Int} {D : List (List Int)} (h : okT n N D) : farT n N := far_of h.1 h.2.1 h.2.2 (Nat.le_refl _)
theorem okT.takes {n : Nat} {N : List Int} {D : List (List Int)} (h : okT n N D) (h64 : 64 ≤ n) : takesT n N D = true := by
  unfold takesT
  rw [decide_eq_true h64, h.1, h.2.1]; rfl
theorem appU_eqO {N : List Int} {D A B : List (List Int)} (hF : frmT N D = true) (h : eqO A B) : eqO (appU (homeW N D) A) (appU (homeW N D) B) := by
  refine ⟨by rw [appU_length, appU_length]; exact h.1, fun i ho hi => ?_⟩
  rw [appU_length] at hi
  exact home_all hF A B h.1 i hi (.inl (h.2 i ho hi))
/-- Behind a crash, on a disk of n blocks, Recover will find G. -/
def Jst (n : Nat) (F G : List (List Int)) : Prop :=
  F.length = n ∧ G.length = n ∧ ((∃ q N D Z, okT n N D ∧ InvT F q N D Z ∧ eqO (appU (homeW N D) Z) G) ∨ InvN F G)
/-- While it works, the blocks being G (told by Read), no change on its way. -/
def Lst (n : Nat) (s : DS) (G : List (List Int)) : Prop :=
  s.F.length = n ∧ eqO s.vis G ∧ ((∃ q N D Z, okT n N D ∧ InvT s.F q N D Z ∧ (∀ x ∈ s.U, x ∈ homeW N D) ∧ eqO (appU (homeW N D) Z) G) ∨ (InvN s.F G ∧ s.U = []))
theorem InvN.toO {F G G' : List (List Int)} (h : InvN F G) (k : eqO G G') : InvN F G' := ⟨h.1.trans k.1, h.2.1, fun i ho hi => (h.2.2 i ho (by rw [k.1]; exact hi)).trans (k.2 i ho hi)⟩
theorem Jst.toO {n : Nat} {F G G' : List (List Int)} (h : Jst n F G) (k : eqO G G') : Jst n F G' := by
  obtain ⟨h1, h2, h3⟩ := h
  refine ⟨h1, k.1.symm.trans h2, h3.imp (fun ⟨q, N, D, Z, a, b, c⟩ => ⟨q, N, D, Z, a, b, c.trans k⟩) (fun h => h.toO k)⟩
theorem Lst.toO {n : Nat} {s : DS} {G G' : List (List Int)} (h : Lst n s G) (k : eqO G G') : Lst n s G' := by
  obtain ⟨h1, h2, h3⟩ := h
  exact ⟨h1, h2.trans k, h3.imp (fun ⟨q, N, D, Z, a, b, c, e⟩ => ⟨q, N, D, Z, a, b, c, e.trans k⟩) (fun h => ⟨h.1.toO k, h.2⟩)⟩
theorem Lst.glen {n : Nat} {s : DS} {G : List (List Int)} (h : Lst n s G) : G.length = n := by rw [← h.2.1.1, DS.vis_length, h.1]
theorem Lst.fuse {n : Nat} {s : DS} {G : List (List Int)} (h : Lst n s G) (k : Int) : Lst n (s.fuse k) G := h
theorem Lst.pay {n : Nat} {s : DS} {G : List (List Int)} (h : Lst n s G) : Lst n s.pay G := h
theorem InvT.glen {F Z : List (List Int)} {q : Int} {N : List Int} {D : List (List Int)} (h : InvT F q N D Z) : F.length = Z.length := h.1
/-- A crash while no change is on its way. -/
theorem Lst.crash {n : Nat} {s : DS} {G : List (List Int)} (h : Lst n s G) (h43 : 43 ≤ n) (kp : Nat → Bool) : Jst n (appU (keepU kp s.U) s.F) G := by
  have hg := h.glen
  obtain ⟨h1, h2, h3⟩ := h
  refine ⟨by rw [appU_length]; exact h1, hg, ?_⟩
  rcases h3 with ⟨q, N, D, Z, a, b, c, e⟩ | ⟨a, b⟩
  · have hz : Z.length = n := b.1.symm.trans h1
    exact .inl ⟨q, N, D, Z, a, b.home a.1 (by rw [hz]; exact a.far) (by omega) fun x hx => c x (keepU_mem hx), e⟩
  · rw [b]
    exact .inr a
/-- Where a change is laid down and the power goes, behind a journal without one. -/
theorem layN_crash {q2 : Int} {N2 : List Int} {D2 G : List (List Int)} (hG : 43 ≤ G.length) {W : List (Nat × List Int)} (hW : layW q2 N2 D2 W) (hF2 : frmT N2 D2 = true) (hq2 : 0 ≤ q2 ∧ q2 < 4294967296) (s : DS) (hs : InvN s.F G) (hU : s.U = []) (kp : Nat → Bool) :
    let r := runA (layA q2 W) s
    (InvN (appU (keepU kp r.2.U) r.2.F) G ∧ r.1 = 2 ∨ InvT (appU (keepU kp r.2.U) r.2.F) q2 N2 D2 G) ∧
      (r.1 = 0 → r.2.U = [] ∧ InvT r.2.F q2 N2 D2 G ∧ ∀ i, OutJ i → i < G.length → r.2.F.getD i [] = G.getD i []) := by
  intro r
  obtain ⟨k, hk, hfu, hr⟩ := runA_pre (layA q2 W) s
  have hrF : r.2.F = (foldA ((layA q2 W).take k) s.fuP).1 := congrArg Prod.fst hfu
  have hrU : r.2.U = (foldA ((layA q2 W).take k) s.fuP).2 := congrArg Prod.snd hfu
  have hlen : (layA q2 W).length = 6 + W.length := by simp [layA]; omega
  have hfl := hs.1
  obtain ⟨V0, hV0⟩ : ∃ V0, V0 = s.F := ⟨_, rfl⟩
  have hfu0 : s.fuP = (V0, []) := by rw [hV0, ← hU]; rfl
  have hN0 : InvN V0 G := by rw [hV0]; exact hs
  rw [hfu0] at hrF hrU
  obtain ⟨V1, hV1⟩ : ∃ V1, V1 = V0.set 42 z256 := ⟨_, rfl⟩
  have hV0l : V0.length = G.length := hN0.1
  have hV1l : V1.length = G.length := by rw [hV1, List.length_set, hV0l]
  have out42 : ∀ i, OutJ i → 42 ≠ i := fun i hi e => by rcases hi with h | h <;> omega
  have hN1 : InvN V1 G := ⟨hV1l, by rw [hV1]; exact set_same _ _ _ (by omega), fun i hi hl => by rw [hV1, set_other _ _ _ _ (out42 i hi)]; exact hN0.2.2 i hi hl⟩
  have hWN : ∀ X, (∀ x ∈ X, x ∈ W) → InvN (appU X V1) G := fun X hX => by
    refine ⟨by rw [appU_length, hV1l], ?_, fun i hi hl => ?_⟩
    · rw [appU_other X V1 42 fun x hx e => by have := (hW.1 x (hX x hx)).2; omega]; exact hN1.2.1
    · rw [appU_other X V1 i fun x hx e => by have := hW.1 x (hX x hx); rcases hi with h | h <;> omega]
      exact hN1.2.2 i hi hl
  obtain ⟨V2, hV2⟩ : ∃ V2, V2 = appU W V1 := ⟨_, rfl⟩
  have hV2l : V2.length = G.length := by rw [hV2, appU_length, hV1l]
  have hN2 : InvN V2 G := by rw [hV2]; exact hWN W fun x hx => hx
  obtain ⟨V3, hV3⟩ : ∃ V3, V3 = V2.set 42 (sealS (endL q2)) := ⟨_, rfl⟩
  have hV3l : V3.length = G.length := by rw [hV3, List.length_set, hV2l]
  obtain ⟨hd, hbl⟩ := hW.2 V1 (by omega)
  have h37 := (frmT_of hF2).1
  have hT3 : isTxn (jour V3) q2 N2 D2 := by
    refine jour_txn (by omega) hF2 hq2 ?_ (fun j hj => ?_) ?_
    · rw [hV3, set_other _ _ _ _ (by omega), hV2]; exact hd
    · rw [hV3, set_other _ _ _ _ (by omega), hV2]; exact hbl j hj
    · rw [hV3]; exact set_same _ _ _ (by omega)
  have hV3o : ∀ i, OutJ i → i < G.length → V3.getD i [] = G.getD i [] := fun i hi hl => by rw [hV3, set_other _ _ _ _ (out42 i hi)]; exact hN2.2.2 i hi hl
  have hI3 : InvT V3 q2 N2 D2 G := ⟨hV3l, hT3, fun i hi hl => .inl (hV3o i hi hl)⟩
  have a1 : foldA [.f, .w 42 z256, .f] (V0, []) = (V1, []) := by
    show (appU ([] ++ [(42, z256)]) (appU [] V0), ([] : List (Nat × List Int))) = (V1, [])
    rw [hV1]; rfl
  have full : k = (layA q2 W).length → r.2.F = V3 ∧ r.2.U = [] := fun e => by
    rw [hrF, hrU, e, List.take_length]
    unfold layA
    rw [foldA_append, foldA_append, foldA_ws, a1]
    show (appU ([] ++ [(42, sealS (endL q2))]) (appU ([] ++ W) V1)) = V3 ∧ _
    rw [hV3, hV2]
    exact ⟨rfl, rfl⟩
  refine ⟨?_, fun h0 => ?_⟩
  · have hcase : k = 0 ∨ k = 1 ∨ k = 2 ∨ (3 ≤ k ∧ k ≤ 3 + W.length) ∨ k = 4 + W.length ∨ k = 5 + W.length ∨ k = 6 + W.length := by omega
    have h2 : k ≠ (layA q2 W).length → r.1 = 2 := fun hne => by
      rcases hr with ⟨_, h⟩ | h
      · exact absurd h hne
      · exact h
    have step : ∀ j, (layA q2 W).take (3 + j) = ([PA.f, PA.w 42 z256, PA.f] : List PA) ++ ((W.map fun y : Nat × List Int => PA.w y.1 y.2) ++ [PA.f, PA.w 42 (sealS (endL q2)), PA.f]).take j := fun j => by
      unfold layA
      rw [List.append_assoc]
      exact List.take_length_add_append (l₁ := ([PA.f, PA.w 42 z256, PA.f] : List PA)) j
    rcases hcase with rfl | rfl | rfl | ⟨ha, hb⟩ | rfl | rfl | rfl
    · have e1 : r.2.F = V0 := hrF
      have e2 : r.2.U = [] := hrU
      rw [e1, e2]
      exact .inl ⟨hN0, h2 (by omega)⟩
    · have e1 : r.2.F = V0 := hrF
      have e2 : r.2.U = [] := hrU
      rw [e1, e2]
      exact .inl ⟨hN0, h2 (by omega)⟩
    · have e1 : r.2.F = V0 := hrF
      have e2 : r.2.U = [(42, z256)] := hrU
      rw [e1, e2]
      rcases keepU_one kp (42, z256) with e | e
      · rw [e]; exact .inl ⟨hN0, h2 (by omega)⟩
      · rw [e]
        refine .inl ⟨?_, h2 (by omega)⟩
        show InvN (V0.set 42 z256) G
        rw [← hV1]; exact hN1
    · obtain ⟨j, rfl⟩ : ∃ j, k = 3 + j := ⟨k - 3, by omega⟩
      have hj : j ≤ W.length := by omega
      rw [step, List.take_append_of_le_length (by simpa using hj), ← List.map_take, foldA_append, a1, foldA_ws] at hrF hrU
      rw [hrF, hrU]
      refine .inl ⟨hWN _ fun x hx => ?_, h2 (by omega)⟩
      have := keepU_mem hx
      rw [List.nil_append] at this
      exact List.mem_of_mem_take this
    · have e0 : (layA q2 W).take (4 + W.length) = [.f, .w 42 z256, .f] ++ ((W.map fun y => PA.w y.1 y.2) ++ [.f]) := by
        rw [show 4 + W.length = 3 + (W.length + 1) by omega, step]
        congr 1
        rw [show W.length + 1 = (W.map fun y => PA.w y.1 y.2).length + 1 by simp, List.take_length_add_append]; rfl
      rw [e0, foldA_append, foldA_append, a1, foldA_ws] at hrF hrU
      have e1 : r.2.F = V2 := by rw [hV2]; exact hrF
      have e2 : r.2.U = [] := hrU
      rw [e1, e2]
      exact .inl ⟨hN2, h2 (by omega)⟩
    · have e0 : (layA q2 W).take (5 + W.length) = [.f, .w 42 z256, .f] ++ ((W.map fun y => PA.w y.1 y.2) ++ [.f, .w 42 (sealS (endL q2))]) := by
        rw [show 5 + W.length = 3 + (W.length + 2) by omega, step]
        congr 1
        rw [show W.length + 2 = (W.map fun y => PA.w y.1 y.2).length + 2 by simp, List.take_length_add_append]; rfl
      rw [e0, foldA_append, foldA_append, a1, foldA_ws] at hrF hrU
      have e1 : r.2.F = V2 := by rw [hV2]; exact hrF
      have e2 : r.2.U = [(42, sealS (endL q2))] := hrU
      rw [e1, e2]
      rcases keepU_one kp (42, sealS (endL q2)) with e | e
      · rw [e]; exact .inl ⟨hN2, h2 (by omega)⟩
      · rw [e]
        refine .inr ?_
        show InvT (V2.set 42 (sealS (endL q2))) q2 N2 D2 G
        rw [← hV3]; exact hI3
    · obtain ⟨e1, e2⟩ := full (by omega)
      rw [e1, e2]
      exact .inr hI3
  · have hkk : k = (layA q2 W).length := by
      rcases hr with ⟨_, h⟩ | h
      · exact h
      · have h0' : (runA (layA q2 W) s).1 = 0 := h0
        rw [h0'] at h; cases h
    obtain ⟨e1, e2⟩ := full hkk
    rw [e1, e2]
    exact ⟨rfl, hI3, hV3o⟩
/-- Behind Write that said OK, ahead of Home. -/
def Mst (n : Nat) (s : DS) (q : Int) (N : List Int) (D G : List (List Int)) : Prop := s.U = [] ∧ s.F.length = n ∧ InvT s.F q N D G ∧ eqO s.F G
/-- Write: where its power goes Recover finds what was, or what the change makes; where it says OK, what it makes. -/
theorem Lst.write {n : Nat} {s : DS} {G : List (List Int)} (h : Lst n s G) (h43 : 43 ≤ n) {q : Int} {N : List Int} {D : List (List Int)} (hT : okT n N D) (hq : 0 ≤ q ∧ q < 4294967296) :
    let r := runA (layA q (layWs q N D)) s
    (∀ kp, r.1 = 2 → Jst n (appU (keepU kp r.2.U) r.2.F) G ∨ Jst n (appU (keepU kp r.2.U) r.2.F) (appU (homeW N D) G)) ∧ (r.1 = 0 → Mst n r.2 q N D G) := by
  intro r
  have hg := h.glen
  obtain ⟨h1, h2, h3⟩ := h
  have hl : r.2.F.length = n := (runA_len _ s).1.trans h1
  have hal : ∀ kp, (appU (keepU kp r.2.U) r.2.F).length = n := fun kp => by rw [appU_length, hl]
  have hGn : (appU (homeW N D) G).length = n := by rw [appU_length, hg]
  rcases h3 with ⟨q1, N1, D1, Z, a, b, c, e⟩ | ⟨a, b⟩
  · have hz : Z.length = n := b.1.symm.trans h1
    have hvis : ∀ i, OutJ i → i < Z.length → s.vis.getD i [] = (appU (homeW N1 D1) Z).getD i [] := fun i ho hi => by
      rw [hz] at hi
      exact (h2.2 i ho (by omega)).trans (e.2 i ho (by omega)).symm
    have key := fun kp => lay_crash (q1 := q1) (q2 := q) (by omega) (layW_of hT.1) a.1 (by rw [hz]; exact a.far) hT.1 hq s b c hvis kp
    refine ⟨fun kp h2' => ?_, fun h0 => ?_⟩
    · rcases (key kp).1 with ⟨k1, _⟩ | ⟨k1, _⟩ | k1
      · exact .inl ⟨hal kp, hg, .inl ⟨q1, N1, D1, Z, a, k1, e⟩⟩
      · exact .inl ⟨hal kp, hg, .inr (k1.toO e)⟩
      · exact .inr ⟨hal kp, hGn, .inl ⟨q, N, D, _, hT, k1, appU_eqO hT.1 e⟩⟩
    · obtain ⟨k1, k2, k3⟩ := (key fun _ => true).2 h0
      have hge : eqO r.2.F G := ⟨by rw [hl, hg], fun i ho hi => (k3 i ho (by omega)).trans (e.2 i ho hi)⟩
      refine ⟨k1, hl, ⟨by rw [hl, hg], k2.2.1, fun i ho hi => .inl (hge.2 i ho hi)⟩, hge⟩
  · have key := fun kp => layN_crash (q2 := q) (by omega) (layW_of hT.1) hT.1 hq s a b kp
    refine ⟨fun kp h2' => ?_, fun h0 => ?_⟩
    · rcases (key kp).1 with ⟨k1, _⟩ | k1
      · exact .inl ⟨hal kp, hg, .inr k1⟩
      · exact .inr ⟨hal kp, hGn, .inl ⟨q, N, D, _, hT, k1, eqO.refl _⟩⟩
    · obtain ⟨k1, k2, k3⟩ := (key fun _ => true).2 h0
      exact ⟨k1, hl, k2, ⟨by rw [hl, hg], fun i ho hi => k3 i ho hi⟩⟩
/-- Home behind it. -/
theorem Mst.home {n : Nat} {s : DS} {q : Int} {N : List Int} {D G : List (List Int)} (h : Mst n s q N D G) (h43 : 43 ≤ n) (hT : okT n N D) :
    let r := runA (homeA N D) s
    (∀ kp, Jst n (appU (keepU kp r.2.U) r.2.F) (appU (homeW N D) G)) ∧ (r.1 = 0 → Lst n r.2 (appU (homeW N D) G)) := by
  intro r
  obtain ⟨h1, h2, h3, h4⟩ := h
  have hg : G.length = n := h4.1.symm.trans h2
  have hl : r.2.F.length = n := (runA_len _ s).1.trans h2
  have key : ∀ kp, InvT (appU (keepU kp r.2.U) r.2.F) q N D G := fun kp => by
    have := (home_crash hT.1 (by rw [hg]; exact hT.far) (by omega) s h3 (by rw [h1]; intro x hx; cases hx) false kp).1
    rw [show (if (false : Bool) = true then [PA.f] else []) = [] from rfl, List.append_nil] at this
    exact this
  refine ⟨fun kp => ⟨by rw [appU_length, hl], by rw [appU_length, hg], .inl ⟨q, N, D, G, hT, key kp, eqO.refl _⟩⟩, fun h0 => ?_⟩
  obtain ⟨k, hk, hfu, hr⟩ := runA_pre (homeA N D) s
  have hkk : k = (homeA N D).length := by
    rcases hr with ⟨_, h⟩ | h
    · exact h
    · have h0' : (runA (homeA N D) s).1 = 0 := h0
      rw [h0'] at h; cases h
  have hrF : r.2.F = (foldA ((homeA N D).take k) s.fuP).1 := congrArg Prod.fst hfu
  have hrU : r.2.U = (foldA ((homeA N D).take k) s.fuP).2 := congrArg Prod.snd hfu
  rw [hkk, foldA_home] at hrF hrU
  have e3 : (homeW N D).take (homeA N D).length = homeW N D := List.take_of_length_le (by simp [homeA])
  rw [e3] at hrU
  have e1 : r.2.F = s.F := hrF
  have e2 : r.2.U = homeW N D := by rw [hrU]; show s.U ++ _ = _; rw [h1, List.nil_append]
  refine ⟨hl, ?_, .inl ⟨q, N, D, G, hT, by rw [e1]; exact h3, (fun x hx => by rw [e2] at hx; exact hx), eqO.refl _⟩⟩
  show eqO (appU r.2.U r.2.F) _
  rw [e1, e2]
  exact appU_eqO hT.1 h4
theorem run_fu (a : PA) (s : DS) : (a.run s).fu = s.fu := by cases a <;> rfl
theorem runA_fu : ∀ (A : List PA) (s : DS), (runA A s).2.fu = s.fu
  | [], s => rfl
  | a :: A, s => by
    rw [runA_cons]
    split
    · exact (runA_fu A _).trans (run_fu a s)
    · rfl
/-- Recover, wherever its power goes. -/
theorem recover_any {w : World} {P : Nat → Prop} {p : Value} {s : DS} (h : Dk w P p s) {n : Nat} {G : List (List Int)} (h64 : 64 ≤ n) (hU : s.U = []) (hd : s.dn = false) (hJ : Jst n s.F G) :
    Calls Tryz.prog 17 #[p] w fun e w' => ∃ x r s' P', e = .returned (.tuple #[.int .u32 x, .int .i64 r]) ∧ Dk w' P' p s' ∧ Chg P P' w w' ∧ s'.U.length ≤ 1000 ∧ s'.F.length = n ∧ (r = 0 ∨ r = 2) ∧ (∀ k, Jst n (s'.crash k).F G) ∧ (r = 0 → s'.dn = false ∧ s'.U = [] ∧ Lst n s' G) ∧ (s.fu = false → r = 0) ∧ (0 ≤ x ∧ x < 4294967296) ∧ s'.fu = s.fu := by
  have hJ' := hJ
  obtain ⟨hFl, hg, hI⟩ := hJ
  have hv := vis_empty hU
  have hU0 : s.U.length ≤ 900000 := by rw [hU]; show 0 ≤ 900000; omega
  -- a run that said OK has its power still
  have hpw : ∀ (A : List PA) (t : DS), (runA A t).1 = 0 → t.dn = false → (runA A t).2.dn = false := by
    intro A
    induction A with
    | nil => intro t _ h; exact h
    | cons a A ih =>
      intro t h0 hdn
      rw [runA_cons] at h0 ⊢
      cases hok : t.ok
      · rw [hok, if_neg Bool.false_ne_true] at h0
        exact absurd (show (2 : Int) = 0 from h0) (by decide)
      · rw [hok, if_pos rfl] at h0
        rw [if_pos rfl]
        refine ih _ h0 ?_
        have : pDn t.fu t.le t.dn = false := by
          unfold DS.ok pOk at hok
          unfold pDn
          revert hok
          rw [hdn]
          cases t.fu <;> simp
        cases a <;> exact this
  rcases hI with ⟨q, N, D, Z, hT, hI, he⟩ | hN
  · have hz : Z.length = n := hI.1.symm.trans hFl
    have l37 := (frmT_of hT.1).1
    have hc : ∀ kp, InvT (appU (keepU kp (runA (homeA N D ++ [.f]) s).2.U) (runA (homeA N D ++ [.f]) s).2.F) q N D Z ∧ InvT (runA (homeA N D ++ [.f]) s).2.F q N D Z ∧ (∀ x ∈ (runA (homeA N D ++ [.f]) s).2.U, x ∈ homeW N D) := fun kp => home_crash hT.1 (by rw [hz]; exact hT.far) (by omega) s hI (by rw [hU]; intro x hx; cases hx) true kp
    have hlen := runA_len (homeA N D ++ [.f]) s
    rw [List.length_append, homeA_length, hU] at hlen
    have hfree := fun h1 => runA_free (homeA N D ++ [.f]) s h1 hd
    refine (gRecover_yes h (by omega) hd hU0 (q := q) (N := N) (D := D) ⟨by rw [hv]; exact hI.2.1, by rw [hFl]; exact hT.2.1⟩).mono ?_
    rintro e w' ⟨x, rfl, ⟨P', hk, hcg⟩, _, hx2⟩
    refine ⟨x, _, _, P', rfl, hk, hcg, by have := hlen.2; simp at this; omega, hlen.1.trans hFl, runA_two _ _, fun k => ⟨by show (appU _ _).length = n; rw [appU_length, hlen.1, hFl], hg, .inl ⟨q, N, D, Z, hT, (hc (kpOf k)).1, he⟩⟩, fun h0 => ?_, fun h1 => (hfree h1).1, hx2, runA_fu _ _⟩
    obtain ⟨k, hk', hfu, hr⟩ := runA_pre (homeA N D ++ [.f]) s
    have hkk : k = (homeA N D ++ [PA.f]).length := by
      rcases hr with ⟨_, h⟩ | h
      · exact h
      · rw [h0] at h; cases h
    rw [hkk, List.take_length, foldA_append] at hfu
    have e2 := foldA_home N D (homeA N D).length s.fuP
    rw [List.take_length] at e2
    have e3 : (homeW N D).take (homeA N D).length = homeW N D := List.take_of_length_le (by simp [homeA])
    rw [e3] at e2
    rw [e2] at hfu
    have a1 : (runA (homeA N D ++ [.f]) s).2.F = appU (s.U ++ homeW N D) s.F := congrArg Prod.fst hfu
    have a2 : (runA (homeA N D ++ [.f]) s).2.U = [] := congrArg Prod.snd hfu
    rw [hU, List.nil_append] at a1
    refine ⟨hpw _ _ h0 hd, a2, hlen.1.trans hFl, ?_, .inl ⟨q, N, D, Z, hT, (hc fun _ => true).2.1, (fun x hx => by rw [a2] at hx; cases hx), he⟩⟩
    rw [vis_empty a2, a1]
    exact eqO.trans ⟨by rw [appU_length, appU_length, hFl, hz], fun i ho hi => hI.done hT.1 i ho (by rw [appU_length] at hi; exact hi)⟩ he
  · have hno : ∀ q N D, ¬ holdsT s.F.length (jour s.vis) q N D := fun q N D ht => jour_zero (by rw [DS.vis_length]; omega) (by rw [hv]; exact hN.2.1) q N D ht.1
    have hst : (runA ([] ++ [.f]) s).2.F = s.F ∧ (runA ([] ++ [.f]) s).2.U = [] := by
      rw [List.nil_append, runA_cons]
      cases hok : s.ok
      · rw [if_neg Bool.false_ne_true]
        exact ⟨rfl, hU⟩
      · rw [if_pos rfl]
        exact ⟨hv, rfl⟩
    have hfree := fun h1 => runA_free ([] ++ [.f]) s h1 hd
    refine (gRecover_no h (by omega) hd hU0 hno).mono ?_
    rintro e w' ⟨x, rfl, ⟨P', hk, hcg⟩, _, hx2⟩
    refine ⟨x, _, _, P', rfl, hk, hcg, by rw [hst.2]; show 0 ≤ 1000; omega, by rw [hst.1]; exact hFl, runA_two _ _, fun k => ?_, fun h0 => ?_, fun h1 => (hfree h1).1, hx2, runA_fu _ _⟩
    · show Jst n (appU (keepU (kpOf k) _) _) G
      rw [hst.1, hst.2]
      exact ⟨hFl, hg, .inr hN⟩
    · refine ⟨hpw _ _ h0 hd, hst.2, by rw [hst.1]; exact hFl, ?_, .inr ⟨by rw [hst.1]; exact hN, hst.2⟩⟩
      rw [vis_empty hst.2, hst.1]
      exact ⟨by rw [hFl, hg], hN.2.2⟩
/-- A new disk. -/
theorem new_Jst (n : Nat) (h : 43 ≤ n) : Jst n (DS.new n).F (List.replicate n zb) := ⟨List.length_replicate, List.length_replicate, .inr ⟨rfl, new_get n 42 (by omega), fun _ _ _ => rfl⟩⟩
end Go.Proofs.YtigbhdgcjklhoaaGreat

/- The law's own parts that do not touch the store: so many blocks of noughts; is a block of the journal put; the block of an op. -/
namespace Go.Proofs.YtigbhdgcjklhoaaGreat
set_option maxRecDepth 100000
open Go.RowKit
set_option linter.unusedVariables false

theorem zeros11_of {w : World} {P : Nat → Prop} (hP : ∀ k, P k → k < w.heap.size) (n : Nat) (hn : n ≤ 2000) :
    Calls Tryz.prog 9 #[.int .i64 n] w fun e w' => ∃ v, e = .returned v ∧ BBo w' w.heap.size P v (List.replicate n zb) ∧ Below w.heap.size w w' := by
  have HLT := Lib.hid hP
  have HTK := Lib.hid (fun k => show List.replicate (k + 1) zb = List.replicate k zb ++ [zb] from List.replicate_succ')
  have HTL := Lib.hid (fun k (hk : k ≤ n) => show (List.replicate k zb).length ≤ 100000 by rw [List.length_replicate]; omega)
  have HO : Hid (BBo w w.heap.size P (.slice none 0 0) (List.replicate 0 zb)) := Lib.hid (BBo.nil _ _ _)
  have HB0 : Hid (Below w.heap.size w w) := Lib.hid (Below.refl _ _)
  clear hP
  go_enter Tryz.func9, Tryz.ntmps9
  go_wp2
  go_loopw [3, 5] (fun v i wr => ∃ k : Nat, k ≤ n ∧ i = .int .i64 k ∧ Hid (BBo wr w.heap.size P v (List.replicate k zb)) ∧ Hid (Below w.heap.size w wr)) (fun _ i _ => n - (intOf i).toNat)
  case atStart => exact ⟨0, by omega, rfl, HO, HB0⟩
  case round =>
    rename_i v
    obtain ⟨k, hk, rfl, HOK, HB⟩ := hrel
    clear HO HB0
    by_cases hlt : k < n
    · have ek : (k : Int) < (n : Int) := by omega
      obtain ⟨w2, hw2⟩ : ∃ w2, w2 = wr.alloc (.cells (Array.replicate 256 (.int .u8 0)) 5) := ⟨_, rfl⟩
      have hb2 : Below wr.heap.size wr w2 := by rw [hw2]; exact below_box _ _
      have hsz := HB.out.size
      have HO2 := Lib.hid (HOK.out.below hb2)
      have HA1 : Hid (Apt P (.slice (some ⟨wr.heap.size, 0, none⟩) 256 256)) := Lib.hid (Apt.new (fun hp => by have := HLT.out _ hp; omega))
      have HA2 := Lib.hid (fun k' (hk' : Value.ownBlock _ = some k') => HOK.out.own k' hk')
      have HY : Hid (BSl w2 (.slice (some ⟨wr.heap.size, 0, none⟩) 256 256) zb) := Lib.hid (bsl_zero (by rw [hw2]; exact heap_alloc_new wr _))
      have HB2 := Lib.hid (HB.out.trans (hb2.mono HB.out.size))
      have HW2 := Lib.hid hw2
      clear hb2 hsz hw2
      go_wp2_with (first
        | (at_make; refine wpList_make_u8 wr rfl _ _ rfl 256 256 rfl rfl rfl (by decide) ?_; rw [← HW2.out])
        | (at_builtin; refine wpList_append_bbo 34 Tryz.underlying34 w2 (.slice (some ⟨wr.heap.size, 0, none⟩) 256 256) zb rfl (.tmp 7) (.tmp 9) rfl w.heap.size P _ (List.replicate k zb) rfl HO2.out HY.out HA1.out (by
             refine Apt.new fun hp => ?_
             have := (HA2.out _ hp).2
             omega) w2.heap.size rfl rfl (HTL.out k hk) HB2.out.size ?_
           intro v3 w3 hv3 hb3 _))
      go_roundw
      case rel => exact ⟨k + 1, by omega, by go_num, by rw [HTK.out k]; exact hv3, HB2.out.trans hb3⟩
      case measure => simp [intOf]; omega
    · obtain rfl : k = n := by omega
      go_wp2
      go_ret
      exact ⟨_, rfl, HOK.out, HB.out⟩
/-- An op. -/
def opV (k n x : Int) (keep short : Bool) : Value := .agg #[.int .i64 k, .int .i64 n, .int .u8 x, .bool keep, .bool short]
def inJo (k n : Int) : Bool := decide (k = 2) && (decide (3 ≤ n) && decide (n < 43))
theorem inJ11_is (k n x : Int) (keep short : Bool) (w : World) : Calls Tryz.prog 10 #[opV k n x keep short] w fun e w' => e = .returned (.bool (inJo k n)) ∧ Below w.heap.size w w' := by
  have hbx := below_box w (.cells #[.int .i64 k, .int .i64 n, .int .u8 x, .bool keep, .bool short] 37)
  have hnx := heap_alloc_new w (.cells #[.int .i64 k, .int .i64 n, .int .u8 x, .bool keep, .bool short] 37)
  have HB := Lib.hid hbx
  unfold opV inJo
  by_cases hk : k = 2
  · subst hk
    by_cases h3 : 3 ≤ n
    · by_cases h43 : n < 43
      all_goals
        clear hbx
        go_enter Tryz.func10, Tryz.ntmps10
        go_wp2
        go_ret
        exact ⟨by simp [h3, h43], HB.out⟩
    · clear hbx
      go_enter Tryz.func10, Tryz.ntmps10
      go_wp2
      go_ret
      exact ⟨by simp; omega, HB.out⟩
  · clear hbx
    go_enter Tryz.func10, Tryz.ntmps10
    go_wp2
    go_ret
    exact ⟨by simp [hk], HB.out⟩
/-- The bytes of an op's block, i of them laid. -/
def blkB (L : Nat) (x : Int) (i : Nat) : List Int := List.replicate i x ++ List.replicate (L - i) 0
def blkL (x : Int) (short : Bool) : List Int := List.replicate (if short = true then 255 else 256) x
theorem blkB_len (L : Nat) (x : Int) (i : Nat) (h : i ≤ L) : (blkB L x i).length = L := by simp [blkB]; omega
theorem blkB_byt (L : Nat) (x : Int) (i : Nat) (h : 0 ≤ x ∧ x ≤ 255) : Byt (blkB L x i) := byt_append (byt_of_mem fun y hy => by rw [List.eq_of_mem_replicate hy]; exact h) (byt_replicate _)
theorem blkB_set (L : Nat) (x : Int) (i : Nat) (h : i < L) : (blkB L x i).set i x = blkB L x (i + 1) := by
  unfold blkB
  rw [List.set_append, List.length_replicate, if_neg (Nat.lt_irrefl i), Nat.sub_self, show L - i = (L - (i + 1)) + 1 by omega, List.replicate_succ, List.set_cons_zero, List.replicate_succ', List.append_assoc]
  rfl
theorem blkB_zero (L : Nat) (x : Int) : blkB L x 0 = List.replicate L 0 := by simp [blkB]
theorem blkB_full (L : Nat) (x : Int) : blkB L x L = List.replicate L x := by simp [blkB]
/-- A row of L bytes with room for 256, one of them set. -/
theorem OB.setOne {w : World} {B g L : Nat} {l : List Int} (h : OB w B (.slice (some ⟨g, 0, none⟩) L 256) l) (hl : l.length = L) (h0 : 0 < L) {i : Nat} (hi : i < L) {x : Int} (hx : 0 ≤ x ∧ x ≤ 255) :
    OB (w.setCell ⟨g, i, none⟩ (.int .u8 x)) B (.slice (some ⟨g, 0, none⟩) L 256) (l.set i x) ∧ w.cell? ⟨g, i, none⟩ = some (.int .u8 (l.getD i 0)) ∧ w.frozen? ⟨g, i, none⟩ = false := by
  obtain ⟨hb, h1, h2⟩ := h
  rcases h2 with ⟨e, _⟩ | ⟨g', cap, cur, e, hB, hh, hnc, hcm, hcs, ht⟩
  · cases e
  · injection e with a1 a2 a3
    injection a1 with a1
    injection a1 with a1
    subst a1
    subst a3
    have hil : i < l.length := by omega
    refine ⟨⟨fun j => ?_, by simp, .inr ⟨g, 256, _, by simp [hl], hB, heap_setCell_same w g i _ _ (.int .u8 x) hh, by simp; omega, hcm, by simp [hcs], ?_⟩⟩, ?_, by simp [World.frozen?, hh]⟩
    · by_cases e : i = j
      · subst e
        rw [List.getD_eq_getElem?_getD, List.getElem?_set_self hil]; exact hx
      · rw [List.getD_eq_getElem?_getD, List.getElem?_set_ne e, ← List.getD_eq_getElem?_getD]; exact hb j
    · rw [Array.toList_setIfInBounds, List.take_set, List.map_set]
      rw [List.length_set, ht]
    · rw [cell_of_row _ _ _ _ _ _ hh]
      have : (cur.toList.take (l.length * 1))[i]? = (l.map (Value.int .u8))[i]? := by rw [ht]
      rw [List.getElem?_take, if_pos (by omega)] at this
      simpa [List.getD_eq_getElem?_getD, hil] using this
theorem ob_row {w : World} {g M L : Nat} (hL : L ≤ M) (hM : M ≤ maxLen) (hh : w.heap[g]? = some (.cells (Array.replicate M (.int .u8 0)) 5 (0, 0))) : OB w g (.slice (some ⟨g, 0, none⟩) L M) (List.replicate L 0) :=
  ⟨byt_replicate _, by simp, .inr ⟨g, M, _, by simp, Nat.le_refl _, hh, by simpa using hL, hM, by simp, by simp [List.take_replicate, Nat.min_eq_left hL]⟩⟩
theorem block11_of (k n x : Int) (keep short : Bool) (hx : 0 ≤ x ∧ x ≤ 255) (w : World) : Calls Tryz.prog 20 #[opV k n x keep short] w fun e w' => ∃ v, e = .returned v ∧ OB w' w.heap.size v (blkL x short) ∧ Below w.heap.size w w' := by
  obtain ⟨u, hu⟩ : ∃ u, u = w.alloc (.cells #[.int .i64 k, .int .i64 n, .int .u8 x, .bool keep, .bool short] 37) := ⟨_, rfl⟩
  have hbx : Below w.heap.size w u := by rw [hu]; exact below_box w _
  have hnx : u.heap[w.heap.size]? = some (.cells #[.int .i64 k, .int .i64 n, .int .u8 x, .bool keep, .bool short] 37 (0, 0)) := by rw [hu]; exact heap_alloc_new w _
  have hsu : w.heap.size < u.heap.size := by rw [hu]; simp
  obtain ⟨u2, hu2⟩ : ∃ u2, u2 = u.alloc (.cells (Array.replicate 256 (.int .u8 0)) 5) := ⟨_, rfl⟩
  have hb2 : Below u.heap.size u u2 := by rw [hu2]; exact below_box u _
  have hs2 : u2.heap.size = u.heap.size + 1 := by rw [hu2]; simp
  have hn2 : u2.heap[u.heap.size]? = some (.cells (Array.replicate 256 (.int .u8 0)) 5 (0, 0)) := by
    rw [hu2]; exact heap_alloc_new u _
  have hx2 : u2.heap[w.heap.size]? = some (.cells #[.int .i64 k, .int .i64 n, .int .u8 x, .bool keep, .bool short] 37 (0, 0)) := (hb2.block _ (by omega)).trans hnx
  have hbw2 : Below w.heap.size w u2 := hbx.trans (hb2.mono (by omega))
  obtain ⟨c2, _⟩ := box_cell (i := 2) hx2 rfl
  obtain ⟨c4, _⟩ := box_cell (i := 4) hx2 rfl
  have rowOf : ∀ L, L ≤ 256 → OB u2 (u.heap.size) (.slice (some ⟨u.heap.size, 0, none⟩) L 256) (blkB L x 0) := fun L hL => by
    rw [blkB_zero]
    exact ob_row hL (by decide) hn2
  -- the loop
  have hround : ∀ (wr : World) (L i : Nat), 0 < L → i < L → OB wr (u.heap.size) (.slice (some ⟨u.heap.size, 0, none⟩) L 256) (blkB L x i) →
      OB (wr.setCell ⟨u.heap.size, i, none⟩ (.int .u8 x)) (u.heap.size) (.slice (some ⟨u.heap.size, 0, none⟩) L 256) (blkB L x (i + 1)) ∧ wr.cell? ⟨u.heap.size, i, none⟩ = some (.int .u8 ((blkB L x i).getD i 0)) ∧ wr.frozen? ⟨u.heap.size, i, none⟩ = false := fun wr L i h0 hi hob => by
    have := hob.setOne (blkB_len L x i (by omega)) h0 hi hx
    rw [blkB_set L x i hi] at this
    exact this
  have HR := Lib.hid hround
  have HROW := Lib.hid rowOf
  have HBW := Lib.hid hbw2
  have HU := Lib.hid hu
  have HU2 := Lib.hid hu2
  have HX2 := Lib.hid hx2
  have HSU := Lib.hid hsu
  clear hround rowOf hbw2 hbx hnx hsu hb2 hs2 hn2 hx2 hu hu2
  unfold opV
  cases short
  · go_enter Tryz.func20, Tryz.ntmps20
    go_upto_region 1 with (fail)
    rw [← HU.out]
    go_wp2_with (at_make; refine wpList_make_u8 u rfl _ _ rfl 256 256 rfl rfl rfl (by decide) ?_; rw [← HU2.out])
    go_loopw [12] (fun i wr => ∃ j : Nat, j ≤ 256 ∧ i = .int .i64 j ∧ Hid (OB wr (u.heap.size) (.slice (some ⟨u.heap.size, 0, none⟩) 256 256) (blkB 256 x j)) ∧ Hid (Below (u.heap.size) u2 wr)) (fun i _ => 256 - (intOf i).toNat)
    case atStart => exact ⟨0, by omega, rfl, Lib.hid (HROW.out 256 (by decide)), Lib.hid (Below.refl _ _)⟩
    case round =>
      obtain ⟨j, hj, rfl, HO, HB⟩ := hrel
      by_cases hlt : j < 256
      · obtain ⟨x1, x2, x3⟩ := HR.out wr 256 j (by decide) hlt HO.out
        have HX1 := Lib.hid x1
        have ej : (j : Int) < 256 := by omega
        have cc := (HB.out.cell (p := ⟨w.heap.size, 2, none⟩) HSU.out).trans c2
        clear x1 HO
        go_wp2
        go_roundw
        case rel => exact ⟨j + 1, by omega, by go_num, HX1.out, HB.out.setCell (Nat.le_refl _) _⟩
        case measure => simp [intOf]; omega
      · obtain rfl : j = 256 := by omega
        go_wp2
        go_ret
        have e := HO.out
        rw [blkB_full] at e
        exact ⟨_, rfl, e.more (Nat.le_of_lt HSU.out), HBW.out.trans (HB.out.mono (Nat.le_of_lt HSU.out))⟩
  · go_enter Tryz.func20, Tryz.ntmps20
    go_upto_region 1 with (fail)
    rw [← HU.out]
    go_wp2_with (at_make; refine wpList_make_u8 u rfl _ _ rfl 256 256 rfl rfl rfl (by decide) ?_; rw [← HU2.out])
    go_loopw [12] (fun i wr => ∃ j : Nat, j ≤ 255 ∧ i = .int .i64 j ∧ Hid (OB wr (u.heap.size) (.slice (some ⟨u.heap.size, 0, none⟩) 255 256) (blkB 255 x j)) ∧ Hid (Below (u.heap.size) u2 wr)) (fun i _ => 255 - (intOf i).toNat)
    case atStart => exact ⟨0, by omega, rfl, Lib.hid (HROW.out 255 (by decide)), Lib.hid (Below.refl _ _)⟩
    case round =>
      obtain ⟨j, hj, rfl, HO, HB⟩ := hrel
      by_cases hlt : j < 255
      · obtain ⟨x1, x2, x3⟩ := HR.out wr 255 j (by decide) hlt HO.out
        have HX1 := Lib.hid x1
        have ej : (j : Int) < 255 := by omega
        have cc := (HB.out.cell (p := ⟨w.heap.size, 2, none⟩) HSU.out).trans c2
        clear x1 HO
        go_wp2
        go_roundw
        case rel => exact ⟨j + 1, by omega, by go_num, HX1.out, HB.out.setCell (Nat.le_refl _) _⟩
        case measure => simp [intOf]; omega
      · obtain rfl : j = 255 := by omega
        go_wp2
        go_ret
        have e := HO.out
        rw [blkB_full] at e
        exact ⟨_, rfl, e.more (Nat.le_of_lt HSU.out), HBW.out.trans (HB.out.mono (Nat.le_of_lt HSU.out))⟩
end Go.Proofs.YtigbhdgcjklhoaaGreat
