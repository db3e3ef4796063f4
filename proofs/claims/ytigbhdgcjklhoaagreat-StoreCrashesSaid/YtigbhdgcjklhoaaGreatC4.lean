/- Values of type []int that read as lists, and such of one's own; rows of numbers; a row of elements of one size: one is loaded, stored; nothing but one block has turned. -/
import Derived.Laws.Rows
import Derived.Laws.Tables
import Derived.WalkKit
import Derived.Laws.BitsAllLaws
import Derived.Test.YtigbhdgcjklhoaaGreatC1
import Derived.Test.YtigbhdgcjklhoaaGreatC3
namespace Go.Proofs.YtigbhdgcjklhoaaGreat
set_option maxRecDepth 100000
open Go.RowKit
set_option linter.unusedVariables false

/-- A value of type []int that reads as l. -/
def ISl (w : World) (v : Value) (l : List Int) : Prop :=
  (v = .slice none 0 0 ∧ l = []) ∨ ∃ a cap, v = .slice (some a) l.length cap ∧ ∀ j, j < l.length → a.block < w.heap.size ∧ a.spot = none ∧ w.cell? ⟨a.block, a.off + j, none⟩ = some (.int .i64 (l.getD j 0))
theorem isl_nil (w : World) : ISl w (.slice none 0 0) [] := .inl ⟨rfl, rfl⟩
theorem ISl.below {w w' : World} {v : Value} {l : List Int} (h : ISl w v l) (hb : Below w.heap.size w w') : ISl w' v l := by
  rcases h with h | ⟨a, cap, hv, hc⟩
  · exact .inl h
  · refine .inr ⟨a, cap, hv, fun j hj => ?_⟩
    obtain ⟨h1, h2, h3⟩ := hc j hj
    exact ⟨Nat.lt_of_lt_of_le h1 hb.size, h2, by rw [hb.cell (p := ⟨a.block, a.off + j, none⟩) h1, h3]⟩
theorem ISl.open' {w : World} {v : Value} {l : List Int} (h : ISl w v l) : ∃ ao cap, v = .slice ao l.length cap ∧ (0 < l.length → ∃ b off, ao = some ⟨b, off, none⟩ ∧ b < w.heap.size ∧
    ∀ j, j < l.length → w.cell? ⟨b, off + j, none⟩ = some (.int .i64 (l.getD j 0))) := by
  rcases h with ⟨hv, hk⟩ | ⟨⟨b, off, spot⟩, cap, hv, hc⟩
  · exact ⟨none, 0, by rw [hv, hk]; rfl, fun h => by rw [hk] at h; simp at h⟩
  · refine ⟨_, cap, hv, fun h0 => ?_⟩
    obtain ⟨h1, h2, _⟩ := hc 0 h0
    obtain rfl : spot = none := h2
    exact ⟨b, off, rfl, h1, fun j hj => (hc j hj).2.2⟩
theorem ISl.at {w : World} {v : Value} {l : List Int} (h : ISl w v l) (h0 : 0 < l.length) : ∃ b off cap, v = .slice (some ⟨b, off, none⟩) l.length cap ∧ b < w.heap.size ∧
    ∀ j, j < l.length → w.cell? ⟨b, off + j, none⟩ = some (.int .i64 (l.getD j 0)) := by
  obtain ⟨ao, cap, hv, hc⟩ := h.open'
  obtain ⟨b, off, rfl, h1, h2⟩ := hc h0
  exact ⟨b, off, cap, hv, h1, h2⟩
theorem ISl.shape {w : World} {v : Value} {l : List Int} (h : ISl w v l) : ∃ ao cap, v = .slice ao l.length cap := by
  obtain ⟨ao, cap, hv, _⟩ := h.open'
  exact ⟨ao, cap, hv⟩

/-- A row of numbers in memory. -/
def iC (l : List Int) : List Value := l.map (Value.int .i64)
theorem iC_length (l : List Int) : (iC l).length = l.length := List.length_map _
theorem iC_one (l : List Int) : ∀ v ∈ iC l, v.oneCell' = true := fun v hv => by
  obtain ⟨x, _, rfl⟩ := List.mem_map.1 hv; rfl
def iO (l : List Int) (T : TypeId) : Obj := .cells (iC l).toArray T (0, 0)
theorem io_cell {W : World} {g : Nat} {l : List Int} {T : TypeId} (h : W.heap[g]? = some (iO l T)) (k : Nat) (hk : k < l.length) : W.cell? ⟨g, k, none⟩ = some (.int .i64 (l.getD k 0)) := by
  rw [cell_of_row _ _ _ _ _ _ h]
  simp [iC, List.getD_eq_getElem?_getD, hk]
theorem io_free {W : World} {g : Nat} {l : List Int} {T : TypeId} (h : W.heap[g]? = some (iO l T)) (k : Nat) : W.frozen? ⟨g, k, none⟩ = false := by
  simp [World.frozen?, h, iO]
theorem io_set {W : World} {g : Nat} {l : List Int} {T : TypeId} (h : W.heap[g]? = some (iO l T)) (j : Nat) (y : Int) : (W.setCell ⟨g, j, none⟩ (.int .i64 y)).heap[g]? = some (iO (l.set j y) T) := by
  rw [heap_setCell_same W g j _ _ _ h]
  simp [iO, iC]
theorem io_range {W : World} {g : Nat} {l : List Int} {T : TypeId} (h : W.heap[g]? = some (iO l T)) : W.rangeAt g 0 (iC l) :=
  range_row h (by rw [List.drop_zero, List.take_length])

/-- A []int of one's own, from block B on, that reads as l. -/
def IR (w : World) (B : Nat) (v : Value) (l : List Int) : Prop := w.ownsRow B 3 1 v l.length (iC l)
theorem IR.sl {w : World} {B : Nat} {v : Value} {l : List Int} (h : IR w B v l) : ISl w v l := by
  rcases h.2 with ⟨hv, hl⟩ | ⟨g, cap, cur, hv, hg, hh, hnc, hcm, hcs, ht⟩
  · exact .inl ⟨hv, List.eq_nil_of_length_eq_zero hl⟩
  · refine .inr ⟨_, cap, hv, fun j hj => ⟨(Array.getElem?_eq_some_iff.1 hh).1, rfl, ?_⟩⟩
    show w.cell? ⟨g, 0 + j, none⟩ = _
    rw [Nat.zero_add, cell_of_row _ _ _ _ _ _ hh]
    have : (cur.toList.take (l.length * 1))[j]? = (iC l)[j]? := by rw [ht]
    rw [List.getElem?_take, if_pos (by omega)] at this
    simpa [iC, List.getD_eq_getElem?_getD, hj] using this
theorem IR.below {w w' : World} {B : Nat} {v : Value} {l : List Int} (h : IR w B v l) (hb : Below w.heap.size w w') : IR w' B v l := by
  refine ⟨h.1, ?_⟩
  rcases h.2 with h | ⟨g, cap, cur, hv, hg, hh, r⟩
  · exact .inl h
  · exact .inr ⟨g, cap, cur, hv, hg, by rw [hb.block g (Array.getElem?_eq_some_iff.1 hh).1]; exact hh, r⟩
theorem ir_nil (w : World) (B : Nat) : IR w B (.slice none 0 0) [] := World.ownsRow_nil w B _ _
theorem IR.of_row {w : World} {B g : Nat} {l : List Int} (hB : B ≤ g) (hg : w.heap[g]? = some (iO l 3)) (hm : l.length ≤ maxLen) :
    IR w B (.slice (some ⟨g, 0, none⟩) l.length l.length) l := by
  refine ⟨by simp [iC], .inr ⟨g, l.length, _, rfl, hB, hg, Nat.le_refl _, hm, by simp [iC], ?_⟩⟩
  rw [List.take_of_length_le (by simp [iC])]

theorem infoI64 : (Tryz.prog.info? 3).map (fun i => (i.zero, i.size, i.bytes)) = some (some (.int .i64 0), 1, 8) := by kernel_rfl
theorem made_int (n : Nat) : madeCells (Value.int .i64 0).cells n = (iC (List.replicate n 0)).toArray := by
  apply Array.ext'
  rw [show (Value.int .i64 0).cells = #[Value.int .i64 0] from rfl, toList_madeCells_one]
  simp [iC]
/-- make([]int, n). -/
theorem wpList_make_int (w : World) {ops : Array Oper} {rest : List Oper} {o : Oper} {a : Act} {Q : Exit → Act → World → Prop}
    (hg : o.guard = none) (l c : Operand) (hop : o.op = Op.makeSlice 69 l c) (C : Int) (n : Nat) (hl : a.eval l = .int .i64 C) (hc : a.eval c = .int .i64 C) (hC : C = n) (hn : n ≤ 1000000)
    (hK : wpList Tryz.prog ops Q rest (a.put o.dst (.slice (some ⟨w.heap.size, 0, none⟩) n n)) (w.alloc (iO (List.replicate n 0) 3))) :
    wpList Tryz.prog ops Q (o :: rest) a w := by
  refine wpList_plain hg fun K hK' => ?_
  obtain ⟨i, h2, h3, h4, h5⟩ := info_parts infoI64
  subst hC
  have hrun := run_make (P := Tryz.prog) w 69 3 i (.int .i64 0) Tryz.underlying69 h2 h3 .i64 .i64 n n (by omega) (by omega) (by rw [h5]; omega) (by omega)
  unfold Oper.wp
  simp only [Int.toNat_natCast, h4, Nat.mul_one, made_int] at hrun
  simp [execOp, hop, hl, hc, hrun, Result.andThen]
  exact hK' _ _ hK
/-- append of one number onto numbers of one's own (its cell lies in the block that was made last). -/
theorem wpList_append_int (w1 : World) (x : Int) {ops : Array Oper} {rest : List Oper} {o : Oper} {a : Act} {Q : Exit → Act → World → Prop} (hgd : o.guard = none) (s y : Operand)
    (ho : o.op = .call { callee := .builtin .append, args := #[s, y], argTypes := #[69, 69] })
    (B : Nat) (v : Value) (l : List Int) (hs : a.eval s = v) (hown : IR w1 B v l) (hO : l.length ≤ 1000000) (hy : a.eval y = .slice (some ⟨w1.heap.size, 0, none⟩) 1 1) (hB : B ≤ w1.heap.size)
    (h : ∀ v' w', IR w' B v' (l ++ [x]) → Below B w1 w' → wpList Tryz.prog ops Q rest (a.put o.dst v') w') : wpList Tryz.prog ops Q (o :: rest) a (w1.alloc (.cells #[.int .i64 x] 3)) := by
  obtain ⟨t, h2, h3, h4, h5⟩ := info_parts infoI64
  have hbel : Below w1.heap.size w1 (w1.alloc (.cells #[.int .i64 x] 3)) := below_box _ _
  have hnew : (w1.alloc (.cells #[.int .i64 x] 3)).heap[w1.heap.size]? = some (.cells #[.int .i64 x] 3 (0, 0)) := heap_alloc_new w1 _
  have hf := hown.below hbel
  refine wpList_append_own _ hgd s y 69 ho B 3 t _ 1 8 Tryz.underlying69 h2 h3 h4 h5 rfl (by decide) v l.length _ hs hf ⟨w1.heap.size, 0, none⟩ 1 1 [.int .i64 x] hy rfl ?_ ?_ (by simp only [maxLen]; omega) (by omega) (by simp; omega) fun v' w' h6 h7 _ => ?_
  · intro m u hm
    have hm2 : m < 1 := by simpa using (List.getElem?_eq_some_iff.1 hm).1
    obtain rfl : m = 0 := by omega
    rw [Addr.add_lit, Nat.zero_add, cell_of_row _ _ _ _ _ _ hnew, ← hm]; rfl
  · intro u hu
    simp at hu
    subst hu; rfl
  · refine h v' w' ?_ ((hbel.mono hB).trans ((Below.refl _ _).grown h7 (by simp; omega) fun k hk => (World.ownsRow.lt hf k hk).1))
    have e : iC (l ++ [x]) = iC l ++ [.int .i64 x] := by simp [iC]
    show w'.ownsRow B 3 1 v' (l ++ [x]).length (iC (l ++ [x]))
    rw [e, List.length_append]; exact h6

section
variable {α : Type} {f : α → List Value} {s : Nat}
/-- One element of a row that is known whole. -/
theorem flat_range {w : World} {g k : Nat} {t : TypeId} {L : List α} (hg : w.heap[g]? = some (.cells (L.flatMap f).toArray t (0, 0))) (hf : ∀ x ∈ L, (f x).length = s) (hk : k < L.length) : w.rangeAt g (k * s) (f L[k]) := by
  refine range_row hg ?_
  rw [hf _ (List.getElem_mem hk)]
  exact flat_get hf k hk
/-- A struct into a row of structs that is known whole. -/
theorem wpList_store_flat {ops : Array Oper} {rest : List Oper} {op : Oper} {a : Act} {w : World} {Q : Exit → Act → World → Prop} (hgd : op.guard = none) (T : TypeId) (x y : Operand) (ho : op.op = .store T x y)
    (hs : (Tryz.prog.info? T).map (·.size) = some s) (g k : Nat) (L : List α) (z : α) (t : TypeId) (hx : a.eval x = .pointer (some ⟨g, k * s, none⟩)) (hy : a.eval y = .agg (f z).toArray)
    (hg : w.heap[g]? = some (.cells (L.flatMap f).toArray t (0, 0))) (hk : k < L.length) (hf : ∀ x ∈ L, (f x).length = s) (hz : (f z).length = s) (h1 : ∀ v ∈ f z, v.oneCell' = true)
    (h : ∀ w', Wrote w w' g → w'.heap[g]? = some (.cells ((L.set k z).flatMap f).toArray t (0, 0)) → wpList Tryz.prog ops Q rest (a.put op.dst undef) w') : wpList Tryz.prog ops Q (op :: rest) a w := by
  have hle : k * s + s ≤ L.length * s := by
    have := Nat.mul_le_mul_right s (show k + 1 ≤ L.length from hk)
    rw [Nat.succ_mul] at this; omega
  have hl : k * s + (f z).length ≤ (L.flatMap f).length := by rw [flat_length hf, hz]; exact hle
  refine wpList_store_mid hgd T x y ho g (k * s) (f z).toArray hx hy (there_row hg (by simpa using hl)) (by rw [hs]; simp [hz]) (all_oneCell_toArray h1) ?_
  have e := setCells_row hg hl h1
  rw [show (f z).toArray.toList = f z from rfl, e]
  refine h _ (Wrote.setRow _ _ _) ?_
  rw [setRow_heap _ _ _ _ _ _ hg, flat_set hf k hk z hz]
end
/-- A struct of numbers, out of a range, as a whole. -/
theorem wpList_load_nums {ops : Array Oper} {rest : List Oper} {op : Oper} {a : Act} {w : World} {Q : Exit → Act → World → Prop} (hgd : op.guard = none) (T : TypeId) (x : Operand) (ho : op.op = .load T x)
    (b o : Nat) (hx : a.eval x = .pointer (some ⟨b, o, none⟩)) (l : List Int) (d : TypeDesc) (hc : w.rangeAt b o (iC l))
    (hu : Tryz.prog.underlying T = some d) (hd : d.isRow = true) (hi : (Tryz.prog.info? T).map (·.size) = some l.length)
    (h : wpList Tryz.prog ops Q rest (a.put op.dst (.agg (iC l).toArray)) w) : wpList Tryz.prog ops Q (op :: rest) a w :=
  wpList_load_mid hgd T x ho b o hx (iC l) d hc hu hd (by rw [hi, iC_length]) h
theorem range_low {w w' : World} {b o : Nat} {cs : List Value} (h : w.rangeAt b o cs) (hb : Below w.heap.size w w') (hl : b < w.heap.size) : w'.rangeAt b o cs := fun j v hv => by
  rw [hb.cell (p := ⟨b, o + j, none⟩) hl]; exact h j v hv

/-- Nothing but block g has turned, of what was there. -/
def KeptG (w w' : World) (g : Nat) : Prop := w'.os = w.os ∧ w'.tape = w.tape ∧ w'.output = w.output ∧ w.heap.size ≤ w'.heap.size ∧ ∀ k, k < w.heap.size → k ≠ g → w'.heap[k]? = w.heap[k]?
theorem KeptG.refl (w : World) (g : Nat) : KeptG w w g := ⟨rfl, rfl, rfl, Nat.le_refl _, fun _ _ _ => rfl⟩
theorem KeptG.then {w w' w'' : World} {g : Nat} (h : KeptG w w' g) (hb : Below w'.heap.size w' w'') : KeptG w w'' g :=
  ⟨hb.os.trans h.1, hb.tape.trans h.2.1, hb.output.trans h.2.2.1, Nat.le_trans h.2.2.2.1 hb.size, fun k hk hne => by rw [hb.block k (Nat.lt_of_lt_of_le hk h.2.2.2.1)]; exact h.2.2.2.2 k hk hne⟩
theorem KeptG.wrote {w w' w'' : World} {g : Nat} (h : KeptG w w' g) (hb : Wrote w' w'' g) : KeptG w w'' g :=
  ⟨hb.1.trans h.1, hb.2.1.trans h.2.1, hb.2.2.1.trans h.2.2.1, by rw [hb.2.2.2.1]; exact h.2.2.2.1, fun k hk hne => by rw [hb.2.2.2.2 k hne]; exact h.2.2.2.2 k hk hne⟩
theorem KeptG.below {w w' : World} {g B : Nat} (h : KeptG w w' g) (hB : B ≤ g) (hw : B ≤ w.heap.size) : Below B w w' :=
  ⟨h.1, h.2.1, h.2.2.1, h.2.2.2.1, fun k hk => h.2.2.2.2 k (Nat.lt_of_lt_of_le hk hw) (by omega)⟩
theorem KeptG.cell {w w' : World} {g : Nat} (h : KeptG w w' g) {b o : Nat} (hb : b < w.heap.size) (hne : b ≠ g) : w'.cell? ⟨b, o, none⟩ = w.cell? ⟨b, o, none⟩ := by
  simp only [World.cell?]; rw [h.2.2.2.2 b hb hne]

theorem strs_ne {l m : List Int} (hl : Byt l) (hm : Byt m) (h : l ≠ m) (hi : ∀ {l m : List Int}, Byt l → Byt m → (strOfNums l).data.toList = (strOfNums m).data.toList → l = m) :
    ((strOfNums l).toList != (strOfNums m).toList) = true ∧ ((strOfNums l).toList == (strOfNums m).toList) = false := by
  have hn : ¬ (strOfNums l).toList = (strOfNums m).toList := fun hh => by
    rw [ByteArray.toList_eq, ByteArray.toList_eq] at hh
    exact h (hi hl hm hh)
  exact ⟨by rw [bne_iff_ne]; exact hn, by rw [beq_eq_false_iff_ne]; exact hn⟩
end Go.Proofs.YtigbhdgcjklhoaaGreat

/- What stays behind a call that turns its own blocks alone: Chg; slices that are apart from such blocks; a [][]byte of one's own whose elements lie anywhere but in it. -/
namespace Go.Proofs.YtigbhdgcjklhoaaGreat
set_option maxRecDepth 100000
open Go.RowKit
set_option linter.unusedVariables false

/-- Of what was there nothing has turned but what P owns; what P' owns is P's, or new. -/
structure Chg (P P' : Nat → Prop) (w w' : World) : Prop where
  os : w'.os = w.os
  tape : w'.tape = w.tape
  output : w'.output = w.output
  size : w.heap.size ≤ w'.heap.size
  keep : ∀ k, k < w.heap.size → ¬ P k → w'.heap[k]? = w.heap[k]? ∧ ¬ P' k
theorem Chg.refl (P : Nat → Prop) (w : World) : Chg P P w w := ⟨rfl, rfl, rfl, Nat.le_refl _, fun _ _ h => ⟨rfl, h⟩⟩
theorem Chg.trans {P P' P'' : Nat → Prop} {a b c : World} (h : Chg P P' a b) (k : Chg P' P'' b c) : Chg P P'' a c :=
  ⟨k.os.trans h.os, k.tape.trans h.tape, k.output.trans h.output, Nat.le_trans h.size k.size, fun i hi hn => by
    obtain ⟨h1, h2⟩ := h.keep i hi hn
    obtain ⟨h3, h4⟩ := k.keep i (Nat.lt_of_lt_of_le hi h.size) h2
    exact ⟨h3.trans h1, h4⟩⟩
theorem Chg.of_below {P : Nat → Prop} {w w' : World} (h : Below w.heap.size w w') : Chg P P w w' := ⟨h.os, h.tape, h.output, h.size, fun k hk hn => ⟨h.block k hk, hn⟩⟩
theorem Chg.below {P P' : Nat → Prop} {w w' : World} (h : Chg P P' w w') {B : Nat} (hB : ∀ k, k < B → k < w.heap.size ∧ ¬ P k) : Below B w w' :=
  ⟨h.os, h.tape, h.output, h.size, fun k hk => (h.keep k (hB k hk).1 (hB k hk).2).1⟩

/-- A slice does not lie in P's blocks. -/
def Apt (P : Nat → Prop) (v : Value) : Prop := ∀ ad n cap, v = .slice (some ad) n cap → 0 < n → ¬ P ad.block
theorem Apt.nil (P : Nat → Prop) : Apt P (.slice none 0 0) := fun ad n cap h => by cases h
theorem Apt.new {P : Nat → Prop} {g off n cap : Nat} (h : ¬ P g) : Apt P (.slice (some ⟨g, off, none⟩) n cap) := fun ad n' cap' e _ => by
  obtain rfl := Option.some.inj (Value.slice.inj e).1
  exact h
theorem BSl.chg {P P' : Nat → Prop} {w w' : World} {v : Value} {l : List Int} (h : BSl w v l) (ha : Apt P v) (hc : Chg P P' w w') : BSl w' v l ∧ Apt P' v := by
  rcases h.2 with ⟨hv, hl⟩ | ⟨a, cap, hv, hcap, hcells⟩
  · exact ⟨⟨h.1, .inl ⟨hv, hl⟩⟩, by rw [hv]; exact Apt.nil _⟩
  · refine ⟨⟨h.1, .inr ⟨a, cap, hv, hcap, fun j hj => ?_⟩⟩, fun ad n cap' e hn => ?_⟩
    · obtain ⟨h1, h2, h3⟩ := hcells j hj
      have hk := hc.keep a.block h1 (ha _ _ _ hv (by omega))
      exact ⟨Nat.lt_of_lt_of_le h1 hc.size, h2, by rw [World.cell?_of_block (a := ⟨a.block, a.off + j, none⟩) (w := w) hk.1]; exact h3⟩
    · obtain ⟨rfl, rfl⟩ : ad = a ∧ n = l.length := by
        rw [hv] at e
        exact ⟨(Option.some.inj (Value.slice.inj e).1).symm, (Value.slice.inj e).2.1.symm⟩
      exact (hc.keep ad.block (hcells 0 hn).1 (ha _ _ _ hv hn)).2
/-- A []int, apart from P's blocks. -/
theorem ISl.chg {P P' : Nat → Prop} {w w' : World} {v : Value} {l : List Int} (h : ISl w v l) (ha : Apt P v) (hc : Chg P P' w w') : ISl w' v l ∧ Apt P' v := by
  rcases h with ⟨hv, hl⟩ | ⟨a, cap, hv, hcells⟩
  · exact ⟨.inl ⟨hv, hl⟩, by rw [hv]; exact Apt.nil _⟩
  · refine ⟨.inr ⟨a, cap, hv, fun j hj => ?_⟩, fun ad n cap' e hn => ?_⟩
    · obtain ⟨h1, h2, h3⟩ := hcells j hj
      have hk := hc.keep a.block h1 (ha _ _ _ hv (by omega))
      exact ⟨Nat.lt_of_lt_of_le h1 hc.size, h2, by rw [World.cell?_of_block (a := ⟨a.block, a.off + j, none⟩) (w := w) hk.1]; exact h3⟩
    · obtain ⟨rfl, rfl⟩ : ad = a ∧ n = l.length := by
        rw [hv] at e
        exact ⟨(Option.some.inj (Value.slice.inj e).1).symm, (Value.slice.inj e).2.1.symm⟩
      exact (hc.keep ad.block (hcells 0 hn).1 (ha _ _ _ hv hn)).2
/-- A [][]byte that reads as L, itself and its elements apart from P's blocks. -/
def BBa (w : World) (P : Nat → Prop) (v : Value) (L : List (List Int)) : Prop :=
  (v = .slice none 0 0 ∧ L = []) ∨ ∃ a cap, v = .slice (some a) L.length cap ∧ L.length ≤ cap ∧ ∀ j, j < L.length → (a.block < w.heap.size ∧ ¬ P a.block) ∧ a.spot = none ∧
    ∃ u, w.cell? ⟨a.block, a.off + j, none⟩ = some u ∧ BSl w u (L.getD j []) ∧ Apt P u
theorem BBa.sl {w : World} {P : Nat → Prop} {v : Value} {L : List (List Int)} (h : BBa w P v L) : BBSl w v L := by
  rcases h with h | ⟨a, cap, hv, hcap, hc⟩
  · exact .inl h
  · refine .inr ⟨a, cap, hv, hcap, fun j hj => ?_⟩
    obtain ⟨h1, h2, u, h3, h4, _⟩ := hc j hj
    exact ⟨h1.1, h2, u, h3, h4⟩
theorem BBa.chg {P P' : Nat → Prop} {w w' : World} {v : Value} {L : List (List Int)} (h : BBa w P v L) (hc : Chg P P' w w') : BBa w' P' v L := by
  rcases h with h | ⟨a, cap, hv, hcap, hcells⟩
  · exact .inl h
  · refine .inr ⟨a, cap, hv, hcap, fun j hj => ?_⟩
    obtain ⟨⟨h1, h1'⟩, h2, u, h3, h4, h5⟩ := hcells j hj
    obtain ⟨k1, k2⟩ := hc.keep a.block h1 h1'
    obtain ⟨m1, m2⟩ := h4.chg h5 hc
    exact ⟨⟨Nat.lt_of_lt_of_le h1 hc.size, k2⟩, h2, u, by rw [World.cell?_of_block (a := ⟨a.block, a.off + j, none⟩) (w := w) k1]; exact h3, m1, m2⟩
theorem BBa.nil (w : World) (P : Nat → Prop) : BBa w P (.slice none 0 0) [] := .inl ⟨rfl, rfl⟩
/-- What was there ahead of the disk is apart from it. -/
theorem BSl.apt_low {w : World} {B : Nat} {P : Nat → Prop} {v : Value} {l : List Int} (h : BSl w v l) (hB : w.heap.size ≤ B) (hP : ∀ k, P k → B ≤ k) : Apt P v := by
  intro ad n cap e hn hp
  rcases h.2 with ⟨hv, _⟩ | ⟨a, c, hv, _, hc⟩
  · rw [hv] at e; cases e
  · rw [hv] at e
    obtain ⟨rfl, rfl⟩ : a = ad ∧ l.length = n := ⟨Option.some.inj (Value.slice.inj e).1, (Value.slice.inj e).2.1⟩
    have := (hc 0 hn).1
    have := hP _ hp
    omega
theorem ISl.apt_low {w : World} {B : Nat} {P : Nat → Prop} {v : Value} {l : List Int} (h : ISl w v l) (hB : w.heap.size ≤ B) (hP : ∀ k, P k → B ≤ k) : Apt P v := by
  intro ad n cap e hn hp
  rcases h with ⟨hv, _⟩ | ⟨a, c, hv, hc⟩
  · rw [hv] at e; cases e
  · rw [hv] at e
    obtain ⟨rfl, rfl⟩ : a = ad ∧ l.length = n := ⟨Option.some.inj (Value.slice.inj e).1, (Value.slice.inj e).2.1⟩
    have := (hc 0 hn).1
    have := hP _ hp
    omega
theorem BBSl.apart_low {w : World} {B : Nat} {P : Nat → Prop} {v : Value} {L : List (List Int)} (h : BBSl w v L) (hB : w.heap.size ≤ B) (hP : ∀ k, P k → B ≤ k) : BBa w P v L := by
  rcases h with h | ⟨a, cap, hv, hcap, hc⟩
  · exact .inl h
  · refine .inr ⟨a, cap, hv, hcap, fun j hj => ?_⟩
    obtain ⟨h1, h2, u, h3, h4⟩ := hc j hj
    exact ⟨⟨h1, fun hp => by have := hP _ hp; omega⟩, h2, u, h3, h4, h4.apt_low hB hP⟩
/-- A [][]byte of one's own, from block B on, that reads as L: its elements apart from P's blocks, and from its own. -/
def BBo (w : World) (B : Nat) (P : Nat → Prop) (v : Value) (L : List (List Int)) : Prop :=
  ∃ vs : List Value, vs.length = L.length ∧ (∀ j, j < L.length → BSl w (vs.getD j undef) (L.getD j []) ∧ Apt P (vs.getD j undef) ∧ Apt (fun k => v.ownBlock = some k) (vs.getD j undef)) ∧ w.ownsRow B 59 1 v L.length vs
theorem BBo.nil (w : World) (B : Nat) (P : Nat → Prop) : BBo w B P (.slice none 0 0) [] := ⟨[], rfl, fun j hj => absurd hj (Nat.not_lt_zero _), World.ownsRow_nil _ _ _ _⟩
theorem BBo.below {w w' : World} {B : Nat} {P : Nat → Prop} {v : Value} {L : List (List Int)} (h : BBo w B P v L) (hb : Below w.heap.size w w') : BBo w' B P v L := by
  obtain ⟨vs, hl, hr, ho⟩ := h
  refine ⟨vs, hl, fun j hj => ⟨(hr j hj).1.below hb, (hr j hj).2⟩, ho.1, ?_⟩
  rcases ho.2 with h | ⟨g, cap, cur, hv, hg, hh, r⟩
  · exact .inl h
  · exact .inr ⟨g, cap, cur, hv, hg, by rw [hb.block g (Array.getElem?_eq_some_iff.1 hh).1]; exact hh, r⟩
theorem BBo.own {w : World} {B : Nat} {P : Nat → Prop} {v : Value} {L : List (List Int)} (h : BBo w B P v L) (k : Nat) (hk : v.ownBlock = some k) : B ≤ k ∧ k < w.heap.size := by
  obtain ⟨vs, _, _, ho⟩ := h
  exact World.ownsRow.lt ho k hk
theorem BBo.bba {w : World} {B : Nat} {P : Nat → Prop} {v : Value} {L : List (List Int)} (h : BBo w B P v L) (hP : ∀ k, P k → k < B) : BBa w P v L := by
  obtain ⟨vs, hl, hr, ho⟩ := h
  rcases ho.2 with ⟨hv, hl0⟩ | ⟨g, cap, cur, hv, hg, hh, hnc, hcm, hcs, ht⟩
  · exact .inl ⟨hv, List.eq_nil_of_length_eq_zero hl0⟩
  · refine .inr ⟨_, cap, hv, hnc, fun j hj => ⟨⟨(Array.getElem?_eq_some_iff.1 hh).1, fun hp => by have := hP g hp; omega⟩, rfl, vs.getD j undef, ?_, (hr j hj).1, (hr j hj).2.1⟩⟩
    show w.cell? ⟨g, 0 + j, none⟩ = _
    rw [Nat.zero_add, cell_of_row _ _ _ _ _ _ hh]
    have : (cur.toList.take (L.length * 1))[j]? = vs[j]? := by rw [ht]
    rw [List.getElem?_take, if_pos (by omega)] at this
    simpa [List.getD_eq_getElem?_getD, show j < vs.length by omega] using this
theorem Apt.of_lt {w : World} {v : Value} {l : List Int} (h : BSl w v l) {Q : Nat → Prop} (hQ : ∀ k, Q k → w.heap.size ≤ k) : Apt Q v := by
  intro ad n cap e hn hq
  rcases h.2 with ⟨hv, _⟩ | ⟨a, c, hv, _, hc⟩
  · rw [hv] at e; cases e
  · rw [hv] at e
    obtain ⟨rfl, rfl⟩ : a = ad ∧ l.length = n := ⟨Option.some.inj (Value.slice.inj e).1, (Value.slice.inj e).2.1⟩
    have := (hc 0 hn).1
    have := hQ _ hq
    omega
/-- append of one []byte that is apart from it (its cell lies in the block that was made last, at q). -/
theorem wpList_append_bbo (S : TypeId) (hS : Tryz.prog.underlying S = some (.slice 59)) (w1 : World) (x : Value) (l : List Int) {ops : Array Oper} {rest : List Oper} {o : Oper} {a : Act} {Q : Exit → Act → World → Prop} (hgd : o.guard = none) (s y : Operand)
    (ho : o.op = .call { callee := .builtin .append, args := #[s, y], argTypes := #[S, S] })
    (B : Nat) (P : Nat → Prop) (v : Value) (L : List (List Int)) (hs : a.eval s = v) (hown : BBo w1 B P v L) (hx : BSl w1 x l) (hxP : Apt P x) (hxo : Apt (fun k => v.ownBlock = some k) x) (q : Nat) (hy : a.eval y = .slice (some ⟨q, 0, none⟩) 1 1) (hq : q = w1.heap.size) (hlen : L.length ≤ 100000) (hB : B ≤ w1.heap.size)
    (h : ∀ v' w', BBo w' B P v' (L ++ [l]) → Below B w1 w' → Chg (fun k => v.ownBlock = some k) (fun k => v'.ownBlock = some k) w1 w' → wpList Tryz.prog ops Q rest (a.put o.dst v') w') : wpList Tryz.prog ops Q (o :: rest) a (w1.alloc (.cells #[x] 59)) := by
  subst hq
  obtain ⟨t, h2, h3, h4, h5⟩ := info_parts infoBy
  have hbel : Below w1.heap.size w1 (w1.alloc (.cells #[x] 59)) := below_box _ _
  have hf := hown.below hbel
  obtain ⟨vs, hvl, hve, how⟩ := hf
  have hnew : (w1.alloc (.cells #[x] 59)).heap[w1.heap.size]? = some (.cells #[x] 59 (0, 0)) := heap_alloc_new w1 _
  obtain ⟨v', w', hrun, h6, h7, _, h8⟩ := run_append_own_at (P := Tryz.prog) (w1.alloc (.cells #[x] 59)) B S o.type 59 t _ 1 24 hS h2 h3 h4 h5 rfl (by decide) v L.length vs how ⟨w1.heap.size, 0, none⟩ 1 1 [x] rfl (fun j u hj => by
    have hj0 : j = 0 := by have := (List.getElem?_eq_some_iff.1 hj).1; simp at this; omega
    subst hj0
    rw [Addr.add_lit, Nat.zero_add, cell_of_row _ _ _ _ _ _ hnew, ← hj]; rfl) (fun u hu => by
    simp at hu
    subst hu
    exact hx.one) (by simp only [maxLen]; omega) (by omega) (by simp; omega)
  have hsz : (w1.alloc (.cells #[x] 59)).heap.size = w1.heap.size + 1 := by simp
  have hc : Chg (fun k => v.ownBlock = some k) (fun k => v'.ownBlock = some k) (w1.alloc (.cells #[x] 59)) w' := by
    refine ⟨h7.os, h7.tape, h7.output, h7.size, fun k hk hn => ⟨h7.block k hk (fun e => hn e.symm), fun e => ?_⟩⟩
    rcases h8 with h8 | h8
    · rw [h8] at e; exact hn e
    · rw [h8] at e
      have := Option.some.inj e
      omega
  have hc0 : Chg (fun k => v.ownBlock = some k) (fun k => v'.ownBlock = some k) w1 w' := (Chg.of_below hbel).trans hc
  refine wpList_plain hgd fun K hK => ?_
  unfold Oper.wp execOp
  simp only [ho, resolve, invoke, builtin, Sem.run_bind, Sem.run_pure, Result.andThen_ok, List.map_toArray, List.map_cons, List.map_nil, hs, hy, hrun]
  refine hK _ _ (h v' w' ⟨vs ++ [x], by simp [hvl], fun j hj => ?_, by rw [List.length_append]; exact h6⟩ ((hbel.mono hB).trans ((Below.refl _ _).grown h7 (by rw [hsz]; omega) fun k hk => (World.ownsRow.lt how k hk).1)) hc0)
  rw [List.length_append] at hj
  by_cases e : j < L.length
  · obtain ⟨m1, m2, m3⟩ := hve j e
    obtain ⟨n1, n2⟩ := m1.chg m3 hc
    rw [List.getD_eq_getElem?_getD, List.getD_eq_getElem?_getD, List.getElem?_append_left (by omega), List.getElem?_append_left e, ← List.getD_eq_getElem?_getD, ← List.getD_eq_getElem?_getD]
    exact ⟨n1, m2, n2⟩
  · obtain rfl : j = L.length := by simp at hj; omega
    obtain ⟨n1, n2⟩ := hx.chg hxo hc0
    have e1 : (vs ++ [x]).getD L.length undef = x := by rw [← hvl]; simp [List.getD_eq_getElem?_getD]
    have e2 : (L ++ [l]).getD L.length [] = l := by simp [List.getD_eq_getElem?_getD]
    rw [e1, e2]
    exact ⟨n1, hxP, n2⟩
end Go.Proofs.YtigbhdgcjklhoaaGreat

/- A disk as a plain state: flushed blocks, unflushed Writes, fuse and power; whose blocks are whose, and what stays behind a call. -/
namespace Go.Proofs.YtigbhdgcjklhoaaGreat
set_option maxRecDepth 100000
open Go.RowKit
set_option linter.unusedVariables false

/-- Blocks with Writes done, in order. -/
def appU (U : List (Nat × List Int)) (F : List (List Int)) : List (List Int) := U.foldl (fun f x => f.set x.1 x.2) F
theorem appU_nil (F : List (List Int)) : appU [] F = F := rfl
theorem appU_append (U W : List (Nat × List Int)) (F : List (List Int)) : appU (U ++ W) F = appU W (appU U F) := List.foldl_append
theorem appU_snoc (U : List (Nat × List Int)) (x : Nat × List Int) (F : List (List Int)) : appU (U ++ [x]) F = (appU U F).set x.1 x.2 := appU_append _ _ _
theorem appU_length : ∀ (U : List (Nat × List Int)) (F : List (List Int)), (appU U F).length = F.length
  | [], F => rfl
  | x :: U, F => by
    show (appU U (F.set x.1 x.2)).length = _
    rw [appU_length U, List.length_set]
theorem appU_other : ∀ (U : List (Nat × List Int)) (F : List (List Int)) (i : Nat), (∀ x ∈ U, x.1 ≠ i) → (appU U F).getD i [] = F.getD i []
  | [], F, i, _ => rfl
  | x :: U, F, i, h => by
    show (appU U (F.set x.1 x.2)).getD i [] = _
    rw [appU_other U _ i fun y hy => h y (List.mem_cons_of_mem _ hy), List.getD_eq_getElem?_getD, List.getElem?_set_ne (h x (List.mem_cons_self ..)), ← List.getD_eq_getElem?_getD]
/-- The unflushed Writes that are kept. -/
def keepU (kp : Nat → Bool) (U : List (Nat × List Int)) : List (Nat × List Int) := ((List.range U.length).filter kp).map fun i => U.getD i (0, [])
theorem stF_keep (kp : Nat → Bool) (U : List (Nat × List Int)) (F : List (List Int)) : ∀ k, stF kp U F k = appU (((List.range k).filter kp).map fun i => U.getD i (0, [])) F
  | 0 => rfl
  | k + 1 => by
    unfold stF
    rw [List.range_succ, List.filter_append, List.map_append, appU_append, ← stF_keep kp U F k]
    cases hk : kp k
    · simp [hk, appU]
    · simp [hk, appU]
theorem keepU_all (U : List (Nat × List Int)) : keepU (fun _ => true) U = U := by
  unfold keepU
  rw [List.filter_eq_self.2 (fun _ _ => rfl)]
  apply List.ext_getElem
  · simp
  · intro i h1 h2
    simp [List.getD_eq_getElem?_getD, h2]
theorem keepU_mem {kp : Nat → Bool} {U : List (Nat × List Int)} {x : Nat × List Int} (h : x ∈ keepU kp U) : x ∈ U := by
  obtain ⟨i, hi, rfl⟩ := List.mem_map.1 h
  have hl : i < U.length := List.mem_range.1 (List.mem_filter.1 hi).1
  rw [List.getD_eq_getElem?_getD, List.getElem?_eq_getElem hl]
  exact List.getElem_mem hl
theorem stF_all (U : List (Nat × List Int)) (F : List (List Int)) : stF (fun _ => true) U F U.length = appU U F := by
  rw [stF_keep]
  have := keepU_all U
  unfold keepU at this
  rw [this]
theorem stV_get (U : List (Nat × List Int)) (F1 V : List (List Int)) (hl : F1.length = V.length) (i : Nat) : ∀ m, (stV U F1 V m).getD i [] = if (∃ j, j < m ∧ (U.getD j (0, [])).1 = i) then F1.getD i [] else V.getD i []
  | 0 => by
    rw [if_neg (by rintro ⟨j, hj, _⟩; omega)]; rfl
  | m + 1 => by
    have ih := stV_get U F1 V hl i m
    have hlen := stV_length U F1 V m
    unfold stV
    by_cases e : (U.getD m (0, [])).1 = i
    · rw [if_pos ⟨m, by omega, e⟩, e]
      by_cases hi : i < V.length
      · simp [List.getD_eq_getElem?_getD, hlen, hi]
      · rw [List.getD_eq_getElem?_getD, List.getElem?_eq_none (by rw [List.length_set]; omega), List.getD_eq_getElem?_getD, List.getElem?_eq_none (by omega)]
    · rw [List.getD_eq_getElem?_getD, List.getElem?_set_ne e, ← List.getD_eq_getElem?_getD, ih]
      by_cases h : ∃ j, j < m ∧ (U.getD j (0, [])).1 = i
      · obtain ⟨j, hj, hji⟩ := h
        rw [if_pos ⟨j, hj, hji⟩, if_pos ⟨j, by omega, hji⟩]
      · rw [if_neg h, if_neg]
        rintro ⟨j, hj, hji⟩
        by_cases ejm : j = m
        · subst ejm; exact e hji
        · exact h ⟨j, by omega, hji⟩
theorem stV_is (kp : Nat → Bool) (U : List (Nat × List Int)) (F : List (List Int)) : stV U (stF kp U F U.length) (appU U F) U.length = appU (keepU kp U) F := by
  have e1 : stF kp U F U.length = appU (keepU kp U) F := stF_keep kp U F _
  have hl : (appU (keepU kp U) F).length = (appU U F).length := by rw [appU_length, appU_length]
  rw [e1]
  apply List.ext_getElem
  · rw [stV_length, hl]
  · intro i h1 h2
    have := stV_get U (appU (keepU kp U) F) (appU U F) hl i U.length
    have g1 : (stV U (appU (keepU kp U) F) (appU U F) U.length).getD i [] = (stV U (appU (keepU kp U) F) (appU U F) U.length)[i] := by simp [List.getD_eq_getElem?_getD, h1]
    have g2 : (appU (keepU kp U) F).getD i [] = (appU (keepU kp U) F)[i] := by simp [List.getD_eq_getElem?_getD, h2]
    rw [← g1, this, ← g2]
    split
    · rfl
    · rename_i hno
      have hU : ∀ x ∈ U, x.1 ≠ i := fun x hx e => by
        obtain ⟨j, hj, rfl⟩ := List.getElem_of_mem hx
        exact hno ⟨j, hj, by rw [List.getD_eq_getElem?_getD, List.getElem?_eq_getElem hj]; exact e⟩
      rw [appU_other U F i hU, appU_other _ F i fun x hx => hU x (keepU_mem hx)]

/-- A disk's state. -/
structure DS where
  F : List (List Int)
  U : List (Nat × List Int)
  fu : Bool
  le : Int
  dn : Bool
def DS.vis (s : DS) : List (List Int) := appU s.U s.F
def DS.ok (s : DS) : Bool := pOk s.fu s.le s.dn
/-- What powered leaves. -/
def DS.pay (s : DS) : DS := { s with le := pLe s.fu s.le s.dn, dn := pDn s.fu s.le s.dn }
def DS.write (s : DS) (n : Nat) (l : List Int) : DS := { s.pay with U := s.U ++ [(n, l)] }
def DS.flush (s : DS) : DS := { s.pay with F := s.vis, U := [] }
def DS.crash (s : DS) (k : List Bool) : DS := ⟨appU (keepU (kpOf k) s.U) s.F, [], false, 0, false⟩
def DS.fuse (s : DS) (n : Int) : DS := { s with fu := decide (0 ≤ n), le := Max.max n 0 }
def DS.new (n : Nat) : DS := ⟨List.replicate n zb, [], false, 0, false⟩
theorem DS.vis_length (s : DS) : s.vis.length = s.F.length := appU_length _ _
theorem DS.write_vis (s : DS) (n : Nat) (l : List Int) : (s.write n l).vis = s.vis.set n l := appU_snoc _ _ _
theorem DS.flush_vis (s : DS) : s.flush.vis = s.vis := rfl
theorem DS.crash_vis (s : DS) (k : List Bool) : (s.crash k).vis = appU (keepU (kpOf k) s.U) s.F := rfl
theorem pLe_bound {fu dn : Bool} {le : Int} (h : 0 ≤ le ∧ le ≤ 9223372036854775807) : 0 ≤ pLe fu le dn ∧ pLe fu le dn ≤ 9223372036854775807 := by
  unfold pLe
  split <;> omega

/-- The blocks that are a disk's own. -/
def DOwn (bp bf bv : Nat) (u : Value) (k : Nat) : Prop := k = bp ∨ k = bf ∨ k = bv ∨ u.ownBlock = some k
/-- A disk in memory: its own blocks are P's; its state is s. -/
def Dk (w : World) (P : Nat → Prop) (p : Value) (s : DS) : Prop :=
  ∃ bp bf bv u, p = .pointer (some ⟨bp, 0, none⟩) ∧ DskAt w 0 bp bf bv u s.F s.vis s.U s.fu s.le s.dn ∧ (0 ≤ s.le ∧ s.le ≤ 9223372036854775807) ∧ ∀ k, P k ↔ DOwn bp bf bv u k
theorem DskAt.ownlt {w : World} {B bp bf bv : Nat} {u : Value} {F V : List (List Int)} {U : List (Nat × List Int)} {fu dn : Bool} {le : Int} (h : DskAt w B bp bf bv u F V U fu le dn) (k : Nat) (hk : DOwn bp bf bv u k) : k < w.heap.size := by
  rcases hk with rfl | rfl | rfl | hk
  · exact (Array.getElem?_eq_some_iff.1 h.hp).1
  · exact (Array.getElem?_eq_some_iff.1 h.hf).1
  · exact (Array.getElem?_eq_some_iff.1 h.hv).1
  · exact (h.hu.lt k hk).2
theorem Dk.lt {w : World} {P : Nat → Prop} {p : Value} {s : DS} (h : Dk w P p s) (k : Nat) (hk : P k) : k < w.heap.size := by
  obtain ⟨bp, bf, bv, u, _, hd, _, hP⟩ := h
  exact hd.ownlt k ((hP k).1 hk)
theorem Dk.below {w w' : World} {P : Nat → Prop} {p : Value} {s : DS} (h : Dk w P p s) (hb : Below w.heap.size w w') : Dk w' P p s := by
  obtain ⟨bp, bf, bv, u, hp, hd, hl, hP⟩ := h
  exact ⟨bp, bf, bv, u, hp, hd.below hb, hl, hP⟩
theorem Dk.drewN {w : World} {P : Nat → Prop} {p : Value} {s : DS} (h : Dk w P p s) (m : Nat) : Dk (w.drewN m) P p s := h.below (below_drewN' (Below.refl _ _) m)
theorem Dk.ptr {w : World} {P : Nat → Prop} {p : Value} {s : DS} (h : Dk w P p s) : ∃ bp, p = .pointer (some ⟨bp, 0, none⟩) := by
  obtain ⟨bp, _, _, _, hp, _⟩ := h
  exact ⟨bp, hp⟩
theorem DskAt.lower {w : World} {B bp bf bv : Nat} {u : Value} {F V : List (List Int)} {U : List (Nat × List Int)} {fu dn : Bool} {le : Int} (h : DskAt w B bp bf bv u F V U fu le dn) : DskAt w 0 bp bf bv u F V U fu le dn :=
  { h with bB := ⟨Nat.zero_le _, Nat.zero_le _, Nat.zero_le _⟩, hu := ⟨h.hu.1, h.hu.2.imp id fun ⟨g, cap, cur, hv, _, r⟩ => ⟨g, cap, cur, hv, Nat.zero_le _, r⟩⟩ }
theorem Chg.of_wrote {bp bf bv : Nat} {u : Value} {P : Nat → Prop} (hP : ∀ k, P k ↔ DOwn bp bf bv u k) {w w' : World} (h : Wrote w w' bp) : Chg P P w w' :=
  ⟨h.1, h.2.1, h.2.2.1, Nat.le_of_eq h.2.2.2.1.symm, fun k _ hn => ⟨h.2.2.2.2 k fun e => hn ((hP k).2 (.inl e)), hn⟩⟩
theorem Chg.of_frU {bp bf bv : Nat} {u u' : Value} {P : Nat → Prop} (hP : ∀ k, P k ↔ DOwn bp bf bv u k) {w w' : World} (h : FrU w w' bp bf bv u u') : Chg P (DOwn bp bf bv u') w w' :=
  ⟨h.os, h.tape, h.output, h.size, fun k hk hn => by
    have h1 : k ≠ bp := fun e => hn ((hP k).2 (.inl e))
    have h2 : k ≠ bf := fun e => hn ((hP k).2 (.inr (.inl e)))
    have h3 : k ≠ bv := fun e => hn ((hP k).2 (.inr (.inr (.inl e))))
    have h4 : u.ownBlock ≠ some k := fun e => hn ((hP k).2 (.inr (.inr (.inr e))))
    refine ⟨h.block k hk h1 h2 h3 h4, ?_⟩
    rintro (e | e | e | e)
    · exact h1 e
    · exact h2 e
    · exact h3 e
    · rcases h.own k e with e | e
      · exact h4 e
      · omega⟩
theorem Chg.of_fr3 {bp bf bv : Nat} {u : Value} {P : Nat → Prop} (hP : ∀ k, P k ↔ DOwn bp bf bv u k) {w w' : World} (h : Fr3 w w' bp bf bv) : Chg P (DOwn bp bf bv (.slice none 0 0)) w w' :=
  Chg.of_frU hP ⟨h.os, h.tape, h.output, h.size, fun k hk h1 h2 h3 _ => h.block k hk h1 h2 h3, fun k hk => by simp [Value.ownBlock] at hk⟩
end Go.Proofs.YtigbhdgcjklhoaaGreat

/- bytes.Equal; strings that are the same. -/
namespace Go.Proofs.YtigbhdgcjklhoaaGreat
set_option maxRecDepth 100000
open Go.RowKit
set_option linter.unusedVariables false

theorem strOf_inj {l m : List Int} (hl : Byt l) (hm : Byt m) (h : (strOfNums l).data.toList = (strOfNums m).data.toList) : l = m := by
  have e : l.map (fun n => UInt8.ofNat n.toNat) = m.map (fun n => UInt8.ofNat n.toNat) := by
    rw [← strOfNums_data, ← strOfNums_data, h]
  have hlen : l.length = m.length := by simpa using congrArg List.length e
  apply List.ext_getElem hlen
  intro i h1 h2
  have h3 := congrArg (fun z => z[i]?) e
  simp [h1, h2] at h3
  have a := byt_mem hl l[i] (List.getElem_mem h1)
  have b := byt_mem hm m[i] (List.getElem_mem h2)
  have h4 := congrArg UInt8.toNat h3
  simp at h4
  omega
theorem bEqual_of {w : World} {u v : Value} {l m : List Int} (hu : BSl w u l) (hv : BSl w v m) : Calls Tryz.prog 61 #[u, v] w fun e w' => e = .returned (.bool (decide (l = m))) ∧ w = w' := by
  have c1 := conv_bsl hu
  have c2 := conv_bsl hv
  have b1 := hu.1
  have b2 := hv.1
  have hd : ((strOfNums l).toList == (strOfNums m).toList) = decide (l = m) := by
    by_cases e : l = m
    · rw [decide_eq_true e, e]; exact beq_self_eq_true _
    · rw [decide_eq_false e, ByteArray.toList_eq, ByteArray.toList_eq]
      rw [beq_eq_false_iff_ne]
      exact fun h => e (strOf_inj b1 b2 h)
  have HD := Lib.hid hd
  clear hu hv b1 b2 hd
  go_enter Tryz.func61, Tryz.ntmps61
  go_wp2
  go_ret
  exact ⟨by rw [← HD.out]; rfl, rfl⟩
end Go.Proofs.YtigbhdgcjklhoaaGreat

/- Plain facts on bytes: numbers as bytes, the checksum. -/
namespace Go.Proofs.YtigbhdgcjklhoaaGreat
set_option maxRecDepth 100000
open Go

/-- The lowest k bytes of n, the lowest first. -/
def lowB (n : Int) (k : Nat) : List Int := (List.range k).map fun i => n / 2 ^ (8 * i) % 256
theorem lowB_length (n : Int) (k : Nat) : (lowB n k).length = k := by simp [lowB]
theorem lowB_succ (n : Int) (k : Nat) : lowB n (k + 1) = lowB n k ++ [n / 2 ^ (8 * k) % 256] := by
  simp [lowB, List.range_succ]
theorem lowB_zero (n : Int) : lowB n 0 = [] := rfl
theorem lowB_mem (n : Int) (k : Nat) : ∀ x ∈ lowB n k, 0 ≤ x ∧ x ≤ 255 := by
  intro x hx
  simp only [lowB, List.mem_map, List.mem_range] at hx
  obtain ⟨i, _, rfl⟩ := hx
  have := Int.emod_nonneg (n / 2 ^ (8 * i)) (show (256 : Int) ≠ 0 by decide)
  have := Int.emod_lt_of_pos (n / 2 ^ (8 * i)) (show (0 : Int) < 256 by decide)
  omega
theorem shr_step (n : Int) (j : Nat) : n / 2 ^ (8 * j) / 2 ^ 8 = n / 2 ^ (8 * (j + 1)) := by
  rw [Int.ediv_ediv_of_nonneg (by exact Int.le_of_lt (Int.pow_pos (by decide))), ← Int.pow_add]; rfl

/-- The number whose bytes are l, the lowest first. -/
def leB : List Int → Int
  | [] => 0
  | x :: r => x + 256 * leB r
theorem leB_snoc (l : List Int) (x : Int) : leB (l ++ [x]) = leB l + x * 256 ^ l.length := by
  induction l with
  | nil => simp [leB]
  | cons y r ih =>
    simp only [List.cons_append, leB, ih, List.length_cons, Int.pow_succ]
    rw [Int.mul_add, Int.mul_left_comm 256 x, Int.mul_comm 256 (256 ^ r.length)]
    omega

def okSize (size : Int) : Bool := decide (1 ≤ size) && decide (size ≤ 8)
/-- The document's Put. -/
def putS (l : List Int) (n size : Int) : List Int := if 1 ≤ size ∧ size ≤ 8 then l ++ lowB n size.toNat else l
/-- The document's Get. -/
def getOk (l : List Int) (at_ size : Int) : Prop := 1 ≤ size ∧ size ≤ 8 ∧ 0 ≤ at_ ∧ at_ + size ≤ l.length
def getV (l : List Int) (at_ size : Nat) : Int := leB ((l.drop at_).take size)

theorem getV_head (l : List Int) (a k : Nat) (h : a < l.length) : getV l a (k + 1) = l.getD a 0 + 256 * getV l (a + 1) k := by
  unfold getV
  rw [List.drop_eq_getElem_cons h, List.take_succ_cons, leB]
  simp [List.getD_eq_getElem?_getD, h]
theorem getV_snoc (l : List Int) (a k : Nat) (h : a + k < l.length) : getV l a (k + 1) = getV l a k + l.getD (a + k) 0 * 256 ^ k := by
  unfold getV
  rw [List.take_succ_eq_append_getElem (by rw [List.length_drop]; omega), leB_snoc]
  have e : ((l.drop a).take k).length = k := by simp; omega
  rw [e]
  simp [List.getD_eq_getElem?_getD, h]
theorem getV_zero (l : List Int) (a : Nat) : getV l a 0 = 0 := by simp [getV, leB]
theorem leB_bound (l : List Int) (h : ∀ x ∈ l, 0 ≤ x ∧ x ≤ 255) : 0 ≤ leB l ∧ leB l < 256 ^ l.length := by
  induction l with
  | nil => simp [leB]
  | cons x r ih =>
    have h1 := h x (by simp)
    have h2 := ih fun y hy => h y (by simp [hy])
    simp only [leB, List.length_cons, Int.pow_succ]
    omega
theorem pow256_pos (k : Nat) : (1 : Int) ≤ 256 ^ k := by
  induction k with
  | zero => simp
  | succ n ih => rw [Int.pow_succ]; omega
theorem pow256_le {k m : Nat} (h : k ≤ m) : (256 : Int) ^ k ≤ 256 ^ m := by
  induction m with
  | zero => obtain rfl : k = 0 := by omega
            exact Int.le_refl _
  | succ n ih =>
    by_cases e : k = n + 1
    · rw [e]; exact Int.le_refl _
    · have := ih (by omega)
      have := pow256_pos n
      rw [Int.pow_succ]; omega
theorem getV_bound {l : List Int} (h : ∀ x ∈ l, 0 ≤ x ∧ x ≤ 255) (a k : Nat) : 0 ≤ getV l a k ∧ getV l a k < 256 ^ k := by
  have hb := leB_bound ((l.drop a).take k) fun x hx => h x (List.mem_of_mem_drop (List.mem_of_mem_take hx))
  have hl : ((l.drop a).take k).length ≤ k := by simp; omega
  have hp := pow256_le hl
  unfold getV
  omega
theorem or_low (a x : Int) (k : Nat) (ha : 0 ≤ a) (hx0 : 0 ≤ x) (hx : x < 2 ^ k) (hs : a * 2 ^ k < 18446744073709551616) (hxs : x < 18446744073709551616) :
    bits BinOp.or IntKind.u64 (a * 2 ^ k) x = a * 2 ^ k + x := by
  obtain ⟨m, rfl⟩ : ∃ m : Nat, a = m := ⟨a.toNat, by omega⟩
  obtain ⟨y, rfl⟩ : ∃ y : Nat, x = y := ⟨x.toNat, by omega⟩
  have e : (m : Int) * 2 ^ k = ((m * 2 ^ k : Nat) : Int) := by push_cast; rfl
  have hy : y < 2 ^ k := by
    have : ((y : Nat) : Int) < ((2 ^ k : Nat) : Int) := by push_cast; exact hx
    omega
  rw [e] at hs ⊢
  rw [u64_or_nat _ _ (by omega) (by omega)]
  have := Nat.shiftLeft_add_eq_or_of_lt hy m
  rw [Nat.shiftLeft_eq] at this
  rw [← this]; push_cast; rfl
theorem or_comm64 (a x : Int) (ha : 0 ≤ a) (ha1 : a < 18446744073709551616) (hx0 : 0 ≤ x) (hx : x < 18446744073709551616) :
    bits BinOp.or IntKind.u64 a x = bits BinOp.or IntKind.u64 x a := by
  rw [u64_or a x ha ha1 hx0 hx, u64_or x a hx0 hx ha ha1, Nat.or_comm]

/-- One byte taken into the checksum; the checksum. -/
def fnvStep (h c : Int) : Int := bits BinOp.xor IntKind.u32 h c * 16777619 % 4294967296
def sumS (l : List Int) : Int := l.foldl fnvStep 2166136261
theorem fnvStep_bound (h c : Int) : 0 ≤ fnvStep h c ∧ fnvStep h c < 4294967296 :=
  ⟨Int.emod_nonneg _ (by decide), Int.emod_lt_of_pos _ (by decide)⟩
theorem sumS_bound (l : List Int) : 0 ≤ sumS l ∧ sumS l < 4294967296 := by
  unfold sumS
  rcases List.eq_nil_or_concat l with rfl | ⟨r, x, rfl⟩
  · exact ⟨by decide, by decide⟩
  · rw [List.concat_eq_append, List.foldl_append]
    exact fnvStep_bound _ _
theorem sumS_take (l : List Int) (j : Nat) (h : j < l.length) : sumS (l.take (j + 1)) = fnvStep (sumS (l.take j)) (l.getD j 0) := by
  unfold sumS
  rw [List.take_succ_eq_append_getElem h, List.foldl_append]
  simp [List.getD_eq_getElem?_getD, h]
theorem pow256 (j : Nat) : (256 : Int) ^ j = 2 ^ (8 * j) := by rw [Int.pow_mul]; rfl

/-- The content of a sealed block, filled up; the sealed block. -/
def fillS (l : List Int) : List Int := l ++ List.replicate (252 - l.length) 0
def sealS (l : List Int) : List Int := fillS l ++ lowB (sumS (fillS l)) 4
theorem fillS_length (l : List Int) (h : l.length ≤ 252) : (fillS l).length = 252 := by simp [fillS]; omega
theorem sealS_length (l : List Int) (h : l.length ≤ 252) : (sealS l).length = 256 := by rw [sealS, List.length_append, fillS_length l h, lowB_length]
/-- Is the block sealed? -/
def sealed (l : List Int) : Prop := l.length = 256 ∧ getV l 252 4 = sumS (l.take 252)

theorem leB_lowB (n : Int) (k : Nat) (h : 0 ≤ n) : leB (lowB n k) = n % 256 ^ k := by
  induction k with
  | zero => simp [lowB_zero, leB, Int.emod_one]
  | succ k ih =>
    rw [lowB_succ, leB_snoc, ih, lowB_length, ← pow256, Int.pow_succ]
    have hp : (0 : Int) < 256 ^ k := by have := pow256_pos k; omega
    generalize (256 : Int) ^ k = p at *
    have h1 := Int.mul_ediv_add_emod n p
    have h2 := Int.mul_ediv_add_emod (n / p) 256
    have h3 := Int.emod_nonneg n (show p ≠ 0 by omega)
    have h4 := Int.emod_lt_of_pos n hp
    have h5 := Int.emod_nonneg (n / p) (show (256 : Int) ≠ 0 by decide)
    have h6 := Int.emod_lt_of_pos (n / p) (show (0 : Int) < 256 by decide)
    have h7 : n = p * 256 * (n / p / 256) + (n % p + n / p % 256 * p) := by
      have e : p * (n / p) = p * (256 * (n / p / 256) + n / p % 256) := by rw [h2]
      rw [Int.mul_add, ← Int.mul_assoc] at e
      rw [Int.mul_comm (n / p % 256) p]
      omega
    have h8 : n % p + n / p % 256 * p < p * 256 := by
      have : n / p % 256 * p ≤ 255 * p := Int.mul_le_mul_of_nonneg_right (by omega) (by omega)
      omega
    have h9 : 0 ≤ n % p + n / p % 256 * p := by
      have := Int.mul_nonneg h5 (Int.le_of_lt hp)
      omega
    generalize hr : n % p + n / p % 256 * p = r at *
    conv => rhs; rw [h7]
    rw [Int.mul_add_emod_self_left]
    exact (Int.emod_eq_of_lt h9 h8).symm
theorem getV_put (l : List Int) (n : Int) (k : Nat) (h : 0 ≤ n) : getV (l ++ lowB n k) l.length k = n % 256 ^ k := by
  unfold getV
  rw [List.drop_left, List.take_of_length_le (by rw [lowB_length]; exact Nat.le_refl _), leB_lowB n k h]
theorem and_mask (n : Int) (k : Nat) (h0 : 0 ≤ n) (h1 : n < 18446744073709551616) (hk : k < 8) : bits BinOp.and IntKind.u64 n (256 ^ k - 1) = n % 256 ^ k := by
  obtain ⟨m, rfl⟩ : ∃ m : Nat, n = m := ⟨n.toNat, by omega⟩
  have hp := pow256_le (show k ≤ 7 by omega)
  have hp1 := pow256_pos k
  have e : (256 : Int) ^ k - 1 = ((2 ^ (8 * k) - 1 : Nat) : Int) := by
    have : 1 ≤ 2 ^ (8 * k) := Nat.one_le_two_pow
    rw [pow256, Int.natCast_sub this]; push_cast; rfl
  have hm : (2 ^ (8 * k) - 1 : Nat) < 18446744073709551616 := by omega
  rw [e, u64_and_nat m _ (by omega) hm, Nat.and_two_pow_sub_one_eq_mod, pow256]
  push_cast; rfl

end Go.Proofs.YtigbhdgcjklhoaaGreat

/- Transactions: their form, head, end, blocks; plain facts. -/
namespace Go.Proofs.YtigbhdgcjklhoaaGreat
set_option maxRecDepth 100000
open Go.RowKit
set_option linter.unusedVariables false

/-- The number of a block of the greatest disk. -/
def inP9 (x : Int) : Bool := decide (0 ≤ x ∧ x ≤ 767)
/-- What is asked of block number i of a transaction. -/
def newT (N : List Int) (i : Nat) : Bool := (N.take i).all fun x => !(x == N.getD i 0)
def okT9 (N : List Int) (D : List (List Int)) (i : Nat) : Bool := inP9 (N.getD i 0) && (decide ((D.getD i []).length = 256) && newT N i)
def frmTK (N : List Int) (D : List (List Int)) (k : Nat) : Bool := (List.range k).all fun i => okT9 N D i
/-- Is it a transaction? -/
def frmT (N : List Int) (D : List (List Int)) : Bool := decide (N.length ≤ 37) && (decide (D.length = N.length) && frmTK N D N.length)
theorem frmTK_zero (N : List Int) (D : List (List Int)) : frmTK N D 0 = true := rfl
theorem frmTK_succ (N : List Int) (D : List (List Int)) (k : Nat) : frmTK N D (k + 1) = (frmTK N D k && okT9 N D k) := by
  unfold frmTK
  rw [List.range_succ, List.all_append]; simp
theorem frmTK_iff (N : List Int) (D : List (List Int)) (k : Nat) : frmTK N D k = true ↔ ∀ i, i < k → okT9 N D i = true := by
  unfold frmTK
  rw [List.all_eq_true]
  exact ⟨fun h i hi => h i (List.mem_range.2 hi), fun h i hi => h i (List.mem_range.1 hi)⟩
theorem frmT_no {N : List Int} {D : List (List Int)} (i : Nat) (hi : i < N.length) (h : okT9 N D i = false) : frmT N D = false := by
  cases e : frmT N D
  · rfl
  · unfold frmT at e
    rw [Bool.and_eq_true, Bool.and_eq_true] at e
    rw [(frmTK_iff N D _).1 e.2.2 i hi] at h; cases h
theorem frmT_long {N : List Int} {D : List (List Int)} (h : 37 < N.length) : frmT N D = false := by
  unfold frmT; rw [decide_eq_false (by omega)]; rfl
theorem frmT_len {N : List Int} {D : List (List Int)} (h : D.length ≠ N.length) : frmT N D = false := by
  unfold frmT; rw [decide_eq_false h]; cases decide (N.length ≤ 37) <;> rfl
theorem frmT_yes {N : List Int} {D : List (List Int)} (h1 : N.length ≤ 37) (h2 : D.length = N.length) (h3 : frmTK N D N.length = true) : frmT N D = true := by
  unfold frmT; rw [decide_eq_true h1, decide_eq_true h2, h3]; rfl
theorem frmT_of {N : List Int} {D : List (List Int)} (h : frmT N D = true) : N.length ≤ 37 ∧ D.length = N.length ∧ ∀ i, i < N.length → (0 ≤ N.getD i 0 ∧ N.getD i 0 ≤ 767) ∧ (D.getD i []).length = 256 ∧ newT N i = true := by
  unfold frmT at h
  rw [Bool.and_eq_true, Bool.and_eq_true, decide_eq_true_eq, decide_eq_true_eq] at h
  refine ⟨h.1, h.2.1, fun i hi => ?_⟩
  have := (frmTK_iff N D _).1 h.2.2 i hi
  unfold okT9 inP9 at this
  rw [Bool.and_eq_true, Bool.and_eq_true, decide_eq_true_eq, decide_eq_true_eq] at this
  exact ⟨this.1, this.2.1, this.2.2⟩
theorem newT_iff (N : List Int) (i : Nat) (hi : i < N.length) : newT N i = true ↔ ∀ j, j < i → N.getD j 0 ≠ N.getD i 0 := by
  unfold newT
  rw [List.all_eq_true]
  constructor
  · intro h j hj
    have hjl : j < (N.take i).length := by rw [List.length_take]; omega
    have := h _ (List.getElem_mem hjl)
    rw [List.getElem_take] at this
    have e : N.getD j 0 = N[j]'(by omega) := by simp [List.getD_eq_getElem?_getD, show j < N.length by omega]
    rw [e]
    simpa using this
  · intro h x hx
    obtain ⟨j, hj, rfl⟩ := List.getElem_of_mem hx
    rw [List.length_take] at hj
    rw [List.getElem_take]
    have := h j (by omega)
    have e : N.getD j 0 = N[j]'(by omega) := by simp [List.getD_eq_getElem?_getD, show j < N.length by omega]
    rw [e] at this
    simpa using this

/-- The words; the head's bytes, the end's; the blocks. -/
def jrnl : List Int := [106, 114, 110, 108]
def done9 : List Int := [100, 111, 110, 101]
def numL (N : List Int) : List Int := N.flatMap fun n => lowB n 2
def headL (q : Int) (N : List Int) : List Int := jrnl ++ lowB q 4 ++ lowB (N.length : Int) 2 ++ numL N
def endL (q : Int) : List Int := done9 ++ lowB q 4
def packT (q : Int) (N : List Int) (D : List (List Int)) : List (List Int) := sealS (headL q N) :: (D ++ [sealS (endL q)])
theorem numL_length (N : List Int) : (numL N).length = 2 * N.length := by
  unfold numL
  induction N with
  | nil => rfl
  | cons x N ih => rw [List.flatMap_cons, List.length_append, ih, lowB_length, List.length_cons]; omega
theorem numL_snoc (N : List Int) (x : Int) : numL (N ++ [x]) = numL N ++ lowB x 2 := by
  unfold numL
  rw [List.flatMap_append]; simp
theorem numL_take (N : List Int) (k : Nat) (h : k < N.length) : numL (N.take (k + 1)) = numL (N.take k) ++ lowB (N.getD k 0) 2 := by
  rw [List.take_succ_eq_append_getElem h, numL_snoc]
  simp [List.getD_eq_getElem?_getD, h]
theorem headL_length (q : Int) (N : List Int) : (headL q N).length = 10 + 2 * N.length := by
  simp only [headL, List.length_append, lowB_length, numL_length]
  have : jrnl.length = 4 := rfl
  omega
theorem endL_length (q : Int) : (endL q).length = 8 := by
  rw [endL, List.length_append, lowB_length]; rfl
theorem packT_length (q : Int) (N : List Int) (D : List (List Int)) : (packT q N D).length = D.length + 2 := by simp [packT]
theorem byt_jrnl : Byt jrnl := byt_of_mem fun x hx => by simp [jrnl] at hx; omega
theorem byt_done : Byt done9 := byt_of_mem fun x hx => by simp [done9] at hx; omega
theorem byt_numL (N : List Int) : Byt (numL N) := byt_of_mem fun x hx => by
  obtain ⟨n, _, hx⟩ := List.mem_flatMap.1 hx
  exact lowB_mem _ _ x hx
theorem headL_byt (q : Int) (N : List Int) : Byt (headL q N) := byt_append (byt_append (byt_append byt_jrnl (byt_of_mem (lowB_mem _ _))) (byt_of_mem (lowB_mem _ _))) (byt_numL N)
theorem endL_byt (q : Int) : Byt (endL q) := byt_append byt_done (byt_of_mem (lowB_mem _ _))
/-- What stands in the midst of a list. -/
theorem getV_midst (A R : List Int) (n : Int) (k : Nat) (h : 0 ≤ n) (a : Nat) (ha : A.length = a) : getV (A ++ (lowB n k ++ R)) a k = n % 256 ^ k := by
  subst ha
  unfold getV
  rw [List.drop_left, List.take_left' (lowB_length n k), leB_lowB n k h]
theorem head_take (q : Int) (N : List Int) (h : N.length ≤ 37) : (sealS (headL q N)).take 252 = fillS (headL q N) := by
  rw [sealS, List.take_left']
  exact fillS_length _ (by rw [headL_length]; omega)
/-- The head's content says what was laid into it. -/
theorem head_seq (q : Int) (N : List Int) (h0 : 0 ≤ q) (h1 : q < 4294967296) : getV (fillS (headL q N)) 4 4 = q := by
  have e : fillS (headL q N) = jrnl ++ (lowB q 4 ++ (lowB (N.length : Int) 2 ++ (numL N ++ List.replicate (252 - (headL q N).length) 0))) := by
    unfold fillS headL; simp
  rw [e, getV_midst _ _ q 4 h0 4 rfl]
  exact Int.emod_eq_of_lt h0 (by simpa using h1)
theorem head_count (q : Int) (N : List Int) (h : N.length ≤ 37) : getV (fillS (headL q N)) 8 2 = (N.length : Int) := by
  have e : fillS (headL q N) = (jrnl ++ lowB q 4) ++ (lowB (N.length : Int) 2 ++ (numL N ++ List.replicate (252 - (headL q N).length) 0)) := by
    unfold fillS headL; simp
  have hl : (jrnl ++ lowB q 4).length = 8 := by rw [List.length_append, lowB_length]; rfl
  rw [e, getV_midst _ _ _ 2 (by omega) 8 hl]
  exact Int.emod_eq_of_lt (by omega) (by omega)
theorem numL_split (N : List Int) (i : Nat) (hi : i < N.length) : numL N = numL (N.take i) ++ (lowB (N.getD i 0) 2 ++ numL (N.drop (i + 1))) := by
  have e : N = N.take i ++ (N[i] :: N.drop (i + 1)) := by rw [← List.drop_eq_getElem_cons hi, List.take_append_drop]
  have e2 : N.getD i 0 = N[i] := by simp [List.getD_eq_getElem?_getD, hi]
  rw [e2]
  conv => lhs; rw [e]
  unfold numL
  rw [List.flatMap_append, List.flatMap_cons]
theorem head_number (q : Int) (N : List Int) (i : Nat) (hi : i < N.length) (hn : 0 ≤ N.getD i 0 ∧ N.getD i 0 ≤ 767) : getV (fillS (headL q N)) (10 + 2 * i) 2 = N.getD i 0 := by
  have e : fillS (headL q N) = (jrnl ++ lowB q 4 ++ lowB (N.length : Int) 2 ++ numL (N.take i)) ++ (lowB (N.getD i 0) 2 ++ (numL (N.drop (i + 1)) ++ List.replicate (252 - (headL q N).length) 0)) := by
    have e1 : headL q N = jrnl ++ lowB q 4 ++ lowB (N.length : Int) 2 ++ (numL (N.take i) ++ (lowB (N.getD i 0) 2 ++ numL (N.drop (i + 1)))) := by
      rw [← numL_split N i hi]; rfl
    unfold fillS
    generalize List.replicate (252 - (headL q N).length) (0 : Int) = Z
    rw [e1]
    simp only [List.append_assoc]
  have hl : (jrnl ++ lowB q 4 ++ lowB (N.length : Int) 2 ++ numL (N.take i)).length = 10 + 2 * i := by
    simp only [List.length_append, lowB_length, numL_length, List.length_take]
    have : jrnl.length = 4 := rfl
    omega
  rw [e, getV_midst _ _ _ 2 hn.1 _ hl]
  exact Int.emod_eq_of_lt hn.1 (by omega)
theorem head_word (q : Int) (N : List Int) : (fillS (headL q N)).take 4 = jrnl := by
  have e : fillS (headL q N) = jrnl ++ (lowB q 4 ++ (lowB (N.length : Int) 2 ++ (numL N ++ List.replicate (252 - (headL q N).length) 0))) := by
    unfold fillS headL; simp
  rw [e, List.take_left' (show jrnl.length = 4 from rfl)]
end Go.Proofs.YtigbhdgcjklhoaaGreat
