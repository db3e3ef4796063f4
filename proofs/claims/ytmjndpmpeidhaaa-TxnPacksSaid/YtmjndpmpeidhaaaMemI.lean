/- Values of type []int that read as lists, and such of one's own; rows of numbers; a row of elements of one size: one is loaded, stored; nothing but one block has turned. -/
import Derived.Test.YtmjndpmpeidhaaaMemF
import Derived.Laws.Rows
import Derived.Laws.Tables
namespace Go.Proofs.Ytmjndpmpeidhaaa
open Go.RowKit
set_option linter.unusedVariables false

/-- A value of type []int that reads as l. -/
def ISl (w : World) (v : Value) (l : List Int) : Prop :=
  (v = .slice none 0 0 ∧ l = []) ∨ ∃ a cap, v = .slice (some a) l.length cap ∧ ∀ j, j < l.length → a.block < w.heap.size ∧ a.spot = none ∧ w.cell? ⟨a.block, a.off + j, none⟩ = some (.int .i64 (l.getD j 0))
theorem isl_nil (w : World) : ISl w (.slice none 0 0) [] := .inl ⟨rfl, rfl⟩
theorem ISl.below {w w' : World} {v : Value} {l : List Int} (h : ISl w v l) (hb : Below w.heap.size w w') : ISl w' v l := by
  rcases h with h | ⟨a, cap, hv, hc⟩
  · exact .inl h
  · refine .inr ⟨a, cap, hv, fun j hj => ?_⟩
    obtain ⟨h1, h2, h3⟩ := hc j hj
    exact ⟨Nat.lt_of_lt_of_le h1 hb.size, h2, by rw [hb.cell (p := ⟨a.block, a.off + j, none⟩) h1, h3]⟩
theorem ISl.open' {w : World} {v : Value} {l : List Int} (h : ISl w v l) : ∃ ao cap, v = .slice ao l.length cap ∧ (0 < l.length → ∃ b off, ao = some ⟨b, off, none⟩ ∧ b < w.heap.size ∧
    ∀ j, j < l.length → w.cell? ⟨b, off + j, none⟩ = some (.int .i64 (l.getD j 0))) := by
  rcases h with ⟨hv, hk⟩ | ⟨⟨b, off, spot⟩, cap, hv, hc⟩
  · exact ⟨none, 0, by rw [hv, hk]; rfl, fun h => by rw [hk] at h; simp at h⟩
  · refine ⟨_, cap, hv, fun h0 => ?_⟩
    obtain ⟨h1, h2, _⟩ := hc 0 h0
    obtain rfl : spot = none := h2
    exact ⟨b, off, rfl, h1, fun j hj => (hc j hj).2.2⟩
theorem ISl.at {w : World} {v : Value} {l : List Int} (h : ISl w v l) (h0 : 0 < l.length) : ∃ b off cap, v = .slice (some ⟨b, off, none⟩) l.length cap ∧ b < w.heap.size ∧
    ∀ j, j < l.length → w.cell? ⟨b, off + j, none⟩ = some (.int .i64 (l.getD j 0)) := by
  obtain ⟨ao, cap, hv, hc⟩ := h.open'
  obtain ⟨b, off, rfl, h1, h2⟩ := hc h0
  exact ⟨b, off, cap, hv, h1, h2⟩
theorem ISl.shape {w : World} {v : Value} {l : List Int} (h : ISl w v l) : ∃ ao cap, v = .slice ao l.length cap := by
  obtain ⟨ao, cap, hv, _⟩ := h.open'
  exact ⟨ao, cap, hv⟩

/-- A row of numbers in memory. -/
def iC (l : List Int) : List Value := l.map (Value.int .i64)
theorem iC_length (l : List Int) : (iC l).length = l.length := List.length_map _
theorem iC_one (l : List Int) : ∀ v ∈ iC l, v.oneCell' = true := fun v hv => by
  obtain ⟨x, _, rfl⟩ := List.mem_map.1 hv; rfl
def iO (l : List Int) (T : TypeId) : Obj := .cells (iC l).toArray T (0, 0)
theorem io_cell {W : World} {g : Nat} {l : List Int} {T : TypeId} (h : W.heap[g]? = some (iO l T)) (k : Nat) (hk : k < l.length) : W.cell? ⟨g, k, none⟩ = some (.int .i64 (l.getD k 0)) := by
  rw [cell_of_row _ _ _ _ _ _ h]
  simp [iC, List.getD_eq_getElem?_getD, hk]
theorem io_free {W : World} {g : Nat} {l : List Int} {T : TypeId} (h : W.heap[g]? = some (iO l T)) (k : Nat) : W.frozen? ⟨g, k, none⟩ = false := by
  simp [World.frozen?, h, iO]
theorem io_set {W : World} {g : Nat} {l : List Int} {T : TypeId} (h : W.heap[g]? = some (iO l T)) (j : Nat) (y : Int) : (W.setCell ⟨g, j, none⟩ (.int .i64 y)).heap[g]? = some (iO (l.set j y) T) := by
  rw [heap_setCell_same W g j _ _ _ h]
  simp [iO, iC]
theorem io_range {W : World} {g : Nat} {l : List Int} {T : TypeId} (h : W.heap[g]? = some (iO l T)) : W.rangeAt g 0 (iC l) :=
  range_row h (by rw [List.drop_zero, List.take_length])

/-- A []int of one's own, from block B on, that reads as l. -/
def IR (w : World) (B : Nat) (v : Value) (l : List Int) : Prop := w.ownsRow B 3 1 v l.length (iC l)
theorem IR.sl {w : World} {B : Nat} {v : Value} {l : List Int} (h : IR w B v l) : ISl w v l := by
  rcases h.2 with ⟨hv, hl⟩ | ⟨g, cap, cur, hv, hg, hh, hnc, hcm, hcs, ht⟩
  · exact .inl ⟨hv, List.eq_nil_of_length_eq_zero hl⟩
  · refine .inr ⟨_, cap, hv, fun j hj => ⟨(Array.getElem?_eq_some_iff.1 hh).1, rfl, ?_⟩⟩
    show w.cell? ⟨g, 0 + j, none⟩ = _
    rw [Nat.zero_add, cell_of_row _ _ _ _ _ _ hh]
    have : (cur.toList.take (l.length * 1))[j]? = (iC l)[j]? := by rw [ht]
    rw [List.getElem?_take, if_pos (by omega)] at this
    simpa [iC, List.getD_eq_getElem?_getD, hj] using this
theorem IR.below {w w' : World} {B : Nat} {v : Value} {l : List Int} (h : IR w B v l) (hb : Below w.heap.size w w') : IR w' B v l := by
  refine ⟨h.1, ?_⟩
  rcases h.2 with h | ⟨g, cap, cur, hv, hg, hh, r⟩
  · exact .inl h
  · exact .inr ⟨g, cap, cur, hv, hg, by rw [hb.block g (Array.getElem?_eq_some_iff.1 hh).1]; exact hh, r⟩
theorem ir_nil (w : World) (B : Nat) : IR w B (.slice none 0 0) [] := World.ownsRow_nil w B _ _
theorem IR.of_row {w : World} {B g : Nat} {l : List Int} (hB : B ≤ g) (hg : w.heap[g]? = some (iO l 3)) (hm : l.length ≤ maxLen) :
    IR w B (.slice (some ⟨g, 0, none⟩) l.length l.length) l := by
  refine ⟨by simp [iC], .inr ⟨g, l.length, _, rfl, hB, hg, Nat.le_refl _, hm, by simp [iC], ?_⟩⟩
  rw [List.take_of_length_le (by simp [iC])]

theorem infoI64 : (Try.prog.info? 3).map (fun i => (i.zero, i.size, i.bytes)) = some (some (.int .i64 0), 1, 8) := by kernel_rfl
theorem made_int (n : Nat) : madeCells (Value.int .i64 0).cells n = (iC (List.replicate n 0)).toArray := by
  apply Array.ext'
  rw [show (Value.int .i64 0).cells = #[Value.int .i64 0] from rfl, toList_madeCells_one]
  simp [iC]
/-- make([]int, n). -/
theorem wpList_make_int (w : World) {ops : Array Oper} {rest : List Oper} {o : Oper} {a : Act} {Q : Exit → Act → World → Prop}
    (hg : o.guard = none) (l c : Operand) (hop : o.op = Op.makeSlice 23 l c) (C : Int) (n : Nat) (hl : a.eval l = .int .i64 C) (hc : a.eval c = .int .i64 C) (hC : C = n) (hn : n ≤ 1000000)
    (hK : wpList Try.prog ops Q rest (a.put o.dst (.slice (some ⟨w.heap.size, 0, none⟩) n n)) (w.alloc (iO (List.replicate n 0) 3))) :
    wpList Try.prog ops Q (o :: rest) a w := by
  refine wpList_plain hg fun K hK' => ?_
  obtain ⟨i, h2, h3, h4, h5⟩ := info_parts infoI64
  subst hC
  have hrun := run_make (P := Try.prog) w 23 3 i (.int .i64 0) Try.underlying23 h2 h3 .i64 .i64 n n (by omega) (by omega) (by rw [h5]; omega) (by omega)
  unfold Oper.wp
  simp only [Int.toNat_natCast, h4, Nat.mul_one, made_int] at hrun
  simp [execOp, hop, hl, hc, hrun, Result.andThen]
  exact hK' _ _ hK
/-- append of one number onto numbers of one's own (its cell lies in the block that was made last). -/
theorem wpList_append_int (w1 : World) (x : Int) {ops : Array Oper} {rest : List Oper} {o : Oper} {a : Act} {Q : Exit → Act → World → Prop} (hgd : o.guard = none) (s y : Operand)
    (ho : o.op = .call { callee := .builtin .append, args := #[s, y], argTypes := #[23, 23] })
    (B : Nat) (v : Value) (l : List Int) (hs : a.eval s = v) (hown : IR w1 B v l) (hO : l.length ≤ 1000000) (hy : a.eval y = .slice (some ⟨w1.heap.size, 0, none⟩) 1 1) (hB : B ≤ w1.heap.size)
    (h : ∀ v' w', IR w' B v' (l ++ [x]) → Below B w1 w' → wpList Try.prog ops Q rest (a.put o.dst v') w') : wpList Try.prog ops Q (o :: rest) a (w1.alloc (.cells #[.int .i64 x] 3)) := by
  obtain ⟨t, h2, h3, h4, h5⟩ := info_parts infoI64
  have hbel : Below w1.heap.size w1 (w1.alloc (.cells #[.int .i64 x] 3)) := below_box _ _
  have hnew : (w1.alloc (.cells #[.int .i64 x] 3)).heap[w1.heap.size]? = some (.cells #[.int .i64 x] 3 (0, 0)) := heap_alloc_new w1 _
  have hf := hown.below hbel
  refine wpList_append_own _ hgd s y 23 ho B 3 t _ 1 8 Try.underlying23 h2 h3 h4 h5 rfl (by decide) v l.length _ hs hf ⟨w1.heap.size, 0, none⟩ 1 1 [.int .i64 x] hy rfl ?_ ?_ (by simp only [maxLen]; omega) (by omega) (by simp; omega) fun v' w' h6 h7 _ => ?_
  · intro m u hm
    have hm2 : m < 1 := by simpa using (List.getElem?_eq_some_iff.1 hm).1
    obtain rfl : m = 0 := by omega
    rw [Addr.add_lit, Nat.zero_add, cell_of_row _ _ _ _ _ _ hnew, ← hm]; rfl
  · intro u hu
    simp at hu
    subst hu; rfl
  · refine h v' w' ?_ ((hbel.mono hB).trans ((Below.refl _ _).grown h7 (by simp; omega) fun k hk => (World.ownsRow.lt hf k hk).1))
    have e : iC (l ++ [x]) = iC l ++ [.int .i64 x] := by simp [iC]
    show w'.ownsRow B 3 1 v' (l ++ [x]).length (iC (l ++ [x]))
    rw [e, List.length_append]; exact h6

section
variable {α : Type} {f : α → List Value} {s : Nat}
/-- One element of a row that is known whole. -/
theorem flat_range {w : World} {g k : Nat} {t : TypeId} {L : List α} (hg : w.heap[g]? = some (.cells (L.flatMap f).toArray t (0, 0))) (hf : ∀ x ∈ L, (f x).length = s) (hk : k < L.length) : w.rangeAt g (k * s) (f L[k]) := by
  refine range_row hg ?_
  rw [hf _ (List.getElem_mem hk)]
  exact flat_get hf k hk
/-- A struct into a row of structs that is known whole. -/
theorem wpList_store_flat {ops : Array Oper} {rest : List Oper} {op : Oper} {a : Act} {w : World} {Q : Exit → Act → World → Prop} (hgd : op.guard = none) (T : TypeId) (x y : Operand) (ho : op.op = .store T x y)
    (hs : (Try.prog.info? T).map (·.size) = some s) (g k : Nat) (L : List α) (z : α) (t : TypeId) (hx : a.eval x = .pointer (some ⟨g, k * s, none⟩)) (hy : a.eval y = .agg (f z).toArray)
    (hg : w.heap[g]? = some (.cells (L.flatMap f).toArray t (0, 0))) (hk : k < L.length) (hf : ∀ x ∈ L, (f x).length = s) (hz : (f z).length = s) (h1 : ∀ v ∈ f z, v.oneCell' = true)
    (h : ∀ w', Wrote w w' g → w'.heap[g]? = some (.cells ((L.set k z).flatMap f).toArray t (0, 0)) → wpList Try.prog ops Q rest (a.put op.dst undef) w') : wpList Try.prog ops Q (op :: rest) a w := by
  have hle : k * s + s ≤ L.length * s := by
    have := Nat.mul_le_mul_right s (show k + 1 ≤ L.length from hk)
    rw [Nat.succ_mul] at this; omega
  have hl : k * s + (f z).length ≤ (L.flatMap f).length := by rw [flat_length hf, hz]; exact hle
  refine wpList_store_mid hgd T x y ho g (k * s) (f z).toArray hx hy (there_row hg (by simpa using hl)) (by rw [hs]; simp [hz]) (all_oneCell_toArray h1) ?_
  have e := setCells_row hg hl h1
  rw [show (f z).toArray.toList = f z from rfl, e]
  refine h _ (Wrote.setRow _ _ _) ?_
  rw [setRow_heap _ _ _ _ _ _ hg, flat_set hf k hk z hz]
end
/-- A struct of numbers, out of a range, as a whole. -/
theorem wpList_load_nums {ops : Array Oper} {rest : List Oper} {op : Oper} {a : Act} {w : World} {Q : Exit → Act → World → Prop} (hgd : op.guard = none) (T : TypeId) (x : Operand) (ho : op.op = .load T x)
    (b o : Nat) (hx : a.eval x = .pointer (some ⟨b, o, none⟩)) (l : List Int) (d : TypeDesc) (hc : w.rangeAt b o (iC l))
    (hu : Try.prog.underlying T = some d) (hd : d.isRow = true) (hi : (Try.prog.info? T).map (·.size) = some l.length)
    (h : wpList Try.prog ops Q rest (a.put op.dst (.agg (iC l).toArray)) w) : wpList Try.prog ops Q (op :: rest) a w :=
  wpList_load_mid hgd T x ho b o hx (iC l) d hc hu hd (by rw [hi, iC_length]) h
theorem range_low {w w' : World} {b o : Nat} {cs : List Value} (h : w.rangeAt b o cs) (hb : Below w.heap.size w w') (hl : b < w.heap.size) : w'.rangeAt b o cs := fun j v hv => by
  rw [hb.cell (p := ⟨b, o + j, none⟩) hl]; exact h j v hv

/-- Nothing but block g has turned, of what was there. -/
def KeptG (w w' : World) (g : Nat) : Prop := w'.os = w.os ∧ w'.tape = w.tape ∧ w'.output = w.output ∧ w.heap.size ≤ w'.heap.size ∧ ∀ k, k < w.heap.size → k ≠ g → w'.heap[k]? = w.heap[k]?
theorem KeptG.refl (w : World) (g : Nat) : KeptG w w g := ⟨rfl, rfl, rfl, Nat.le_refl _, fun _ _ _ => rfl⟩
theorem KeptG.then {w w' w'' : World} {g : Nat} (h : KeptG w w' g) (hb : Below w'.heap.size w' w'') : KeptG w w'' g :=
  ⟨hb.os.trans h.1, hb.tape.trans h.2.1, hb.output.trans h.2.2.1, Nat.le_trans h.2.2.2.1 hb.size, fun k hk hne => by rw [hb.block k (Nat.lt_of_lt_of_le hk h.2.2.2.1)]; exact h.2.2.2.2 k hk hne⟩
theorem KeptG.wrote {w w' w'' : World} {g : Nat} (h : KeptG w w' g) (hb : Wrote w' w'' g) : KeptG w w'' g :=
  ⟨hb.1.trans h.1, hb.2.1.trans h.2.1, hb.2.2.1.trans h.2.2.1, by rw [hb.2.2.2.1]; exact h.2.2.2.1, fun k hk hne => by rw [hb.2.2.2.2 k hne]; exact h.2.2.2.2 k hk hne⟩
theorem KeptG.below {w w' : World} {g B : Nat} (h : KeptG w w' g) (hB : B ≤ g) (hw : B ≤ w.heap.size) : Below B w w' :=
  ⟨h.1, h.2.1, h.2.2.1, h.2.2.2.1, fun k hk => h.2.2.2.2 k (Nat.lt_of_lt_of_le hk hw) (by omega)⟩
theorem KeptG.cell {w w' : World} {g : Nat} (h : KeptG w w' g) {b o : Nat} (hb : b < w.heap.size) (hne : b ≠ g) : w'.cell? ⟨b, o, none⟩ = w.cell? ⟨b, o, none⟩ := by
  simp only [World.cell?]; rw [h.2.2.2.2 b hb hne]

theorem strs_ne {l m : List Int} (hl : Byt l) (hm : Byt m) (h : l ≠ m) (hi : ∀ {l m : List Int}, Byt l → Byt m → (strOfNums l).data.toList = (strOfNums m).data.toList → l = m) :
    ((strOfNums l).toList != (strOfNums m).toList) = true ∧ ((strOfNums l).toList == (strOfNums m).toList) = false := by
  have hn : ¬ (strOfNums l).toList = (strOfNums m).toList := fun hh => by
    rw [ByteArray.toList_eq, ByteArray.toList_eq] at hh
    exact h (hi hl hm hh)
  exact ⟨by rw [bne_iff_ne]; exact hn, by rw [beq_eq_false_iff_ne]; exact hn⟩
end Go.Proofs.Ytmjndpmpeidhaaa
