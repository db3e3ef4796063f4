/- A slice of one inode; an inode appended onto inodes of one's own. -/
import Derived.Test.YtbikbglkecbgjaaInoI
import Derived.Great.BuildSlice
namespace Go.Proofs.Ytbikbglkecbgjaa
open Go.RowKit
set_option linter.unusedVariables false

theorem foldl_put : ∀ (l : List Value) (k : Nat) (cells : List Value), k + l.length ≤ cells.length →
    (l.zipIdx k).foldl (fun (cs : Array Value) (x : Value × Nat) => cs.setIfInBounds (0 + x.2) x.1) cells.toArray = (splice cells k l).toArray
  | [], k, cells, _ => by simp [splice]
  | v :: l, k, cells, h => by
    have hl : k + (l.length + 1) ≤ cells.length := by simpa using h
    rw [List.zipIdx_cons, List.foldl_cons, show cells.toArray.setIfInBounds (0 + k) v = (cells.set k v).toArray by simp,
      foldl_put l (k + 1) _ (by rw [List.length_set]; omega)]
    have e := list_seg_step cells k v l (by omega)
    simp only [splice]
    simpa [Nat.add_assoc] using congrArg List.toArray e
theorem fill_whole (cells : Array Value) (size : Nat) (vs : List Value) (hs : vs.length = size) (hl : cells.size = size) :
    Instr.fill (fun i => some (i * size, size)) cells [(0, .agg vs.toArray)] = some vs.toArray := by
  obtain ⟨L, rfl⟩ : ∃ L : List Value, cells = L.toArray := ⟨cells.toList, by simp⟩
  have hL : L.length = size := by simpa using hl
  have hf := foldl_put vs 0 L (by omega)
  rw [Instr.fill]
  have c1 : ¬ (vs.toArray.size ≠ size ∨ 0 * size + vs.toArray.size > L.toArray.size) := by simp; omega
  simp only [show (Value.agg vs.toArray).cells = vs.toArray from rfl]
  rw [if_neg (by simpa using c1)]
  rw [splice_whole L vs (by omega)] at hf
  simp only [Instr.fill, Nat.zero_mul]
  congr 1
  refine Eq.trans ?_ hf
  simp [← Array.foldl_toList]
theorem infoRz : (Try.prog.info? 41).map (fun i => (i.zero, i.size, i.bytes)) = some (some (.agg #[.int .i64 0, .int .i64 0, .int .i64 0, .int .i64 0, .int .i64 0, .int .i64 0, .int .i64 0, .int .i64 0, .int .i64 0, .int .i64 0, .int .i64 0, .int .i64 0, .int .i64 0, .int .i64 0]), 14, 112) := by kernel_rfl
/-- A slice of one inode. -/
theorem wpList_slice_ino {w : World} {ops : Array Oper} {rest : List Oper} {o : Oper} {a : Act} {Q : Exit → Act → World → Prop} (hgd : o.guard = none) (S T : TypeId) (y : Operand) (ho : o.op = .buildSlice S 1 #[(0, y)])
    (hu : Try.prog.underlying S = some (.slice T)) (hi : (Try.prog.info? T).map (fun i => (i.zero, i.size, i.bytes)) = some (some (.agg #[.int .i64 0, .int .i64 0, .int .i64 0, .int .i64 0, .int .i64 0, .int .i64 0, .int .i64 0, .int .i64 0, .int .i64 0, .int .i64 0, .int .i64 0, .int .i64 0, .int .i64 0, .int .i64 0]), 14, 112)) (x : List Int) (hx : x.length = 14) (hy : a.eval y = .agg (iC x).toArray)
    (h : wpList Try.prog ops Q rest (a.put o.dst (.slice (some ⟨w.heap.size, 0, none⟩) 1 1)) (w.alloc (iO x T))) : wpList Try.prog ops Q (o :: rest) a w := by
  obtain ⟨i, h2, h3, h4, h5⟩ := info_parts hi
  refine wpList_buildSlice hgd S T 1 _ ho (iC x).toArray i _ hu h2 h3 (by rw [h4]; decide) (by rw [h4]; decide) ?_ h
  rw [h4]
  simp only [List.map_toArray, List.map_cons, List.map_nil, hy]
  exact fill_whole _ 14 (iC x) (by rw [iC_length, hx]) (by simp)
/-- append of one inode onto inodes of one's own (its cells lie in the block that was made last). -/
theorem wpList_append_ino (w1 : World) (x : List Int) (hx14 : x.length = 14) {ops : Array Oper} {rest : List Oper} {o : Oper} {a : Act} {Q : Exit → Act → World → Prop} (hgd : o.guard = none) (S T : TypeId) (s y : Operand)
    (ho : o.op = .call { callee := .builtin .append, args := #[s, y], argTypes := #[S, S] })
    (hu : Try.prog.underlying S = some (.slice T)) (hi : (Try.prog.info? T).map (fun i => (i.zero, i.size, i.bytes)) = some (some (.agg #[.int .i64 0, .int .i64 0, .int .i64 0, .int .i64 0, .int .i64 0, .int .i64 0, .int .i64 0, .int .i64 0, .int .i64 0, .int .i64 0, .int .i64 0, .int .i64 0, .int .i64 0, .int .i64 0]), 14, 112))
    (B : Nat) (v : Value) (O : List (List Int)) (hs : a.eval s = v) (hown : NR w1 B T v O) (hO : O.length ≤ 1000000) (hy : a.eval y = .slice (some ⟨w1.heap.size, 0, none⟩) 1 1) (hB : B ≤ w1.heap.size)
    (h : ∀ v' w', NR w' B T v' (O ++ [x]) → Below B w1 w' → wpList Try.prog ops Q rest (a.put o.dst v') w') : wpList Try.prog ops Q (o :: rest) a (w1.alloc (iO x T)) := by
  obtain ⟨t, h2, h3, h4, h5⟩ := info_parts hi
  have hbel : Below w1.heap.size w1 (w1.alloc (iO x T)) := below_box _ _
  have hnew : (w1.alloc (iO x T)).heap[w1.heap.size]? = some (iO x T) := heap_alloc_new w1 _
  have hf := hown.below hbel
  refine wpList_append_own _ hgd s y S ho B T t _ 14 112 hu h2 h3 h4 h5 rfl (by decide) v O.length _ hs hf.2 ⟨w1.heap.size, 0, none⟩ 1 1 (iC x) hy (by rw [iC_length, hx14]) ?_ (iC_one x) (by simp only [maxLen]; omega) (by omega) (by simp; omega) fun v' w' h6 h7 _ => ?_
  · intro m u hm
    rw [Addr.add_lit, Nat.zero_add]
    have := io_range hnew m u hm
    rw [Nat.zero_add] at this
    exact this
  · refine h v' w' ⟨fun z hz => ?_, ?_⟩ ((hbel.mono hB).trans ((Below.refl _ _).grown h7 (by simp; omega) fun k hk => (World.ownsRow.lt hf.2 k hk).1))
    · rcases List.mem_append.1 hz with hz | hz
      · exact hown.1 z hz
      · simp at hz; subst hz; exact hx14
    · have e : nC (O ++ [x]) = nC O ++ iC x := by simp [nC]
      rw [List.length_append, e]; exact h6
end Go.Proofs.Ytbikbglkecbgjaa
