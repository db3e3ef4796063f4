/- A write's value, and a slice of one write. -/
import Derived.Test.YtibabjhehlmchaaDiskD
import Derived.Great.BuildSlice
namespace Go.Proofs.Ytibabjhehlmchaa
open Go.RowKit
set_option linter.unusedVariables false

theorem foldl_set : ∀ (l : List Value) (k off : Nat) (cells : List Value), off + k + l.length ≤ cells.length →
    (l.zipIdx k).foldl (fun (cs : Array Value) (x : Value × Nat) => cs.setIfInBounds (off + x.2) x.1) cells.toArray = (splice cells (off + k) l).toArray
  | [], k, off, cells, _ => by simp [splice]
  | v :: l, k, off, cells, h => by
    have hl : off + k + (l.length + 1) ≤ cells.length := by simpa using h
    rw [List.zipIdx_cons, List.foldl_cons, show cells.toArray.setIfInBounds (off + k) v = (cells.set (off + k) v).toArray by simp,
      foldl_set l (k + 1) off _ (by rw [List.length_set]; omega)]
    have e := list_seg_step cells (off + k) v l (by omega)
    simp only [splice, ← Nat.add_assoc]
    simpa [Nat.add_assoc] using congrArg List.toArray e

theorem fill_cons (place : Nat → Option (Nat × Nat)) (cells : List Value) (i off size : Nat) (v : Value) (vs : List Value) (rest : List (Nat × Value)) (hp : place i = some (off, size)) (hv : v.cells = vs.toArray) (hs : vs.length = size) (hl : off + size ≤ cells.length) :
    Instr.fill place cells.toArray ((i, v) :: rest) = Instr.fill place (splice cells off vs).toArray rest := by
  have hf := foldl_set vs 0 off cells (by omega)
  rw [Nat.add_zero] at hf
  rw [Instr.fill, hp]
  have c1 : ¬ (vs.toArray.size ≠ size ∨ off + vs.toArray.size > cells.toArray.size) := by simp; omega
  simp only [hv]
  rw [if_neg (by simpa using c1)]
  congr 1
  rw [← hf]
  simp [← Array.foldl_toList]

theorem build_write (W : World) (n : Int) (b : List Int) (hb : b.length = 256) : (Instr.build 53 #[(0, .int .i64 n), (1, .agg (cB b).toArray)]).run Try.prog W = .ok (.agg (.int .i64 n :: cB b).toArray) W := by
  refine run_build W 53 _ _ ?_
  have hz := zB_length
  have hcb := cB_length b
  obtain ⟨it, h2, h3, h4, h5⟩ := info_parts infoW
  have hu : Try.prog.underlying 53 = _ := Try.underlying53
  unfold Program.built
  rw [h2, hu]
  simp only [h3]
  generalize hm : (List.mapM (m := Option) _ _ : Option (List (Nat × Nat))) = m
  have hm' : m = some [(0, 1), (1, 256)] := by rw [← hm]; kernel_rfl
  subst hm'
  clear hm
  show Instr.fill _ (Value.int .i64 0 :: zB).toArray _ = _
  rw [fill_cons _ _ 0 0 1 (.int .i64 n) [.int .i64 n] _ rfl rfl rfl (by rw [List.length_cons]; omega),
    show splice (Value.int .i64 0 :: zB) 0 [.int .i64 n] = .int .i64 n :: zB from rfl,
    fill_cons _ _ 1 1 256 (.agg (cB b).toArray) (cB b) _ rfl rfl (by rw [hcb, hb]) (by rw [List.length_cons]; omega),
    show splice (Value.int .i64 n :: zB) 1 (cB b) = .int .i64 n :: splice zB 0 (cB b) by simp only [splice]; rw [Nat.add_comm 1]; simp, splice_whole _ _ (by rw [hcb, hb, hz])]
  rfl

theorem slice_write (W : World) (cs : List Value) (hc : cs.length = 257) : (Instr.buildSlice 45 1 #[(0, .agg cs.toArray)]).run Try.prog W = .ok (.slice (some ⟨W.heap.size, 0, none⟩) 1 1) (W.alloc (.cells cs.toArray 53)) := by
  have hz := zB_length
  obtain ⟨i, h2, h3, h4, h5⟩ := info_parts infoW
  refine run_buildSlice W 45 53 1 _ cs.toArray i (.agg (Value.int .i64 0 :: zB).toArray) Try.underlying45 h2 h3 (by rw [h4]; decide) (by rw [h4]; decide) ?_
  rw [h4]
  generalize hA : Array.map _ _ = A
  have hs : A.toList.length = 257 := by rw [← hA]; simp
  obtain ⟨L, rfl⟩ : ∃ L : List Value, A = L.toArray := ⟨A.toList, by simp⟩
  clear hA
  rw [show (#[((0 : Nat), Value.agg cs.toArray)] : Array (Nat × Value)).toList = [(0, .agg cs.toArray)] from rfl, fill_cons _ _ 0 0 257 (.agg cs.toArray) cs _ rfl rfl hc (by simpa using Nat.le_of_eq hs.symm),
    splice_whole _ _ (by rw [hc]; exact hs.symm)]
  rfl

section
variable {w : World} {B bp bf bv : Nat} {u : Value} {F V : List (List Int)} {U : List (Nat × List Int)} {fu dn : Bool} {le : Int}
/-- A visible block turned. -/
theorem DskAt.setV (h : DskAt w B bp bf bv u F V U fu le dn) {W : World} (hw : Below w.heap.size w W) (n : Nat) (hn : n < V.length) (b : List Int) (hb : Blk b) :
    DskAt (W.setCells bv (n * 256) (cB b)) B bp bf bv u F (V.set n b) U fu le dn ∧ Wrote W (W.setCells bv (n * 256) (cB b)) bv := by
  have h' := h.below hw
  have hl := cB_length b
  have hfl := flat_length (flatB_len h.okV)
  have e := setCells_row (vs := cB b) h'.hv (o := n * 256) (by rw [hl, hb.1, hfl]; omega) (cB_one b)
  rw [flat_set (flatB_len h.okV) n hn b (by rw [hl, hb.1])] at e
  rw [e]
  have hwr := Wrote.setRow W bv ((V.set n b).flatMap cB).toArray
  have key : ∀ {g : Nat} {o : Obj}, g ≠ bv → W.heap[g]? = some o → (W.setRow bv ((V.set n b).flatMap cB).toArray).heap[g]? = some o := fun hg hh => by
    rw [hwr.2.2.2.2 _ hg]; exact hh
  refine ⟨⟨h.bB, h.ne, by rw [List.length_set]; exact key h.ne.2.1 h'.hp, key h.ne.2.2 h'.hf, setRow_heap _ _ _ _ _ _ h'.hv, ⟨h.hu.1, ?_⟩, h.une, h.okF, ?_, fun x hx => by rw [List.length_set]; exact h.okU x hx, by rw [List.length_set]; exact h.len, by rw [List.length_set]; exact h.max⟩, hwr⟩
  · rcases h'.hu.2 with h0 | ⟨g, cap, cur, hv, hg, hh, r⟩
    · exact .inl h0
    · exact .inr ⟨g, cap, cur, hv, hg, key (fun e => h.une.2.2 (by rw [hv, ← e]; rfl)) hh, r⟩
  · intro x hx
    rcases List.mem_or_eq_of_mem_set hx with hx | rfl
    · exact h.okV x hx
    · exact hb
end
end Go.Proofs.Ytibabjhehlmchaa
