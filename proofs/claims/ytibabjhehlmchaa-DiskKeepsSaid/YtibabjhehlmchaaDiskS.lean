/- Package disk: what settle makes of a disk; the variables of type write. -/
import Derived.Test.YtibabjhehlmchaaDiskF
import Derived.Deep.RegionHeld
namespace Go.Proofs.Ytibabjhehlmchaa
open Go.RowKit
set_option linter.unusedVariables false

/-- Flushed blocks behind k unflushed Writes, of which kp keeps some. -/
def stF (kp : Nat → Bool) (U : List (Nat × List Int)) (F : List (List Int)) : Nat → List (List Int)
  | 0 => F
  | k + 1 => if kp k then (stF kp U F k).set (U.getD k (0, [])).1 (U.getD k (0, [])).2 else stF kp U F k
/-- Visible blocks behind k Writes undone or kept. -/
def stV (U : List (Nat × List Int)) (F1 V : List (List Int)) : Nat → List (List Int)
  | 0 => V
  | k + 1 => (stV U F1 V k).set (U.getD k (0, [])).1 (F1.getD (U.getD k (0, [])).1 [])
theorem stF_length (kp : Nat → Bool) (U : List (Nat × List Int)) (F : List (List Int)) : ∀ k, (stF kp U F k).length = F.length
  | 0 => rfl
  | k + 1 => by
    have := stF_length kp U F k
    unfold stF; split
    · rw [List.length_set, this]
    · exact this
theorem stV_length (U : List (Nat × List Int)) (F1 V : List (List Int)) : ∀ k, (stV U F1 V k).length = V.length
  | 0 => rfl
  | k + 1 => by
    have := stV_length U F1 V k
    unfold stV; rw [List.length_set, this]

/-- Nothing that was there has turned but the blocks g1 and g2. -/
structure Frm (w W : World) (g1 g2 : Nat) : Prop where
  os : W.os = w.os
  tape : W.tape = w.tape
  output : W.output = w.output
  size : w.heap.size ≤ W.heap.size
  block : ∀ k, k < w.heap.size → k ≠ g1 → k ≠ g2 → W.heap[k]? = w.heap[k]?
theorem Frm.refl (w : World) (g1 g2 : Nat) : Frm w w g1 g2 := ⟨rfl, rfl, rfl, Nat.le_refl _, fun _ _ _ _ => rfl⟩
theorem Frm.below {w W : World} {g1 g2 B : Nat} (h : Frm w W g1 g2) (h1 : B ≤ g1) (h2 : B ≤ g2) (hB : B ≤ w.heap.size) : Below B w W :=
  ⟨h.os, h.tape, h.output, h.size, fun k hk => h.block k (by omega) (by omega) (by omega)⟩
theorem Frm.trans {a b c : World} {g1 g2 : Nat} (h : Frm a b g1 g2) (k : Frm b c g1 g2) : Frm a c g1 g2 :=
  ⟨k.os.trans h.os, k.tape.trans h.tape, k.output.trans h.output, Nat.le_trans h.size k.size, fun i hi h1 h2 => (k.block i (Nat.lt_of_lt_of_le hi h.size) h1 h2).trans (h.block i hi h1 h2)⟩
theorem Frm.of_below {w W : World} {g1 g2 : Nat} (h : Below w.heap.size w W) : Frm w W g1 g2 := ⟨h.os, h.tape, h.output, h.size, fun k hk _ _ => h.block k hk⟩
theorem Frm.of_wrote {w W : World} {g1 g2 : Nat} (h : Wrote w W g1) : Frm w W g1 g2 := ⟨h.1, h.2.1, h.2.2.1, Nat.le_of_eq h.2.2.2.1.symm, fun k _ h1 _ => h.2.2.2.2 k h1⟩
theorem Frm.of_wrote2 {w W : World} {g1 g2 : Nat} (h : Wrote w W g2) : Frm w W g1 g2 := ⟨h.1, h.2.1, h.2.2.1, Nat.le_of_eq h.2.2.2.1.symm, fun k _ _ h2 => h.2.2.2.2 k h2⟩

section
variable {w : World} {B bp bf bv : Nat} {u : Value} {F V : List (List Int)} {U : List (Nat × List Int)} {fu dn : Bool} {le : Int}
/-- A flushed block turned. -/
theorem DskAt.setF (h : DskAt w B bp bf bv u F V U fu le dn) {W : World} (hw : Below w.heap.size w W) (n : Nat) (hn : n < F.length) (b : List Int) (hb : Blk b) :
    DskAt (W.setCells bf (n * 256) (cB b)) B bp bf bv u (F.set n b) V U fu le dn ∧ Wrote W (W.setCells bf (n * 256) (cB b)) bf := by
  have h' := h.below hw
  have hl := cB_length b
  have hfl := flat_length (flatB_len h.okF)
  have e := setCells_row (vs := cB b) h'.hf (o := n * 256) (by rw [hl, hb.1, hfl]; omega) (cB_one b)
  rw [flat_set (flatB_len h.okF) n hn b (by rw [hl, hb.1])] at e
  rw [e]
  have hwr := Wrote.setRow W bf ((F.set n b).flatMap cB).toArray
  have key : ∀ {g : Nat} {o : Obj}, g ≠ bf → W.heap[g]? = some o → (W.setRow bf ((F.set n b).flatMap cB).toArray).heap[g]? = some o := fun hg hh => by
    rw [hwr.2.2.2.2 _ hg]; exact hh
  refine ⟨⟨h.bB, h.ne, by rw [List.length_set]; exact key h.ne.1 h'.hp, setRow_heap _ _ _ _ _ _ h'.hf, key (Ne.symm h.ne.2.2) h'.hv, ⟨h.hu.1, ?_⟩, h.une, ?_, h.okV, h.okU, by rw [List.length_set]; exact h.len, h.max⟩, hwr⟩
  · rcases h'.hu.2 with h0 | ⟨g, cap, cur, hv, hg, hh, r⟩
    · exact .inl h0
    · exact .inr ⟨g, cap, cur, hv, hg, key (fun e => h.une.2.1 (by rw [hv, ← e]; rfl)) hh, r⟩
  · intro x hx
    rcases List.mem_or_eq_of_mem_set hx with hx | rfl
    · exact h.okF x hx
    · exact hb
/-- No Write unflushed any more. -/
theorem DskAt.noU (h : DskAt w B bp bf bv u F V U fu le dn) : DskAt (w.setCell ⟨bp, 2, none⟩ (.slice none 0 0)) B bp bf bv (.slice none 0 0) F V [] fu le dn := by
  have oth : ∀ {k : Nat}, k ≠ bp → (w.setCell ⟨bp, 2, none⟩ (.slice none 0 0)).heap[k]? = w.heap[k]? := fun hk => heap_setCell_other _ _ _ _ hk
  refine ⟨h.bB, h.ne, ?_, ?_, ?_, ⟨rfl, .inl ⟨rfl, rfl⟩⟩, ⟨by simp [Value.ownBlock], by simp [Value.ownBlock], by simp [Value.ownBlock]⟩, h.okF, h.okV, fun x hx => by simp at hx, h.len, h.max⟩
  · have := heap_setCell_same w bp 2 _ _ (.slice none 0 0) h.hp
    simpa using this
  · rw [oth (Ne.symm h.ne.1)]; exact h.hf
  · rw [oth (Ne.symm h.ne.2.1)]; exact h.hv
/-- The i-th unflushed Write lies in u's row. -/
theorem DskAt.rangeU (h : DskAt w B bp bf bv u F V U fu le dn) (i : Nat) (hi : i < U.length) : ∃ g cap, u = .slice (some ⟨g, 0, none⟩) U.length cap ∧ g < w.heap.size ∧ w.rangeAt g (i * 257) (cU U[i]) := by
  have hfl := flat_length (flatU_len fun x hx => (h.okU x hx).2)
  rcases h.hu.2 with ⟨_, h0⟩ | ⟨g, cap, cur, hv, hg, hh, h1, h2, h3, h4⟩
  · omega
  · have hc := cU_length U[i]
    have hb := (h.okU U[i] (List.getElem_mem _)).2.1
    have hu := flat_get (flatU_len fun x hx => (h.okU x hx).2) i hi
    refine ⟨g, cap, hv, (Array.getElem?_eq_some_iff.1 hh).1, range_row (cur := cur.toList) (by simpa using hh) ?_⟩
    rw [hc, hb, ← h4, List.drop_take, List.take_take] at *
    rw [← hu]
    congr 1
    have : (i + 1) * 257 ≤ U.length * 257 := Nat.mul_le_mul_right _ hi
    rw [Nat.succ_mul] at this
    omega
end

theorem sizeW : (Try.prog.info? 53).map (·.size) = some 257 := by kernel_rfl
/-- A variable of type write, laid whole, and read whole. -/
theorem wpList_allocW (w : World) {ops : Array Oper} {rest : List Oper} {o : Oper} {a : Act} {Q : Exit → Act → World → Prop} (hg : o.guard = none) (hop : o.op = Op.alloc 53)
    (hK : wpList Try.prog ops Q rest (a.put o.dst (.pointer (some ⟨w.heap.size, 0, none⟩))) (w.alloc (.cells (Value.int .i64 0 :: zB).toArray 53))) : wpList Try.prog ops Q (o :: rest) a w := by
  refine wpList_plain hg fun K hK' => ?_
  have hz := (zero_of_info (v := .agg (Value.int .i64 0 :: zB).toArray) (n := 257) (t := 53) (P := Try.prog) (by
    obtain ⟨i, h2, h3, h4, h5⟩ := info_parts infoW
    simp [h2, h3, h4])).1 w
  unfold Oper.wp execOp
  simp only [hop, Instr.alloc, newVar, newRow, Sem.run_bind, hz, Result.andThen_ok, Value.cells]
  exact hK' _ _ hK
theorem wpList_loadW (w : World) {ops : Array Oper} {rest : List Oper} {o : Oper} {a : Act} {Q : Exit → Act → World → Prop} (hg : o.guard = none) (x : Operand) (hop : o.op = Op.load 53 x)
    (g off : Nat) (cells : List Value) (hx : a.eval x = .pointer (some ⟨g, off, none⟩)) (hr : w.rangeAt g off cells) (hc : cells.length = 257)
    (hK : wpList Try.prog ops Q rest (a.put o.dst (.agg cells.toArray)) w) : wpList Try.prog ops Q (o :: rest) a w :=
  wpList_load_mid hg 53 x hop g off hx cells _ hr Try.underlying53 rfl (by rw [sizeW, hc]) hK
theorem wpList_storeW (w : World) {ops : Array Oper} {rest : List Oper} {o : Oper} {a : Act} {Q : Exit → Act → World → Prop} (hg : o.guard = none) (x y : Operand) (hop : o.op = Op.store 53 x y)
    (g : Nat) (t : TypeId) (old cells : List Value) (hx : a.eval x = .pointer (some ⟨g, 0, none⟩)) (hy : a.eval y = .agg cells.toArray) (hh : w.heap[g]? = some (.cells old.toArray t (0, 0))) (ho : old.length = 257) (hc : cells.length = 257) (h1 : ∀ v ∈ cells, v.oneCell' = true)
    (hK : wpList Try.prog ops Q rest (a.put o.dst undef) (w.setRow g cells.toArray)) : wpList Try.prog ops Q (o :: rest) a w :=
  wpList_store_row hg 53 x y hop g cells.toArray hx hy t old.toArray hh (by rw [sizeW]; simp [hc]) (by simp [ho, hc]) (all_oneCell_toArray h1) hK
end Go.Proofs.Ytibabjhehlmchaa
