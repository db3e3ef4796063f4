/- Package disk: blockOf. -/
import Derived.Test.YtibabjhehlmchaaDiskM
namespace Go.Proofs.Ytibabjhehlmchaa
open Go.RowKit
set_option linter.unusedVariables false

theorem sizeB : (Try.prog.info? 50).map (·.size) = some 256 := by kernel_rfl
theorem built_zero : Try.prog.built 50 [] = some zB.toArray := by kernel_rfl

/-- block{}. -/
theorem wpList_buildB (w : World) {ops : Array Oper} {rest : List Oper} {o : Oper} {a : Act} {Q : Exit → Act → World → Prop} (hg : o.guard = none) (hop : o.op = Op.build 50 #[])
    (hK : wpList Try.prog ops Q rest (a.put o.dst (.agg zB.toArray)) w) : wpList Try.prog ops Q (o :: rest) a w := by
  refine wpList_plain hg fun K hK' => ?_
  have hb : Try.prog.built 50 ((#[] : Array (Nat × Operand)).map fun (i, x) => (i, a.eval x)).toList = some zB.toArray := by simpa using built_zero
  exact wp_build 50 #[] hop (by rw [hb]; rfl) (by rw [hb]; exact hK' _ _ hK)
/-- A whole block into a variable of type block, and out of it. -/
theorem wpList_storeB (w : World) {ops : Array Oper} {rest : List Oper} {o : Oper} {a : Act} {Q : Exit → Act → World → Prop} (hg : o.guard = none) (x y : Operand) (hop : o.op = Op.store 50 x y)
    (g : Nat) (t : TypeId) (old cells : List Value) (hx : a.eval x = .pointer (some ⟨g, 0, none⟩)) (hy : a.eval y = .agg cells.toArray) (hh : w.heap[g]? = some (.cells old.toArray t (0, 0))) (ho : old.length = 256) (hc : cells.length = 256) (h1 : ∀ v ∈ cells, v.oneCell' = true)
    (hK : wpList Try.prog ops Q rest (a.put o.dst undef) (w.setRow g cells.toArray)) : wpList Try.prog ops Q (o :: rest) a w :=
  wpList_store_row hg 50 x y hop g cells.toArray hx hy t old.toArray hh (by rw [sizeB]; simp [hc]) (by simp [ho, hc]) (all_oneCell_toArray h1) hK
theorem wpList_loadB (w : World) {ops : Array Oper} {rest : List Oper} {o : Oper} {a : Act} {Q : Exit → Act → World → Prop} (hg : o.guard = none) (x : Operand) (hop : o.op = Op.load 50 x)
    (g off : Nat) (cells : List Value) (hx : a.eval x = .pointer (some ⟨g, off, none⟩)) (hr : w.rangeAt g off cells) (hc : cells.length = 256)
    (hK : wpList Try.prog ops Q rest (a.put o.dst (.agg cells.toArray)) w) : wpList Try.prog ops Q (o :: rest) a w :=
  wpList_load_mid hg 50 x hop g off hx cells _ hr Try.underlying50 rfl (by rw [sizeB, hc]) hK

set_option maxRecDepth 100000 in
theorem dBlockOf_any {w : World} {v : Value} {l : List Int} (hv : BSl w v l) (hl : l.length = 256) :
    Calls Try.prog 22 #[v] w fun e w' => e = .returned (.agg (cB l).toArray) ∧ Below w.heap.size w w' := by
  obtain ⟨ao, cap, rfl, hcap⟩ := hv.shape
  obtain ⟨M, hM⟩ : ∃ M, M = l.length := ⟨_, rfl⟩
  have hlen : Try.prog.arrayLen 50 = 256 := by kernel_rfl
  have harr : Try.prog.underlying 50 = some (.array 256 5) := Try.underlying50
  have HZ := Lib.hid zB_length
  have HL := Lib.hid hl
  have hone : ∀ v ∈ zB, v.oneCell' = true := fun v hv => by rw [List.eq_of_mem_replicate hv]; rfl
  rw [← hM] at hv ⊢
  have hsrc := src_cells hv (fun _ _ => rfl) (w1 := w) l.length
  rw [List.take_length] at hsrc
  have HM : Hid (M = 256) := by rw [hM]; exact HL
  clear hl hcap hM
  go_enter Try.func22, Try.ntmps22
  go_wp2_with (first
    | with_reducible refine wpList_allocB _ rfl rfl ?_
    | with_reducible refine wpList_buildB _ rfl rfl ?_
    | (refine wpList_storeB _ rfl _ _ (by rfl) _ 50 zB zB (by rfl) (by rfl) (heap_alloc_last _ _) HZ.out HZ.out hone ?_
       rw [World.setRow_alloc_new])
    | (refine wpList_copy_wrote (by rfl) _ _ _ _ (by rfl) 5 Try.underlying30 (by kernel_rfl) _ _ _ _ _ _ (by rfl) (by rfl) (w.heap.size + 1) 0 zB 50 ?_ (cB l) 256 (by rw [cB_length]; exact HL.out) ?_ ?_ ?_ (cB_one l) ?_))
  · rw [show w.heap.size + 1 = (w.alloc (.cells zB.toArray 50)).heap.size by simp]; exact heap_alloc_last _ _
  · rw [HM.out]; rfl
  · intro hpos
    obtain ⟨ad, rfl, hc⟩ := hsrc hpos
    refine ⟨ad, rfl, fun j v hj => ?_⟩
    have hcj := hc j v hj
    have hlt := World.block_lt_of_cell? w _ hcj
    rw [World.cell?_alloc_lt _ _ _ (Nat.lt_of_lt_of_le hlt (by simp)), World.cell?_alloc_lt _ _ _ hlt, hcj]
  · rw [cB_length, HL.out, HZ.out]; exact Nat.le_refl _
  intro w' hrow hwr
  rw [splice_whole _ _ (by rw [cB_length, HL.out, HZ.out])] at hrow
  have hrow0 : w'.heap[w.heap.size]? = some (.cells zB.toArray 50 (0, 0)) := by
    rw [hwr.2.2.2.2 _ (by omega), heap_alloc_old _ _ (by simp)]; exact heap_alloc_last _ _
  go_wp2_with (first
    | (refine wpList_loadB _ rfl _ (by rfl) _ 0 (cB l) (by rfl) (range_row hrow.out (by rw [List.drop_zero, List.take_length])) (by rw [cB_length]; exact HL.out) ?_)
    | (refine wpList_storeB _ rfl _ _ (by rfl) _ 50 zB (cB l) (by rfl) (by rfl) hrow0 HZ.out (by rw [cB_length]; exact HL.out) (cB_one l) ?_))
  have hrow2 := setRow_heap w' w.heap.size _ (cB l).toArray 50 _ hrow0
  refine bodyPost_ret (v := .agg (cB l).toArray) ?_ rfl ⟨rfl, ?_⟩
  · exact results_cell_row rfl _ _ w.heap.size 50 (cB l).toArray (0, 0) _ (by rfl) hrow2 harr rfl (by rw [sizeB]; simp [cB_length, HL.out])
  · have b1 : Below w.heap.size w ((w.alloc (.cells zB.toArray 50)).alloc (.cells zB.toArray 50)) := ((Below.refl _ _).alloc (Nat.le_refl _) _).alloc (by simp) _
    have b2 : Below w.heap.size _ w' := hwr.below (by omega)
    exact (b1.trans b2).trans ((Wrote.setRow w' w.heap.size _).below (Nat.le_refl _))
end Go.Proofs.Ytibabjhehlmchaa
