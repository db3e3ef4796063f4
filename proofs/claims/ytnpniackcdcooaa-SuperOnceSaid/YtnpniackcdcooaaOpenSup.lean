/- An argument that is a superblock. -/
import Derived.Test.YtnpniackcdcooaaSupT
import Derived.ProofKit
import Derived.OpenShut
namespace Go.Proofs.Ytnpniackcdcooaa
open Go.RowKit Go.ChangeShapes Go.WideShapes
set_option linter.unusedVariables false

theorem rSupCells : Try.prog.cellsOf 24 = 12 := by kernel_rfl
theorem intCells5 : Try.prog.cellsOf 3 = 1 := by kernel_rfl
theorem arr6Cells : Try.prog.cellsOf 22 = 6 := by kernel_rfl

section
variable {H : Type} {enc : TypeId × Value → H} {W : World} {base : Nat} {spare : Nat → Bool} {held : Bool}
theorem int_cell {cs : List Value} {fuel : Nat} {y : DataW H × List MemPlace} (hf : DataW.trod enc Try.prog W base spare held fuel 3 cs = some y) : ∃ x : Int, cs = [.int .i64 x] ∧ x ≤ 9223372036854775807 := by
  obtain ⟨k, e, _, wf⟩ := DataW.trod_int Try.underlying3 hf
  exact ⟨k, e, (bounds_i64 wf).2⟩
theorem six_cells {cs : List Value} {fuel : Nat} {y : DataW H × List MemPlace} (hl : cs.length = 6) (hf : DataW.trod enc Try.prog W base spare held fuel 22 cs = some y) :
    ∃ t0 t1 t2 t3 t4 t5 : Int, cs = [.int .i64 t0, .int .i64 t1, .int .i64 t2, .int .i64 t3, .int .i64 t4, .int .i64 t5] ∧ (∀ x ∈ [t0, t1, t2, t3, t4, t5], x ≤ 9223372036854775807) := by
  obtain ⟨xs, m, _, _, _, hxs, hi⟩ := DataW.trod_array Try.underlying22 hf
  rw [intCells5] at hi
  match cs, hl with
  | [c0, c1, c2, c3, c4, c5], _ =>
    match xs, hxs with
    | [y0, y1, y2, y3, y4, y5], _ =>
      obtain ⟨t0, e0, b0⟩ := int_cell (show DataW.trod enc Try.prog W base spare held m 3 [c0] = some y0 from hi 0 (by decide))
      obtain ⟨t1, e1, b1⟩ := int_cell (show DataW.trod enc Try.prog W base spare held m 3 [c1] = some y1 from hi 1 (by decide))
      obtain ⟨t2, e2, b2⟩ := int_cell (show DataW.trod enc Try.prog W base spare held m 3 [c2] = some y2 from hi 2 (by decide))
      obtain ⟨t3, e3, b3⟩ := int_cell (show DataW.trod enc Try.prog W base spare held m 3 [c3] = some y3 from hi 3 (by decide))
      obtain ⟨t4, e4, b4⟩ := int_cell (show DataW.trod enc Try.prog W base spare held m 3 [c4] = some y4 from hi 4 (by decide))
      obtain ⟨t5, e5, b5⟩ := int_cell (show DataW.trod enc Try.prog W base spare held m 3 [c5] = some y5 from hi 5 (by decide))
      simp only [List.cons.injEq, and_true] at e0 e1 e2 e3 e4 e5
      subst e0 e1 e2 e3 e4 e5
      exact ⟨t0, t1, t2, t3, t4, t5, rfl, by simp [b0, b1, b2, b3, b4, b5]⟩
theorem sup_cs {cs : List Value} {m : Nat} {y : DataW H × List MemPlace} (hl : cs.length = 12) (ht : DataW.trod enc Try.prog W base spare held m 24 cs = some y) :
    ∃ L : List Int, cs = L.map (Value.int .i64) ∧ L.length = 12 ∧ ∀ x ∈ L, x ≤ 9223372036854775807 := by
  obtain ⟨xs, n, _, _, hlen, hxs, hf⟩ := DataW.trod_struct Try.underlying24 ht
  match cs, hl with
  | [c0, c1, c2, c3, c4, c5, d0, d1, d2, d3, d4, d5], _ =>
    match xs, hxs with
    | [y0, y1, y2, y3, y4, y5, y6], _ =>
      have g0 : DataW.trod enc Try.prog W base spare held n 3 (List.take (Try.prog.cellsOf 3) (List.drop 0 [c0, c1, c2, c3, c4, c5, d0, d1, d2, d3, d4, d5])) = some y0 := hf 0 _ rfl
      have g1 : DataW.trod enc Try.prog W base spare held n 3 (List.take (Try.prog.cellsOf 3) (List.drop 1 [c0, c1, c2, c3, c4, c5, d0, d1, d2, d3, d4, d5])) = some y1 := hf 1 _ rfl
      have g2 : DataW.trod enc Try.prog W base spare held n 3 (List.take (Try.prog.cellsOf 3) (List.drop 2 [c0, c1, c2, c3, c4, c5, d0, d1, d2, d3, d4, d5])) = some y2 := hf 2 _ rfl
      have g3 : DataW.trod enc Try.prog W base spare held n 3 (List.take (Try.prog.cellsOf 3) (List.drop 3 [c0, c1, c2, c3, c4, c5, d0, d1, d2, d3, d4, d5])) = some y3 := hf 3 _ rfl
      have g4 : DataW.trod enc Try.prog W base spare held n 3 (List.take (Try.prog.cellsOf 3) (List.drop 4 [c0, c1, c2, c3, c4, c5, d0, d1, d2, d3, d4, d5])) = some y4 := hf 4 _ rfl
      have g5 : DataW.trod enc Try.prog W base spare held n 3 (List.take (Try.prog.cellsOf 3) (List.drop 5 [c0, c1, c2, c3, c4, c5, d0, d1, d2, d3, d4, d5])) = some y5 := hf 5 _ rfl
      have g6 : DataW.trod enc Try.prog W base spare held n 22 (List.take (Try.prog.cellsOf 22) (List.drop 6 [c0, c1, c2, c3, c4, c5, d0, d1, d2, d3, d4, d5])) = some y6 := hf 6 _ rfl
      rw [intCells5] at g0 g1 g2 g3 g4 g5
      rw [arr6Cells] at g6
      obtain ⟨x0, e0, b0⟩ := int_cell (cs := [c0]) g0
      obtain ⟨x1, e1, b1⟩ := int_cell (cs := [c1]) g1
      obtain ⟨x2, e2, b2⟩ := int_cell (cs := [c2]) g2
      obtain ⟨x3, e3, b3⟩ := int_cell (cs := [c3]) g3
      obtain ⟨x4, e4, b4⟩ := int_cell (cs := [c4]) g4
      obtain ⟨x5, e5, b5⟩ := int_cell (cs := [c5]) g5
      obtain ⟨t0, t1, t2, t3, t4, t5, e6, b6⟩ := six_cells (cs := [d0, d1, d2, d3, d4, d5]) rfl g6
      simp only [List.cons.injEq, and_true] at e0 e1 e2 e3 e4 e5
      subst e0 e1 e2 e3 e4 e5
      refine ⟨[x0, x1, x2, x3, x4, x5, t0, t1, t2, t3, t4, t5], ?_, rfl, fun x hx => ?_⟩
      · simp only [List.cons.injEq, and_true] at e6
        obtain ⟨rfl, rfl, rfl, rfl, rfl, rfl⟩ := e6
        rfl
      · simp only [List.mem_cons, List.not_mem_nil, or_false] at hx b6
        rcases hx with rfl | rfl | rfl | rfl | rfl | rfl | hx
        · exact b0
        · exact b1
        · exact b2
        · exact b3
        · exact b4
        · exact b5
        · exact b6 x hx
theorem sup_open {v : Value} {d : DataW H} {p : List MemPlace} {r : Reach} {b0 : Nat} (hv : Value.okWide Try.prog W r b0 24 v) (h : DataW.Trod enc Try.prog W base (fun _ => true) held 24 v d p) :
    ∃ L : List Int, v = supV L ∧ L.length = 12 ∧ Top L := by
  obtain ⟨cs, rfl, hs⟩ := okWide_struct Try.underlying24 hv
  rw [rSupCells] at hs
  obtain ⟨fuel, hf⟩ := h
  obtain ⟨L, e, h1, h2⟩ := sup_cs (by simpa [Value.cells] using hs) hf
  have e' : cs.toList = L.map (Value.int .i64) := e
  refine ⟨L, ?_, h1, fun i => ?_⟩
  · rw [supV, ← e']
  · by_cases hi : i < L.length
    · have : num L i = L[i] := by simp [num, List.getD_eq_getElem?_getD, hi]
      rw [this]; exact h2 _ (List.getElem_mem hi)
    · unfold num; rw [List.getD_eq_getElem?_getD, List.getElem?_eq_none (by omega)]; decide
end
end Go.Proofs.Ytnpniackcdcooaa
