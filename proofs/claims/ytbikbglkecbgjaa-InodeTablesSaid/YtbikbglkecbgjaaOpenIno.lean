/- An argument of type []Inode, opened to its cells. -/
import Derived.Test.YtbikbglkecbgjaaInoQ
import Derived.Deep.Slices
import Derived.Deep.Fields
import Derived.ProofKit
import Derived.OpenShut
namespace Go.Proofs.Ytbikbglkecbgjaa
open Go.RowKit Go.ChangeShapes Go.WideShapes
set_option linter.unusedVariables false

theorem rInoCells : Try.prog.cellsOf 41 = 14 := by kernel_rfl
theorem i64Cells : Try.prog.cellsOf 3 = 1 := by kernel_rfl
theorem arr10Cells : Try.prog.cellsOf 37 = 10 := by kernel_rfl

section
variable {H : Type} {enc : TypeId × Value → H} {W : World} {base : Nat} {spare : Nat → Bool} {held : Bool}
theorem i64_cell {cs : List Value} {fuel : Nat} {y : DataW H × List MemPlace} (hf : DataW.trod enc Try.prog W base spare held fuel 3 cs = some y) : ∃ x : Int, cs = [.int .i64 x] := by
  obtain ⟨k, e, _, wf⟩ := DataW.trod_int Try.underlying3 hf
  exact ⟨k, e⟩
theorem ten_cells {cs : List Value} {fuel : Nat} {y : DataW H × List MemPlace} (hl : cs.length = 10) (hf : DataW.trod enc Try.prog W base spare held fuel 37 cs = some y) :
    ∃ t0 t1 t2 t3 t4 t5 t6 t7 t8 t9 : Int, cs = [.int .i64 t0, .int .i64 t1, .int .i64 t2, .int .i64 t3, .int .i64 t4, .int .i64 t5, .int .i64 t6, .int .i64 t7, .int .i64 t8, .int .i64 t9] := by
  obtain ⟨xs, m, _, _, _, hxs, hi⟩ := DataW.trod_array Try.underlying37 hf
  rw [i64Cells] at hi
  match cs, hl with
  | [c0, c1, c2, c3, c4, c5, c6, c7, c8, c9], _ =>
    match xs, hxs with
    | [y0, y1, y2, y3, y4, y5, y6, y7, y8, y9], _ =>
      obtain ⟨t0, e0⟩ := i64_cell (show DataW.trod enc Try.prog W base spare held m 3 [c0] = some y0 from hi 0 (by decide))
      obtain ⟨t1, e1⟩ := i64_cell (show DataW.trod enc Try.prog W base spare held m 3 [c1] = some y1 from hi 1 (by decide))
      obtain ⟨t2, e2⟩ := i64_cell (show DataW.trod enc Try.prog W base spare held m 3 [c2] = some y2 from hi 2 (by decide))
      obtain ⟨t3, e3⟩ := i64_cell (show DataW.trod enc Try.prog W base spare held m 3 [c3] = some y3 from hi 3 (by decide))
      obtain ⟨t4, e4⟩ := i64_cell (show DataW.trod enc Try.prog W base spare held m 3 [c4] = some y4 from hi 4 (by decide))
      obtain ⟨t5, e5⟩ := i64_cell (show DataW.trod enc Try.prog W base spare held m 3 [c5] = some y5 from hi 5 (by decide))
      obtain ⟨t6, e6⟩ := i64_cell (show DataW.trod enc Try.prog W base spare held m 3 [c6] = some y6 from hi 6 (by decide))
      obtain ⟨t7, e7⟩ := i64_cell (show DataW.trod enc Try.prog W base spare held m 3 [c7] = some y7 from hi 7 (by decide))
      obtain ⟨t8, e8⟩ := i64_cell (show DataW.trod enc Try.prog W base spare held m 3 [c8] = some y8 from hi 8 (by decide))
      obtain ⟨t9, e9⟩ := i64_cell (show DataW.trod enc Try.prog W base spare held m 3 [c9] = some y9 from hi 9 (by decide))
      simp only [List.cons.injEq, and_true] at e0 e1 e2 e3 e4 e5 e6 e7 e8 e9
      subst e0 e1 e2 e3 e4 e5 e6 e7 e8 e9
      exact ⟨t0, t1, t2, t3, t4, t5, t6, t7, t8, t9, rfl⟩
theorem ino_cs {cs : List Value} {m : Nat} {y : DataW H × List MemPlace} (hl : cs.length = 14) (ht : DataW.trod enc Try.prog W base spare held m 41 cs = some y) :
    ∃ x : List Int, cs = iC x ∧ x.length = 14 := by
  obtain ⟨xs, n, _, _, hlen, hxs, hf⟩ := DataW.trod_struct Try.underlying41 ht
  match cs, hl with
  | [k0, k1, k2, c0, c1, c2, c3, c4, c5, c6, c7, c8, c9, k3], _ =>
    match xs, hxs with
    | [y0, y1, y2, y3, y4], _ =>
      have g0 : DataW.trod enc Try.prog W base spare held n 3 (List.take (Try.prog.cellsOf 3) (List.drop 0 [k0, k1, k2, c0, c1, c2, c3, c4, c5, c6, c7, c8, c9, k3])) = some y0 := hf 0 _ rfl
      have g1 : DataW.trod enc Try.prog W base spare held n 3 (List.take (Try.prog.cellsOf 3) (List.drop 1 [k0, k1, k2, c0, c1, c2, c3, c4, c5, c6, c7, c8, c9, k3])) = some y1 := hf 1 _ rfl
      have g2 : DataW.trod enc Try.prog W base spare held n 3 (List.take (Try.prog.cellsOf 3) (List.drop 2 [k0, k1, k2, c0, c1, c2, c3, c4, c5, c6, c7, c8, c9, k3])) = some y2 := hf 2 _ rfl
      have g3 : DataW.trod enc Try.prog W base spare held n 37 (List.take (Try.prog.cellsOf 37) (List.drop 3 [k0, k1, k2, c0, c1, c2, c3, c4, c5, c6, c7, c8, c9, k3])) = some y3 := hf 3 _ rfl
      have g4 : DataW.trod enc Try.prog W base spare held n 3 (List.take (Try.prog.cellsOf 3) (List.drop 13 [k0, k1, k2, c0, c1, c2, c3, c4, c5, c6, c7, c8, c9, k3])) = some y4 := hf 4 _ rfl
      rw [i64Cells] at g0 g1 g2 g4
      rw [arr10Cells] at g3
      obtain ⟨x0, e0⟩ := i64_cell (cs := [k0]) g0
      obtain ⟨x1, e1⟩ := i64_cell (cs := [k1]) g1
      obtain ⟨x2, e2⟩ := i64_cell (cs := [k2]) g2
      obtain ⟨x4, e4⟩ := i64_cell (cs := [k3]) g4
      obtain ⟨t0, t1, t2, t3, t4, t5, t6, t7, t8, t9, e3⟩ := ten_cells (cs := [c0, c1, c2, c3, c4, c5, c6, c7, c8, c9]) rfl g3
      simp only [List.cons.injEq, and_true] at e0 e1 e2 e4 e3
      subst e0 e1 e2 e4
      obtain ⟨rfl, rfl, rfl, rfl, rfl, rfl, rfl, rfl, rfl, rfl⟩ := e3
      exact ⟨[x0, x1, x2, t0, t1, t2, t3, t4, t5, t6, t7, t8, t9, x4], rfl, rfl⟩
theorem nsl_of {v : Value} {d : DataW H} {p : List MemPlace} {r : Reach} {b0 : Nat} (hv : Value.okWide Try.prog W r b0 22 v) (h : DataW.Trod enc Try.prog W base spare held 22 v d p) : ∃ O, NSl W v O := by
  obtain ⟨a0, len0, cap0, rfl⟩ := okWide_slice Try.underlying22 hv
  obtain ⟨fuel, hf⟩ := h
  rcases Go.Deep.open_slice Try.underlying22 hf with ⟨hcs, _⟩ | ⟨a, len, cap, m, n, D, Pl, hcs, _, hl, hm, hmm, _, hi⟩
  · simp [Value.cells] at hcs
    obtain ⟨rfl, rfl, rfl⟩ := hcs
    exact ⟨[], nsl_nil _⟩
  · simp [Value.cells] at hcs
    obtain ⟨rfl, rfl, rfl⟩ := hcs
    have hlm : len0 ≤ m := by rw [hmm]; split <;> omega
    have hex : ∀ i, i < len0 → ∃ x : List Int, x.length = 14 ∧ ∀ j v, (iC x)[j]? = some v → W.cell? (a.add (i * 14 + j)) = some v := fun i hi2 => by
      obtain ⟨cs', hc, ht⟩ := hi i (by omega)
      rw [rInoCells] at hc
      obtain ⟨_, hcl, hat⟩ := World.cells?_some hc
      obtain ⟨x, hx, hx14⟩ := ino_cs hcl ht
      refine ⟨x, hx14, fun j v hj => ?_⟩
      have hj2 : j < 14 := by have := (List.getElem?_eq_some_iff.1 hj).1; rw [iC_length, hx14] at this; exact this
      have := hat j hj2
      rw [hx, hj] at this
      rw [← Go.Deep.add_add]; exact this
    obtain ⟨f, hfn⟩ := Go.Deep.choose_lt hex
    have hget : ∀ i, i < len0 → ((List.range len0).map f).getD i [] = f i := fun i hi2 => by
      simp [List.getD_eq_getElem?_getD, hi2]
    refine ⟨(List.range len0).map f, fun x hx => ?_, .inr ⟨a, cap0, by simp, fun i hi2 => ?_⟩⟩
    · obtain ⟨j, hj, rfl⟩ := List.mem_map.1 hx
      exact (hfn j (List.mem_range.1 hj)).1
    · have hi2 : i < len0 := by simpa using hi2
      have h14 := (hfn i hi2).1
      have hcell := (hfn i hi2).2
      obtain ⟨u0, hu0⟩ : ∃ u, (iC (f i))[0]? = some u := ⟨_, List.getElem?_eq_getElem (by rw [iC_length, h14]; decide)⟩
      have c0 := hcell 0 u0 hu0
      obtain ⟨b, off, spot⟩ := a
      have hsp : spot = none := by
        obtain ⟨v0, hv0⟩ : ∃ u, (iC (f 0))[0]? = some u := ⟨_, List.getElem?_eq_getElem (by rw [iC_length, (hfn 0 (by omega)).1]; decide)⟩
        have z0 := (hfn 0 (by omega)).2 0 v0 hv0
        simpa [Addr.add] using World.cell?_spot z0
      subst hsp
      rw [Addr.add_lit] at c0
      rw [hget i hi2]
      refine ⟨by have := block_lt_of_cell c0; exact this, rfl, fun j v hj => ?_⟩
      have := hcell j v hj
      rw [Addr.add_lit] at this
      rw [Nat.add_assoc]; exact this
end
end Go.Proofs.Ytbikbglkecbgjaa
