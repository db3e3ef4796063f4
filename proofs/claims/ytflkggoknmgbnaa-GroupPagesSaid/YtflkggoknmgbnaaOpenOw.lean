/- An argument of type []Owner, opened to its cells. -/
import Derived.Test.YtflkggoknmgbnaaGrpA
import Derived.Deep.Slices
import Derived.Deep.Fields
import Derived.ProofKit
import Derived.OpenShut
namespace Go.Proofs.Ytflkggoknmgbnaa
open Go.RowKit Go.ChangeShapes Go.WideShapes
set_option linter.unusedVariables false

theorem owCells : Try.prog.cellsOf 49 = 2 := by kernel_rfl
theorem u16Cells : Try.prog.cellsOf 47 = 1 := by kernel_rfl

section
variable {H : Type} {enc : TypeId × Value → H} {W : World} {base : Nat} {spare : Nat → Bool} {held : Bool}
/-- One owner's two cells. -/
theorem ow_cells {a : Addr} {i m : Nat} {y : DataW H × List MemPlace} {cs : List Value} (hc : W.cells? base (a.add (i * 2)) 2 = some cs) (ht : DataW.trod enc Try.prog W base spare held m 49 cs = some y) :
    ∃ t : Int × Int, W.cell? (a.add (i * 2)) = some (.int .u16 t.1) ∧ W.cell? (a.add (i * 2 + 1)) = some (.int .u16 t.2) ∧ (0 ≤ t.1 ∧ t.1 ≤ 65535) ∧ (0 ≤ t.2 ∧ t.2 ≤ 65535) := by
  obtain ⟨xs, n, _, _, hlen, hxs, hf⟩ := DataW.trod_struct Try.underlying49 ht
  obtain ⟨_, hcl, hat⟩ := World.cells?_some hc
  match cs, hcl with
  | [c0, c1], _ =>
    match xs, hxs with
    | [y0, y1], _ =>
      have g0 : DataW.trod enc Try.prog W base spare held n 47 [c0] = some y0 := by
        have h0 : DataW.trod enc Try.prog W base spare held n 47 (List.take (Try.prog.cellsOf 47) (List.drop 0 [c0, c1])) = some y0 := hf 0 _ rfl
        rw [u16Cells] at h0
        exact h0
      have g1 : DataW.trod enc Try.prog W base spare held n 47 [c1] = some y1 := by
        have h0 : DataW.trod enc Try.prog W base spare held n 47 (List.take (Try.prog.cellsOf 47) (List.drop 1 [c0, c1])) = some y1 := hf 1 _ rfl
        rw [u16Cells] at h0
        exact h0
      obtain ⟨k, e0, _, w0⟩ := DataW.trod_int Try.underlying47 g0
      obtain ⟨b, e1, _, w1⟩ := DataW.trod_int Try.underlying47 g1
      simp only [List.cons.injEq, and_true] at e0 e1
      have a0 := hat 0 (by omega)
      have a1 := hat 1 (by omega)
      simp only [Go.Deep.add_add, List.getElem?_cons_zero, List.getElem?_cons_succ, e0, e1, Nat.add_zero] at a0 a1
      exact ⟨(k, b), a0, a1, bounds_u16 w0, bounds_u16 w1⟩

theorem owsl_of {v : Value} {d : DataW H} {p : List MemPlace} {r : Reach} {b0 : Nat} (hv : Value.okWide Try.prog W r b0 41 v) (h : DataW.Trod enc Try.prog W base spare held 41 v d p) : ∃ O, OwSl W v O := by
  obtain ⟨a0, len0, cap0, rfl⟩ := okWide_slice Try.underlying41 hv
  obtain ⟨fuel, hf⟩ := h
  rcases Go.Deep.open_slice Try.underlying41 hf with ⟨hcs, _⟩ | ⟨a, len, cap, m, n, D, Pl, hcs, _, hl, hm, hmm, _, hi⟩
  · simp [Value.cells] at hcs
    obtain ⟨rfl, rfl, rfl⟩ := hcs
    exact ⟨[], owB_of fun j h => by simp at h, .inl ⟨rfl, rfl⟩⟩
  · simp [Value.cells] at hcs
    obtain ⟨rfl, rfl, rfl⟩ := hcs
    have hlm : len0 ≤ m := by rw [hmm]; split <;> omega
    have hex : ∀ i, i < len0 → ∃ t : Int × Int, W.cell? (a.add (i * 2)) = some (.int .u16 t.1) ∧ W.cell? (a.add (i * 2 + 1)) = some (.int .u16 t.2) ∧ (0 ≤ t.1 ∧ t.1 ≤ 65535) ∧ (0 ≤ t.2 ∧ t.2 ≤ 65535) := fun i hi2 => by
      obtain ⟨cs', hc, ht⟩ := hi i (by omega)
      rw [owCells] at hc
      exact ow_cells hc ht
    obtain ⟨f, hfn⟩ := Go.Deep.choose_lt hex
    have hget : ∀ i, i < len0 → ((List.range len0).map f).getD i (0, 0) = f i := fun i hi2 => by
      simp [List.getD_eq_getElem?_getD, hi2]
    refine ⟨(List.range len0).map f, owB_of fun j hj => ?_, .inr ⟨a, cap0, by simp, fun i hi2 => ?_⟩⟩
    · have hj : j < len0 := by simpa using hj
      rw [hget j hj]
      exact (hfn j hj).2.2
    · have hi2 : i < len0 := by simpa using hi2
      obtain ⟨c0, c1, _⟩ := hfn i hi2
      obtain ⟨b, off, spot⟩ := a
      have hsp : spot = none := by
        obtain ⟨z0, _⟩ := hfn 0 (by omega)
        simpa [Addr.add] using World.cell?_spot z0
      subst hsp
      simp only [Addr.add_lit] at c0 c1
      rw [hget i hi2]
      exact ⟨by have := block_lt_of_cell c0; exact this, rfl, c0, by rw [Nat.add_assoc]; exact c1⟩
end
end Go.Proofs.Ytflkggoknmgbnaa
