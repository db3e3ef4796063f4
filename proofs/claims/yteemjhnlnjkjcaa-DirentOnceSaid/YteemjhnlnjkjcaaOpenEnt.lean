/- An argument of type []Entry (the reference's), opened to its cells. -/
import Derived.Test.YteemjhnlnjkjcaaMemE
import Derived.Deep.Slices
import Derived.Deep.Fields
import Derived.ProofKit
import Derived.OpenShut
namespace Go.Proofs.Yteemjhnlnjkjcaa
open Go.RowKit Go.ChangeShapes Go.WideShapes
set_option linter.unusedVariables false

theorem rEntCells : Try.prog.cellsOf 34 = 2 := by kernel_rfl
theorem intCells8 : Try.prog.cellsOf 3 = 1 := by kernel_rfl
theorem strCells8 : Try.prog.cellsOf 9 = 1 := by kernel_rfl

section
variable {H : Type} {enc : TypeId × Value → H} {W : World} {base : Nat} {spare : Nat → Bool} {held : Bool}
/-- One entry's two cells. -/
theorem ent_cells {a : Addr} {i m : Nat} {y : DataW H × List MemPlace} {cs : List Value} (hc : W.cells? base (a.add (i * 2)) 2 = some cs) (ht : DataW.trod enc Try.prog W base spare held m 34 cs = some y) :
    ∃ t : Int × ByteArray, W.cell? (a.add (i * 2)) = some (.int .i64 t.1) ∧ W.cell? (a.add (i * 2 + 1)) = some (.string t.2) := by
  obtain ⟨xs, n, _, _, hlen, hxs, hf⟩ := DataW.trod_struct Try.underlying34 ht
  obtain ⟨_, hcl, hat⟩ := World.cells?_some hc
  match cs, hcl with
  | [c0, c1], _ =>
    match xs, hxs with
    | [y0, y1], _ =>
      have g0 : DataW.trod enc Try.prog W base spare held n 3 [c0] = some y0 := by
        have h0 : DataW.trod enc Try.prog W base spare held n 3 (List.take (Try.prog.cellsOf 3) (List.drop 0 [c0, c1])) = some y0 := hf 0 _ rfl
        rw [intCells8] at h0
        exact h0
      have g1 : DataW.trod enc Try.prog W base spare held n 9 [c1] = some y1 := by
        have h0 : DataW.trod enc Try.prog W base spare held n 9 (List.take (Try.prog.cellsOf 9) (List.drop 1 [c0, c1])) = some y1 := hf 1 _ rfl
        rw [strCells8] at h0
        exact h0
      obtain ⟨k, e0, _, _⟩ := DataW.trod_int Try.underlying3 g0
      obtain ⟨b, e1, _, _⟩ := DataW.trod_string Try.underlying9 g1
      simp only [List.cons.injEq, and_true] at e0 e1
      have a0 := hat 0 (by omega)
      have a1 := hat 1 (by omega)
      simp only [Go.Deep.add_add, List.getElem?_cons_zero, List.getElem?_cons_succ, e0, e1, Nat.add_zero] at a0 a1
      exact ⟨(k, b), a0, a1⟩
theorem esl_of {v : Value} {d : DataW H} {p : List MemPlace} {r : Reach} {b0 : Nat} (hv : Value.okWide Try.prog W r b0 22 v) (h : DataW.Trod enc Try.prog W base spare held 22 v d p) : ∃ O, ESl W v O := by
  obtain ⟨a0, len0, cap0, rfl⟩ := okWide_slice Try.underlying22 hv
  obtain ⟨fuel, hf⟩ := h
  rcases Go.Deep.open_slice Try.underlying22 hf with ⟨hcs, _⟩ | ⟨a, len, cap, m, n, D, Pl, hcs, _, hl, hm, hmm, _, hi⟩
  · simp [Value.cells] at hcs
    obtain ⟨rfl, rfl, rfl⟩ := hcs
    exact ⟨[], esl_nil _⟩
  · simp [Value.cells] at hcs
    obtain ⟨rfl, rfl, rfl⟩ := hcs
    have hlm : len0 ≤ m := by rw [hmm]; split <;> omega
    have hex : ∀ i, i < len0 → ∃ t : Int × ByteArray, W.cell? (a.add (i * 2)) = some (.int .i64 t.1) ∧ W.cell? (a.add (i * 2 + 1)) = some (.string t.2) := fun i hi2 => by
      obtain ⟨cs', hc, ht⟩ := hi i (by omega)
      rw [rEntCells] at hc
      exact ent_cells hc ht
    obtain ⟨f, hfn⟩ := Go.Deep.choose_lt hex
    have hget : ∀ i, i < len0 → ((List.range len0).map f).getD i default = f i := fun i hi2 => by
      simp [List.getD_eq_getElem?_getD, hi2]
    refine ⟨(List.range len0).map f, .inr ⟨a, cap0, by simp, fun i hi2 => ?_⟩⟩
    have hi2 : i < len0 := by simpa using hi2
    obtain ⟨c0, c1⟩ := hfn i hi2
    obtain ⟨b, off, spot⟩ := a
    have hsp : spot = none := by
      obtain ⟨z0, _⟩ := hfn 0 (by omega)
      simpa [Addr.add] using World.cell?_spot z0
    subst hsp
    simp only [Addr.add_lit] at c0 c1
    rw [hget i hi2]
    exact ⟨by have := block_lt_of_cell c0; exact this, rfl, c0, by rw [Nat.add_assoc]; exact c1⟩
end
end Go.Proofs.Yteemjhnlnjkjcaa
