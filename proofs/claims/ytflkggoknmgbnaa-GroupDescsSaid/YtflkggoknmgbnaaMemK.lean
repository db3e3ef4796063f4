/- Values of type []bool that read as lists of bits. -/
import Derived.Test.YtflkggoknmgbnaaMem
import Derived.Deep.Slices
import Derived.Deep.Fields
import Derived.ProofKit
import Derived.OpenShut
namespace Go.Proofs.Ytflkggoknmgbnaa
open Go.RowKit Go.ChangeShapes Go.WideShapes
set_option linter.unusedVariables false

/-- A value of type []bool that reads as k. -/
def KSl (w : World) (v : Value) (k : List Bool) : Prop :=
  (v = .slice none 0 0 ∧ k = []) ∨ ∃ a cap, v = .slice (some a) k.length cap ∧ ∀ j, j < k.length → a.block < w.heap.size ∧ a.spot = none ∧ w.cell? ⟨a.block, a.off + j, none⟩ = some (.bool (k.getD j false))
theorem KSl.below {w w' : World} {v : Value} {k : List Bool} (h : KSl w v k) (hb : Below w.heap.size w w') : KSl w' v k := by
  rcases h with h | ⟨a, cap, hv, hc⟩
  · exact .inl h
  · refine .inr ⟨a, cap, hv, fun j hj => ?_⟩
    obtain ⟨h1, h2, h3⟩ := hc j hj
    exact ⟨Nat.lt_of_lt_of_le h1 hb.size, h2, by rw [hb.cell (p := ⟨a.block, a.off + j, none⟩) h1, h3]⟩
theorem KSl.shape {w : World} {v : Value} {k : List Bool} (h : KSl w v k) : ∃ ao cap, v = .slice ao k.length cap := by
  rcases h with ⟨hv, hk⟩ | ⟨a, cap, hv, _⟩
  · exact ⟨none, 0, by rw [hv, hk]; rfl⟩
  · exact ⟨some a, cap, hv⟩

theorem boolCells : Try.prog.cellsOf 4 = 1 := by kernel_rfl
section
variable {H : Type} {enc : TypeId × Value → H} {W : World} {base : Nat} {spare : Nat → Bool} {held : Bool}
theorem ksl_cell {c : Value} {fuel : Nat} {y : DataW H × List MemPlace} (hf : DataW.trod enc Try.prog W base spare held fuel 22 [c] = some y) : ∃ k, KSl W c k := by
  rcases Go.Deep.open_slice Try.underlying22 hf with ⟨hcs, _⟩ | ⟨a, len0, cap0, m, n, D, Pl, hcs, _, hl, hm, hmm, _, hi⟩
  · obtain rfl : c = .slice none 0 0 := by simpa using hcs
    exact ⟨[], .inl ⟨rfl, rfl⟩⟩
  · obtain rfl : c = .slice (some a) len0 cap0 := by simpa using hcs
    have hlm : len0 ≤ m := by rw [hmm]; split <;> omega
    have hex : ∀ i, i < len0 → ∃ t : Bool, W.cell? (a.add i) = some (.bool t) := fun i hi2 => by
      obtain ⟨cs', hc, ht⟩ := hi i (by omega)
      rw [boolCells, Nat.mul_one] at hc
      obtain ⟨_, hcl, hat⟩ := World.cells?_some hc
      obtain ⟨b, e, _⟩ := DataW.trod_bool Try.underlying4 ht
      subst e
      have := hat 0 (by omega)
      exact ⟨b, by simpa [Go.Deep.add_add] using this⟩
    obtain ⟨f, hfn⟩ := Go.Deep.choose_lt hex
    refine ⟨(List.range len0).map f, .inr ⟨a, cap0, by simp, fun i hi2 => ?_⟩⟩
    have hi2 : i < len0 := by simpa using hi2
    have c0 := hfn i hi2
    have e : ((List.range len0).map f).getD i false = f i := by simp [List.getD_eq_getElem?_getD, hi2]
    obtain ⟨b, off, spot⟩ := a
    have hsp : spot = none := by
      have z0 := hfn 0 (by omega)
      simpa [Addr.add] using World.cell?_spot z0
    subst hsp
    rw [Addr.add_lit] at c0
    exact ⟨by have := block_lt_of_cell c0; exact this, rfl, by rw [e]; exact c0⟩

theorem ksl_open {v : Value} {d : DataW H} {p : List MemPlace} {r : Reach} {b0 : Nat} (hv : Value.okWide Try.prog W r b0 22 v) (h : DataW.Trod enc Try.prog W base (fun _ => true) held 22 v d p) : ∃ k, KSl W v k := by
  obtain ⟨a0, len0, cap0, rfl⟩ := okWide_slice Try.underlying22 hv
  obtain ⟨fuel, hf⟩ := h
  exact ksl_cell (c := .slice a0 len0 cap0) hf
end
end Go.Proofs.Ytflkggoknmgbnaa
