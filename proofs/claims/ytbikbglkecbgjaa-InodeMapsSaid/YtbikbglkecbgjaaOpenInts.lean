/- An argument of type []int, opened to its cells. -/
import Derived.Test.YtbikbglkecbgjaaMemI
import Derived.ProofKit
import Derived.OpenShut
namespace Go.Proofs.Ytbikbglkecbgjaa
open Go.RowKit Go.ChangeShapes Go.WideShapes
set_option linter.unusedVariables false
section
variable {H : Type} {enc : TypeId × Value → H} {W : World} {base : Nat} {spare : Nat → Bool} {held : Bool}
theorem isl_open {v : Value} {d : DataW H} {p : List MemPlace} {r : Reach} {b0 : Nat} (hv : Value.okWide Try.prog W r b0 46 v) (h : DataW.Trod enc Try.prog W base (fun _ => true) held 46 v d p) : ∃ l, ISl W v l := by
  obtain ⟨a0, len0, cap0, rfl⟩ := okWide_slice Try.underlying46 hv
  obtain ⟨fuel, hf⟩ := h
  rcases open_ints Try.underlying46 Try.underlying3 (by kernel_rfl) hf with ⟨hcs, _⟩ | ⟨x, l, c, zs, hcs, _, hl, hm, hz, hx, hcell, hwz⟩
  · simp [Value.cells] at hcs
    obtain ⟨rfl, rfl, rfl⟩ := hcs
    exact ⟨[], .inl ⟨rfl, rfl⟩⟩
  · simp [Value.cells] at hcs
    obtain ⟨rfl, rfl, rfl⟩ := hcs
    have hz' : zs.length = cap0 := by simpa using hz
    have hlen : (zs.take len0).length = len0 := by simp; omega
    refine ⟨zs.take len0, .inr ⟨x, cap0, by rw [hlen], fun j hj => ?_⟩⟩
    rw [hlen] at hj
    have h0 := hcell j (by omega)
    have hget : (zs.take len0).getD j 0 = zs.getD j 0 := by simp [List.getD_eq_getElem?_getD, hj]
    obtain ⟨b, off, spot⟩ := x
    have hspot : spot = none := by
      have h00 := hcell 0 (by omega)
      simpa [Addr.add] using World.cell?_spot h00
    subst hspot
    rw [Addr.add_lit] at h0
    exact ⟨by have := block_lt_of_cell h0; exact this, rfl, by rw [hget]; exact h0⟩
end
end Go.Proofs.Ytbikbglkecbgjaa
