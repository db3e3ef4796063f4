/- An argument of type []Op of layer 3's law, opened. -/
import Derived.Test.YtibabjhehlmchaaLawKeeps
namespace Go.Proofs.Ytibabjhehlmchaa
open Go.RowKit Go.ChangeShapes Go.WideShapes
set_option linter.unusedVariables false

instance : Inhabited OpV := ⟨⟨0, 0, 0, [], []⟩⟩

section
variable {H : Type} {enc : TypeId × Value → H} {W : World} {base : Nat} {held : Bool}
theorem opsA_open {v : Value} {d : DataW H} {p : List MemPlace} {r : Reach} {b0 : Nat} (hv : Value.okWide Try.prog W r b0 22 v) (h : DataW.Trod enc Try.prog W base (fun _ => true) held 22 v d p) : ∃ S, OpsA W v S := by
  obtain ⟨a0, len0, cap0, rfl⟩ := okWide_slice Try.underlying22 hv
  obtain ⟨fuel, hf⟩ := h
  rcases Go.Deep.open_slice Try.underlying22 hf with ⟨hcs, _⟩ | ⟨a, len, cap, m, n, D, Pl, hcs, _, hl, hm, hmm, _, hi⟩
  · simp [Value.cells] at hcs
    obtain ⟨rfl, rfl, rfl⟩ := hcs
    exact ⟨[], .inl ⟨⟨_, _, rfl⟩, rfl⟩⟩
  · simp [Value.cells] at hcs
    obtain ⟨rfl, rfl, rfl⟩ := hcs
    have hlm : len0 ≤ m := by rw [hmm]; split <;> omega
    have hex : ∀ i, i < len0 → ∃ o : OpV, ∃ vb vk, W.cell? (a.add (i * 5)) = some (.int .i64 o.kind) ∧ W.cell? (a.add (i * 5 + 1)) = some (.int .i64 o.n) ∧ W.cell? (a.add (i * 5 + 2)) = some (.int .u8 o.byte) ∧ W.cell? (a.add (i * 5 + 3)) = some vb ∧ W.cell? (a.add (i * 5 + 4)) = some vk ∧ (0 ≤ o.byte ∧ o.byte ≤ 255) ∧ (-9223372036854775808 ≤ o.n ∧ o.n ≤ 9223372036854775807) ∧ BSl W vb o.bytes ∧ KSl W vk o.keep := fun i hi2 => by
      obtain ⟨cs', hc, ht⟩ := hi i (by omega)
      rw [op3Cells] at hc
      obtain ⟨_, hcl, hat⟩ := World.cells?_some hc
      obtain ⟨o, vb, vk, rfl, h1, h2, h3, h4⟩ := op3_cells hcl ht
      have a0 := hat 0 (by omega)
      have a1 := hat 1 (by omega)
      have a2 := hat 2 (by omega)
      have a3 := hat 3 (by omega)
      have a4 := hat 4 (by omega)
      simp only [Go.Deep.add_add, List.getElem?_cons_zero, List.getElem?_cons_succ, Nat.add_zero] at a0 a1 a2 a3 a4
      exact ⟨o, vb, vk, a0, a1, a2, a3, a4, h1, h2, h3, h4⟩
    obtain ⟨f, hfn⟩ := Go.Deep.choose_lt hex
    by_cases h0 : len0 = 0
    · exact ⟨[], .inl ⟨⟨_, _, by rw [h0]⟩, rfl⟩⟩
    refine ⟨(List.range len0).map f, .inr ?_⟩
    obtain ⟨b, off, spot⟩ := a
    have hsp : spot = none := by
      obtain ⟨vb, vk, z0, _⟩ := hfn 0 (by omega)
      simpa [Addr.add] using World.cell?_spot z0
    subst hsp
    refine ⟨b, off, cap0, by simp, fun i hi2 => ?_⟩
    have hi3 : i < len0 := by simpa using hi2
    have hget : ((List.range len0).map f)[i] = f i := by simp
    rw [hget]
    obtain ⟨vb, vk, c0, c1, c2, c3, c4, r⟩ := hfn i hi3
    simp only [Addr.add_lit] at c0 c1 c2 c3 c4
    exact ⟨block_lt_of_cell c0, vb, vk, c0, by rw [Nat.add_assoc]; exact c1, by rw [Nat.add_assoc]; exact c2, by rw [Nat.add_assoc]; exact c3, by rw [Nat.add_assoc]; exact c4, r⟩
end
end Go.Proofs.Ytibabjhehlmchaa
