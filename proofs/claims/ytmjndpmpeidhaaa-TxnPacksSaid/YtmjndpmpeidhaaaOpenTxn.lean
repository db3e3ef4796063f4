/- An argument that is a change (the reference's Txn), and one that is a list of blocks. -/
import Derived.Test.YtmjndpmpeidhaaaOpenBB
import Derived.Test.YtmjndpmpeidhaaaTxnB
namespace Go.Proofs.Ytmjndpmpeidhaaa
open Go.RowKit Go.ChangeShapes Go.WideShapes
set_option linter.unusedVariables false

theorem rTxnCells : Try.prog.cellsOf 26 = 3 := by kernel_rfl
theorem u32Cells9 : Try.prog.cellsOf 22 = 1 := by kernel_rfl
theorem intsCells9 : Try.prog.cellsOf 23 = 1 := by kernel_rfl
theorem bbCells9 : Try.prog.cellsOf 24 = 1 := by kernel_rfl

section
variable {H : Type} {enc : TypeId × Value → H} {W : World} {base : Nat} {spare : Nat → Bool} {held : Bool}
theorem isc_of_trod {cs : List Value} {fuel : Nat} {y : DataW H × List MemPlace} (hf : DataW.trod enc Try.prog W base spare held fuel 23 cs = some y) : ∃ v l, cs = [v] ∧ ISc W v l := by
  rcases open_ints Try.underlying23 Try.underlying3 (by kernel_rfl) hf with ⟨hcs, _⟩ | ⟨x, len, cap, zs, hcs, _, hl, hm, hz, hx, hcell, hwz⟩
  · exact ⟨_, [], hcs, isc_nil _⟩
  · have hge : len ≤ zs.length := by rw [hz]; split <;> omega
    have hlen : (zs.take len).length = len := by simp; omega
    have hget : ∀ j, j < len → (zs.take len).getD j 0 = zs.getD j 0 := fun j hj => by
      simp [List.getD_eq_getElem?_getD, hj]
    refine ⟨_, zs.take len, hcs, .inr ⟨x, cap, by rw [hlen], fun j hj => ?_⟩, some x, cap, by rw [hlen], by rw [hlen]; exact hl⟩
    rw [hlen] at hj
    have h0 := hcell j (by omega)
    obtain ⟨b, off, spot⟩ := x
    have hspot : spot = none := by
      have h00 := hcell 0 (by omega)
      simpa [Addr.add] using World.cell?_spot h00
    subst hspot
    rw [Addr.add_lit] at h0
    exact ⟨by have := block_lt_of_cell h0; exact this, rfl, by rw [hget j hj]; exact h0⟩
theorem txn_cs {cs : List Value} {m : Nat} {y : DataW H × List MemPlace} (hl : cs.length = 3) (ht : DataW.trod enc Try.prog W base spare held m 26 cs = some y) :
    ∃ (q : Int) (vN vD : Value) (N : List Int) (D : List (List Int)), cs = [.int .u32 q, vN, vD] ∧ ISc W vN N ∧ BBSl W vD D ∧ (0 ≤ q ∧ q < 4294967296) ∧ (Fit9 26 y.1 → ∀ j, (D.getD j []).length ≤ reachBytes) := by
  obtain ⟨xs, n, _, hy, hlen, hxs, hf⟩ := DataW.trod_struct Try.underlying26 ht
  match cs, hl with
  | [c0, c1, c2], _ =>
    match xs, hxs with
    | [y0, y1, y2], _ =>
      have g0 : DataW.trod enc Try.prog W base spare held n 22 (List.take (Try.prog.cellsOf 22) (List.drop 0 [c0, c1, c2])) = some y0 := hf 0 _ rfl
      have g1 : DataW.trod enc Try.prog W base spare held n 23 (List.take (Try.prog.cellsOf 23) (List.drop 1 [c0, c1, c2])) = some y1 := hf 1 _ rfl
      have g2 : DataW.trod enc Try.prog W base spare held n 24 (List.take (Try.prog.cellsOf 24) (List.drop 2 [c0, c1, c2])) = some y2 := hf 2 _ rfl
      rw [u32Cells9] at g0
      rw [intsCells9] at g1
      rw [bbCells9] at g2
      obtain ⟨q, e0, _, wf⟩ := DataW.trod_int Try.underlying22 (cs := [c0]) g0
      obtain ⟨vN, N, e1, hN⟩ := isc_of_trod (cs := [c1]) g1
      obtain ⟨vD, D, e2, hD, hr⟩ := bbsl_of_trod 24 Try.underlying24 (cs := [c2]) g2
      simp only [List.cons.injEq, and_true] at e0 e1 e2
      subst e0 e1 e2
      refine ⟨q, c1, c2, N, D, rfl, hN, hD, ?_, fun h => hr ?_⟩
      · have := bounds_u32 wf
        omega
      · rw [hy] at h
        exact Fit9.struct Try.underlying26 h (i := 2) (u := 24) rfl rfl
theorem txn_open {v : Value} {d : DataW H} {p : List MemPlace} {r : Reach} {b0 : Nat} (hv : Value.okWide Try.prog W r b0 26 v) (h : DataW.Trod enc Try.prog W base (fun _ => true) held 26 v d p) :
    ∃ z : Int × List Int × List (List Int), (TxV W v z.1 z.2.1 z.2.2 ∧ (0 ≤ z.1 ∧ z.1 < 4294967296)) ∧
      ∀ (ts : List TypeId) (ds : List (DataW H)) (j : Nat), ((DataW.weightsEach Try.prog ts ds).all fun x => decide (x ≤ reachBytes)) = true → ts[j]? = some 26 → ds[j]? = some d → ∀ k, (z.2.2.getD k []).length ≤ reachBytes := by
  obtain ⟨cs, rfl, hs⟩ := okWide_struct Try.underlying26 hv
  rw [rTxnCells] at hs
  obtain ⟨fuel, hf⟩ := h
  obtain ⟨q, vN, vD, N, D, e, hN, hD, hq, hr⟩ := txn_cs (by simpa [Value.cells] using hs) hf
  have e' : cs = #[.int .u32 q, vN, vD] := by
    apply Array.ext'
    exact e
  subst e'
  exact ⟨(q, N, D), ⟨TxV.mk hN hD, hq⟩, fun ts ds j hz h1 h2 => hr (Fit9.top hz h1 h2)⟩
theorem bb_open {v : Value} {d : DataW H} {p : List MemPlace} {r : Reach} {b0 : Nat} (hv : Value.okWide Try.prog W r b0 24 v) (h : DataW.Trod enc Try.prog W base (fun _ => true) held 24 v d p) :
    ∃ M : List (List Int), BBSl W v M ∧
      ∀ (ts : List TypeId) (ds : List (DataW H)) (j : Nat), ((DataW.weightsEach Try.prog ts ds).all fun x => decide (x ≤ reachBytes)) = true → ts[j]? = some 24 → ds[j]? = some d → ∀ k, (M.getD k []).length ≤ reachBytes := by
  obtain ⟨a0, len0, cap0, rfl⟩ := okWide_slice Try.underlying24 hv
  obtain ⟨fuel, hf⟩ := h
  obtain ⟨v', M, hcs, hM, hr⟩ := bbsl_of_trod 24 Try.underlying24 hf
  simp [Value.cells] at hcs
  subst hcs
  exact ⟨M, hM, fun ts ds j hz h1 h2 => hr (Fit9.top hz h1 h2)⟩
end
end Go.Proofs.Ytmjndpmpeidhaaa
