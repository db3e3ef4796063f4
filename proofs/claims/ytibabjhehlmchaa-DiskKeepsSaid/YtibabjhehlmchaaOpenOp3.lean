/- Arguments of layer 3's law: Op, []Op, []bool. -/
import Derived.Test.YtibabjhehlmchaaOp3A
import Derived.Deep.Slices
import Derived.Deep.Fields
import Derived.ProofKit
import Derived.OpenShut
namespace Go.Proofs.Ytibabjhehlmchaa
open Go.RowKit Go.ChangeShapes Go.WideShapes
set_option linter.unusedVariables false

theorem op3Cells : Try.prog.cellsOf 32 = 5 := by kernel_rfl
theorem intCells : Try.prog.cellsOf 3 = 1 := by kernel_rfl
theorem u8Cells : Try.prog.cellsOf 5 = 1 := by kernel_rfl
theorem bytesCells : Try.prog.cellsOf 30 = 1 := by kernel_rfl
theorem boolsCells : Try.prog.cellsOf 23 = 1 := by kernel_rfl

section
variable {H : Type} {enc : TypeId × Value → H} {W : World} {base : Nat} {spare : Nat → Bool} {held : Bool}

theorem bsl_cell {c : Value} {fuel : Nat} {y : DataW H × List MemPlace} (hf : DataW.trod enc Try.prog W base (fun _ => true) held fuel 30 [c] = some y) : ∃ l, BSl W c l := by
  rcases open_ints Try.underlying30 Try.underlying5 (by kernel_rfl) hf with ⟨hcs, _⟩ | ⟨x, l, cap0, zs, hcs, _, hl, hm, hz, hx, hcell, hwz⟩
  · obtain rfl : c = .slice none 0 0 := by simpa using hcs
    exact ⟨[], byt_nil, .inl ⟨rfl, rfl⟩⟩
  · obtain rfl : c = .slice (some x) l cap0 := by simpa using hcs
    have hz' : zs.length = cap0 := by simpa using hz
    have hlen : (zs.take l).length = l := by simp; omega
    have hget : ∀ j, j < l → (zs.take l).getD j 0 = zs.getD j 0 := fun j hj => by simp [List.getD_eq_getElem?_getD, hj]
    have hbyt : Byt (zs.take l) := byt_of_mem fun x hx => bounds_u8 (hwz x (List.mem_of_mem_take hx))
    refine ⟨_, hbyt, .inr ⟨x, cap0, by rw [hlen], by omega, fun j hj => ?_⟩⟩
    rw [hlen] at hj
    have h0 := hcell j (by omega)
    obtain ⟨b, off, spot⟩ := x
    have hspot : spot = none := by
      have h00 := hcell 0 (by omega)
      simpa [Addr.add] using World.cell?_spot h00
    subst hspot
    rw [Addr.add_lit] at h0
    exact ⟨by have := block_lt_of_cell h0; exact this, rfl, by rw [hget j hj]; exact h0⟩

theorem boolCells : Try.prog.cellsOf 4 = 1 := by kernel_rfl
theorem ksl_cell {c : Value} {fuel : Nat} {y : DataW H × List MemPlace} (hf : DataW.trod enc Try.prog W base spare held fuel 23 [c] = some y) : ∃ k, KSl W c k := by
  rcases Go.Deep.open_slice Try.underlying23 hf with ⟨hcs, _⟩ | ⟨a, len0, cap0, m, n, D, Pl, hcs, _, hl, hm, hmm, _, hi⟩
  · obtain rfl : c = .slice none 0 0 := by simpa using hcs
    exact ⟨[], .inl ⟨rfl, rfl⟩⟩
  · obtain rfl : c = .slice (some a) len0 cap0 := by simpa using hcs
    have hlm : len0 ≤ m := by rw [hmm]; split <;> omega
    have hex : ∀ i, i < len0 → ∃ t : Bool, W.cell? (a.add i) = some (.bool t) := fun i hi2 => by
      obtain ⟨cs', hc, ht⟩ := hi i (by omega)
      rw [boolCells, Nat.mul_one] at hc
      obtain ⟨_, hcl, hat⟩ := World.cells?_some hc
      obtain ⟨b, e, _⟩ := DataW.trod_bool Try.underlying4 ht
      subst e
      have := hat 0 (by omega)
      exact ⟨b, by simpa [Go.Deep.add_add] using this⟩
    obtain ⟨f, hfn⟩ := Go.Deep.choose_lt hex
    refine ⟨(List.range len0).map f, .inr ⟨a, cap0, by simp, fun i hi2 => ?_⟩⟩
    have hi2 : i < len0 := by simpa using hi2
    have c0 := hfn i hi2
    have e : ((List.range len0).map f).getD i false = f i := by simp [List.getD_eq_getElem?_getD, hi2]
    obtain ⟨b, off, spot⟩ := a
    have hsp : spot = none := by
      have z0 := hfn 0 (by omega)
      simpa [Addr.add] using World.cell?_spot z0
    subst hsp
    rw [Addr.add_lit] at c0
    exact ⟨by have := block_lt_of_cell c0; exact this, rfl, by rw [e]; exact c0⟩

/-- Five cells that are a call. -/
def OpIs (W : World) (cs : List Value) (o : OpV) : Prop :=
  ∃ vb vk, cs = [.int .i64 o.kind, .int .i64 o.n, .int .u8 o.byte, vb, vk] ∧ (0 ≤ o.byte ∧ o.byte ≤ 255) ∧ (-9223372036854775808 ≤ o.n ∧ o.n ≤ 9223372036854775807) ∧ BSl W vb o.bytes ∧ KSl W vk o.keep

theorem op3_cells {cs : List Value} {m : Nat} {y : DataW H × List MemPlace} (hl : cs.length = 5) (ht : DataW.trod enc Try.prog W base (fun _ => true) held m 32 cs = some y) : ∃ o, OpIs W cs o := by
  obtain ⟨xs, n, _, _, hlen, hxs, hf⟩ := DataW.trod_struct Try.underlying32 ht
  match cs, hl with
  | [c0, c1, c2, c3, c4], _ =>
    match xs, hxs with
    | [y0, y1, y2, y3, y4], _ =>
      have g0 : DataW.trod enc Try.prog W base (fun _ => true) held n 3 [c0] = some y0 := by
        have h0 : DataW.trod enc Try.prog W base (fun _ => true) held n 3 (List.take (Try.prog.cellsOf 3) (List.drop 0 [c0, c1, c2, c3, c4])) = some y0 := hf 0 _ rfl
        rw [intCells] at h0; exact h0
      have g1 : DataW.trod enc Try.prog W base (fun _ => true) held n 3 [c1] = some y1 := by
        have h0 : DataW.trod enc Try.prog W base (fun _ => true) held n 3 (List.take (Try.prog.cellsOf 3) (List.drop 1 [c0, c1, c2, c3, c4])) = some y1 := hf 1 _ rfl
        rw [intCells] at h0; exact h0
      have g2 : DataW.trod enc Try.prog W base (fun _ => true) held n 5 [c2] = some y2 := by
        have h0 : DataW.trod enc Try.prog W base (fun _ => true) held n 5 (List.take (Try.prog.cellsOf 5) (List.drop 2 [c0, c1, c2, c3, c4])) = some y2 := hf 2 _ rfl
        rw [u8Cells] at h0; exact h0
      have g3 : DataW.trod enc Try.prog W base (fun _ => true) held n 30 [c3] = some y3 := by
        have h0 : DataW.trod enc Try.prog W base (fun _ => true) held n 30 (List.take (Try.prog.cellsOf 30) (List.drop 3 [c0, c1, c2, c3, c4])) = some y3 := hf 3 _ rfl
        rw [bytesCells] at h0; exact h0
      have g4 : DataW.trod enc Try.prog W base (fun _ => true) held n 23 [c4] = some y4 := by
        have h0 : DataW.trod enc Try.prog W base (fun _ => true) held n 23 (List.take (Try.prog.cellsOf 23) (List.drop 4 [c0, c1, c2, c3, c4])) = some y4 := hf 4 _ rfl
        rw [boolsCells] at h0; exact h0
      obtain ⟨k, e0, _, _⟩ := DataW.trod_int Try.underlying3 g0
      obtain ⟨b, e1, _, wf1⟩ := DataW.trod_int Try.underlying3 g1
      obtain ⟨x, e2, _, wf2⟩ := DataW.trod_int Try.underlying5 g2
      obtain ⟨l, hb⟩ := bsl_cell g3
      obtain ⟨kp, hk⟩ := ksl_cell g4
      simp only [List.cons.injEq, and_true] at e0 e1 e2
      subst e0 e1 e2
      exact ⟨⟨k, b, x, l, kp⟩, c3, c4, rfl, bounds_u8 wf2, bounds_i64 wf1, hb, hk⟩

theorem ksl_open {v : Value} {d : DataW H} {p : List MemPlace} {r : Reach} {b0 : Nat} (hv : Value.okWide Try.prog W r b0 23 v) (h : DataW.Trod enc Try.prog W base (fun _ => true) held 23 v d p) : ∃ k, KSl W v k := by
  obtain ⟨a0, len0, cap0, rfl⟩ := okWide_slice Try.underlying23 hv
  obtain ⟨fuel, hf⟩ := h
  exact ksl_cell (c := .slice a0 len0 cap0) hf

theorem op3_open {v : Value} {d : DataW H} {p : List MemPlace} {r : Reach} {b0 : Nat} (hv : Value.okWide Try.prog W r b0 32 v) (h : DataW.Trod enc Try.prog W base (fun _ => true) held 32 v d p) :
    ∃ o : OpV, ∃ vb ao l c, v = .agg #[.int .i64 o.kind, .int .i64 o.n, .int .u8 o.byte, vb, .slice ao l c] ∧ (0 ≤ o.byte ∧ o.byte ≤ 255) ∧ BSl W vb o.bytes := by
  obtain ⟨cs, rfl, hs⟩ := okWide_struct Try.underlying32 hv
  rw [op3Cells] at hs
  obtain ⟨fuel, hf⟩ := h
  obtain ⟨o, vb, vk, e, h1, h2, h3, h4⟩ := op3_cells (by simpa [Value.cells] using hs) hf
  obtain ⟨ao, c, rfl⟩ := h4.shape
  have e' : cs.toList = [.int .i64 o.kind, .int .i64 o.n, .int .u8 o.byte, vb, .slice ao o.keep.length c] := e
  have e2 : cs = #[.int .i64 o.kind, .int .i64 o.n, .int .u8 o.byte, vb, .slice ao o.keep.length c] := by
    rw [← Array.toArray_toList (xs := cs), e']
  exact ⟨o, vb, ao, o.keep.length, c, by rw [e2], h1, h3⟩
end
end Go.Proofs.Ytibabjhehlmchaa
