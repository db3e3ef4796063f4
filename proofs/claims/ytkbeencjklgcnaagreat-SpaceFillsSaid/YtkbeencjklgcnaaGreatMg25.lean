/- An argument of type []Owner, opened to its cells. -/
import Derived.Deep.Slices
import Derived.Deep.Fields
import Derived.ProofKit
import Derived.OpenShut
import Derived.Test.YtkbeencjklgcnaaGreatMg24
import Derived.Test.YtkbeencjklgcnaaGreatMg3
import Derived.Test.YtkbeencjklgcnaaGreatMg4
namespace Go.Proofs.YtkbeencjklgcnaaGreat
set_option maxRecDepth 100000
open Go.RowKit Go.ChangeShapes Go.WideShapes
set_option linter.unusedVariables false

theorem owCells : Tryz.prog.cellsOf 32 = 2 := by kernel_rfl
theorem u16Cells : Tryz.prog.cellsOf 30 = 1 := by kernel_rfl

section
variable {H : Type} {enc : TypeId × Value → H} {W : World} {base : Nat} {spare : Nat → Bool} {held : Bool}
/-- One owner's two cells. -/
theorem ow_cells {a : Addr} {i m : Nat} {y : DataW H × List MemPlace} {cs : List Value} (hc : W.cells? base (a.add (i * 2)) 2 = some cs) (ht : DataW.trod enc Tryz.prog W base spare held m 32 cs = some y) :
    ∃ t : Int × Int, W.cell? (a.add (i * 2)) = some (.int .u16 t.1) ∧ W.cell? (a.add (i * 2 + 1)) = some (.int .u16 t.2) ∧ (0 ≤ t.1 ∧ t.1 ≤ 65535) ∧ (0 ≤ t.2 ∧ t.2 ≤ 65535) := by
  obtain ⟨xs, n, _, _, hlen, hxs, hf⟩ := DataW.trod_struct Tryz.underlying32 ht
  obtain ⟨_, hcl, hat⟩ := World.cells?_some hc
  match cs, hcl with
  | [c0, c1], _ =>
    match xs, hxs with
    | [y0, y1], _ =>
      have g0 : DataW.trod enc Tryz.prog W base spare held n 30 [c0] = some y0 := by
        have h0 : DataW.trod enc Tryz.prog W base spare held n 30 (List.take (Tryz.prog.cellsOf 30) (List.drop 0 [c0, c1])) = some y0 := hf 0 _ rfl
        rw [u16Cells] at h0
        exact h0
      have g1 : DataW.trod enc Tryz.prog W base spare held n 30 [c1] = some y1 := by
        have h0 : DataW.trod enc Tryz.prog W base spare held n 30 (List.take (Tryz.prog.cellsOf 30) (List.drop 1 [c0, c1])) = some y1 := hf 1 _ rfl
        rw [u16Cells] at h0
        exact h0
      obtain ⟨k, e0, _, w0⟩ := DataW.trod_int Tryz.underlying30 g0
      obtain ⟨b, e1, _, w1⟩ := DataW.trod_int Tryz.underlying30 g1
      simp only [List.cons.injEq, and_true] at e0 e1
      have a0 := hat 0 (by omega)
      have a1 := hat 1 (by omega)
      simp only [Go.Deep.add_add, List.getElem?_cons_zero, List.getElem?_cons_succ, e0, e1, Nat.add_zero] at a0 a1
      exact ⟨(k, b), a0, a1, bounds_u16 w0, bounds_u16 w1⟩

theorem owsl_of {v : Value} {d : DataW H} {p : List MemPlace} {r : Reach} {b0 : Nat} (hv : Value.okWide Tryz.prog W r b0 35 v) (h : DataW.Trod enc Tryz.prog W base spare held 35 v d p) : ∃ O, OwSl W v O := by
  obtain ⟨a0, len0, cap0, rfl⟩ := okWide_slice Tryz.underlying35 hv
  obtain ⟨fuel, hf⟩ := h
  rcases Go.Deep.open_slice Tryz.underlying35 hf with ⟨hcs, _⟩ | ⟨a, len, cap, m, n, D, Pl, hcs, _, hl, hm, hmm, _, hi⟩
  · simp [Value.cells] at hcs
    obtain ⟨rfl, rfl, rfl⟩ := hcs
    exact ⟨[], owB_of fun j h => by simp at h, .inl ⟨rfl, rfl⟩⟩
  · simp [Value.cells] at hcs
    obtain ⟨rfl, rfl, rfl⟩ := hcs
    have hlm : len0 ≤ m := by rw [hmm]; split <;> omega
    have hex : ∀ i, i < len0 → ∃ t : Int × Int, W.cell? (a.add (i * 2)) = some (.int .u16 t.1) ∧ W.cell? (a.add (i * 2 + 1)) = some (.int .u16 t.2) ∧ (0 ≤ t.1 ∧ t.1 ≤ 65535) ∧ (0 ≤ t.2 ∧ t.2 ≤ 65535) := fun i hi2 => by
      obtain ⟨cs', hc, ht⟩ := hi i (by omega)
      rw [owCells] at hc
      exact ow_cells hc ht
    obtain ⟨f, hfn⟩ := Go.Deep.choose_lt hex
    have hget : ∀ i, i < len0 → ((List.range len0).map f).getD i (0, 0) = f i := fun i hi2 => by
      simp [List.getD_eq_getElem?_getD, hi2]
    refine ⟨(List.range len0).map f, owB_of fun j hj => ?_, .inr ⟨a, cap0, by simp, fun i hi2 => ?_⟩⟩
    · have hj : j < len0 := by simpa using hj
      rw [hget j hj]
      exact (hfn j hj).2.2
    · have hi2 : i < len0 := by simpa using hi2
      obtain ⟨c0, c1, _⟩ := hfn i hi2
      obtain ⟨b, off, spot⟩ := a
      have hsp : spot = none := by
        obtain ⟨z0, _⟩ := hfn 0 (by omega)
        simpa [Addr.add] using World.cell?_spot z0
      subst hsp
      simp only [Addr.add_lit] at c0 c1
      rw [hget i hi2]
      exact ⟨by have := block_lt_of_cell c0; exact this, rfl, c0, by rw [Nat.add_assoc]; exact c1⟩
end
end Go.Proofs.YtkbeencjklgcnaaGreat

/- Arguments of layer 12's laws: Op, []Op, Owner. -/
namespace Go.Proofs.YtkbeencjklgcnaaGreat
set_option maxRecDepth 100000
open Go.RowKit Go.ChangeShapes Go.WideShapes
set_option linter.unusedVariables false

/-- A call of the script. -/
structure O12 where
  k : Int
  b : Int
  l : Int
  g : Int
  n : Int
  i : Int
  a : Int
instance : Inhabited O12 := ⟨⟨0, 0, 0, 0, 0, 0, 0⟩⟩
def in64 (x : Int) : Prop := -9223372036854775808 ≤ x ∧ x ≤ 9223372036854775807
def O12.ok (o : O12) : Prop := in64 o.b ∧ in64 o.l ∧ in64 o.g ∧ in64 o.n ∧ (0 ≤ o.i ∧ o.i ≤ 65535) ∧ (0 ≤ o.a ∧ o.a ≤ 65535)
def O12.cells (o : O12) : List Value := [.int .i64 o.k, .int .i64 o.b, .int .i64 o.l, .int .i64 o.g, .int .i64 o.n, .int .u16 o.i, .int .u16 o.a]
def opV12 (k b l g n i a : Int) : Value := .agg #[.int .i64 k, .int .i64 b, .int .i64 l, .int .i64 g, .int .i64 n, .int .u16 i, .int .u16 a]
/-- A []Op that reads as S. -/
def OpsT (W : World) (v : Value) (S : List O12) : Prop :=
  (∃ a c, v = .slice a 0 c ∧ S = []) ∨ ∃ b off cap, v = .slice (some ⟨b, off, none⟩) S.length cap ∧ ∀ i, i < S.length → b < W.heap.size ∧
    (W.cell? ⟨b, off + i * 7, none⟩ = some (.int .i64 (S.getD i default).k) ∧ W.cell? ⟨b, off + i * 7 + 1, none⟩ = some (.int .i64 (S.getD i default).b) ∧ W.cell? ⟨b, off + i * 7 + 2, none⟩ = some (.int .i64 (S.getD i default).l) ∧ W.cell? ⟨b, off + i * 7 + 3, none⟩ = some (.int .i64 (S.getD i default).g) ∧
      W.cell? ⟨b, off + i * 7 + 4, none⟩ = some (.int .i64 (S.getD i default).n) ∧ W.cell? ⟨b, off + i * 7 + 5, none⟩ = some (.int .u16 (S.getD i default).i) ∧ W.cell? ⟨b, off + i * 7 + 6, none⟩ = some (.int .u16 (S.getD i default).a)) ∧ (S.getD i default).ok
theorem op12Cells : Tryz.prog.cellsOf 34 = 7 := by kernel_rfl
theorem intCells12 : Tryz.prog.cellsOf 3 = 1 := by kernel_rfl
section
variable {H : Type} {enc : TypeId × Value → H} {W : World} {base : Nat} {spare : Nat → Bool} {held : Bool}
theorem ow2_cells {c0 c1 : Value} {m : Nat} {y : DataW H × List MemPlace} (ht : DataW.trod enc Tryz.prog W base (fun _ => true) held m 32 [c0, c1] = some y) : ∃ i a : Int, c0 = .int .u16 i ∧ c1 = .int .u16 a ∧ (0 ≤ i ∧ i ≤ 65535) ∧ (0 ≤ a ∧ a ≤ 65535) := by
  obtain ⟨xs, n, _, _, hlen, hxs, hf⟩ := DataW.trod_struct Tryz.underlying32 ht
  match xs, hxs with
  | [y0, y1], _ =>
    have g0 : DataW.trod enc Tryz.prog W base (fun _ => true) held n 30 [c0] = some y0 := by
      have h0 : DataW.trod enc Tryz.prog W base (fun _ => true) held n 30 (List.take (Tryz.prog.cellsOf 30) (List.drop 0 [c0, c1])) = some y0 := hf 0 _ rfl
      rw [u16Cells] at h0; exact h0
    have g1 : DataW.trod enc Tryz.prog W base (fun _ => true) held n 30 [c1] = some y1 := by
      have h0 : DataW.trod enc Tryz.prog W base (fun _ => true) held n 30 (List.take (Tryz.prog.cellsOf 30) (List.drop 1 [c0, c1])) = some y1 := hf 1 _ rfl
      rw [u16Cells] at h0; exact h0
    obtain ⟨k, e0, _, w0⟩ := DataW.trod_int Tryz.underlying30 g0
    obtain ⟨b, e1, _, w1⟩ := DataW.trod_int Tryz.underlying30 g1
    simp only [List.cons.injEq, and_true] at e0 e1
    exact ⟨k, b, e0, e1, bounds_u16 w0, bounds_u16 w1⟩
theorem ow12_open {v : Value} {d : DataW H} {p : List MemPlace} {r : Reach} {b0 : Nat} (hv : Value.okWide Tryz.prog W r b0 32 v) (h : DataW.Trod enc Tryz.prog W base (fun _ => true) held 32 v d p) : ∃ i a : Int, v = .agg #[.int .u16 i, .int .u16 a] ∧ (0 ≤ i ∧ i ≤ 65535) ∧ (0 ≤ a ∧ a ≤ 65535) := by
  obtain ⟨cs, rfl, hs⟩ := okWide_struct Tryz.underlying32 hv
  rw [owCells] at hs
  obtain ⟨fuel, hf⟩ := h
  have hl : cs.toList.length = 2 := by simpa [Value.cells] using hs
  obtain ⟨c0, c1, hcs⟩ : ∃ c0 c1, cs.toList = [c0, c1] := by
    match cs.toList, hl with
    | [c0, c1], _ => exact ⟨c0, c1, rfl⟩
  have hf' : DataW.trod enc Tryz.prog W base (fun _ => true) held fuel 32 [c0, c1] = some (d, p) := by rw [← hcs]; exact hf
  obtain ⟨i, a, rfl, rfl, h1, h2⟩ := ow2_cells hf'
  exact ⟨i, a, by rw [← Array.toArray_toList (xs := cs), hcs], h1, h2⟩
theorem op12_cells {cs : List Value} {m : Nat} {y : DataW H × List MemPlace} (hl : cs.length = 7) (ht : DataW.trod enc Tryz.prog W base (fun _ => true) held m 34 cs = some y) : ∃ o : O12, cs = o.cells ∧ o.ok := by
  obtain ⟨xs, n, _, _, hlen, hxs, hf⟩ := DataW.trod_struct Tryz.underlying34 ht
  match cs, hl with
  | [c0, c1, c2, c3, c4, c5, c6], _ =>
    match xs, hxs with
    | [y0, y1, y2, y3, y4, y5], _ =>
      have g0 : DataW.trod enc Tryz.prog W base (fun _ => true) held n 3 [c0] = some y0 := by
        have h0 : DataW.trod enc Tryz.prog W base (fun _ => true) held n 3 (List.take (Tryz.prog.cellsOf 3) (List.drop 0 [c0, c1, c2, c3, c4, c5, c6])) = some y0 := hf 0 _ rfl
        rw [intCells12] at h0; exact h0
      have g1 : DataW.trod enc Tryz.prog W base (fun _ => true) held n 3 [c1] = some y1 := by
        have h0 : DataW.trod enc Tryz.prog W base (fun _ => true) held n 3 (List.take (Tryz.prog.cellsOf 3) (List.drop 1 [c0, c1, c2, c3, c4, c5, c6])) = some y1 := hf 1 _ rfl
        rw [intCells12] at h0; exact h0
      have g2 : DataW.trod enc Tryz.prog W base (fun _ => true) held n 3 [c2] = some y2 := by
        have h0 : DataW.trod enc Tryz.prog W base (fun _ => true) held n 3 (List.take (Tryz.prog.cellsOf 3) (List.drop 2 [c0, c1, c2, c3, c4, c5, c6])) = some y2 := hf 2 _ rfl
        rw [intCells12] at h0; exact h0
      have g3 : DataW.trod enc Tryz.prog W base (fun _ => true) held n 3 [c3] = some y3 := by
        have h0 : DataW.trod enc Tryz.prog W base (fun _ => true) held n 3 (List.take (Tryz.prog.cellsOf 3) (List.drop 3 [c0, c1, c2, c3, c4, c5, c6])) = some y3 := hf 3 _ rfl
        rw [intCells12] at h0; exact h0
      have g4 : DataW.trod enc Tryz.prog W base (fun _ => true) held n 3 [c4] = some y4 := by
        have h0 : DataW.trod enc Tryz.prog W base (fun _ => true) held n 3 (List.take (Tryz.prog.cellsOf 3) (List.drop 4 [c0, c1, c2, c3, c4, c5, c6])) = some y4 := hf 4 _ rfl
        rw [intCells12] at h0; exact h0
      have g5 : DataW.trod enc Tryz.prog W base (fun _ => true) held n 32 [c5, c6] = some y5 := by
        have h0 : DataW.trod enc Tryz.prog W base (fun _ => true) held n 32 (List.take (Tryz.prog.cellsOf 32) (List.drop 5 [c0, c1, c2, c3, c4, c5, c6])) = some y5 := hf 5 _ rfl
        rw [owCells] at h0; exact h0
      obtain ⟨k, e0, _, wf0⟩ := DataW.trod_int Tryz.underlying3 g0
      obtain ⟨b, e1, _, wf1⟩ := DataW.trod_int Tryz.underlying3 g1
      obtain ⟨l, e2, _, wf2⟩ := DataW.trod_int Tryz.underlying3 g2
      obtain ⟨g, e3, _, wf3⟩ := DataW.trod_int Tryz.underlying3 g3
      obtain ⟨nn, e4, _, wf4⟩ := DataW.trod_int Tryz.underlying3 g4
      obtain ⟨i, a, e5, e6, b5, b6⟩ := ow2_cells g5
      simp only [List.cons.injEq, and_true] at e0 e1 e2 e3 e4
      subst e0 e1 e2 e3 e4 e5 e6
      exact ⟨⟨k, b, l, g, nn, i, a⟩, rfl, bounds_i64 wf1, bounds_i64 wf2, bounds_i64 wf3, bounds_i64 wf4, b5, b6⟩
theorem op12_open {v : Value} {d : DataW H} {p : List MemPlace} {r : Reach} {b0 : Nat} (hv : Value.okWide Tryz.prog W r b0 34 v) (h : DataW.Trod enc Tryz.prog W base (fun _ => true) held 34 v d p) : ∃ o : O12, v = opV12 o.k o.b o.l o.g o.n o.i o.a ∧ o.ok := by
  obtain ⟨cs, rfl, hs⟩ := okWide_struct Tryz.underlying34 hv
  rw [op12Cells] at hs
  obtain ⟨fuel, hf⟩ := h
  obtain ⟨o, e, ho⟩ := op12_cells (by simpa [Value.cells] using hs) hf
  have e' : cs.toList = o.cells := e
  have e2 : cs = #[.int .i64 o.k, .int .i64 o.b, .int .i64 o.l, .int .i64 o.g, .int .i64 o.n, .int .u16 o.i, .int .u16 o.a] := by
    rw [← Array.toArray_toList (xs := cs), e']; rfl
  exact ⟨o, by rw [e2]; rfl, ho⟩
theorem ops12_open {v : Value} {d : DataW H} {p : List MemPlace} {r : Reach} {b0 : Nat} (hv : Value.okWide Tryz.prog W r b0 22 v) (h : DataW.Trod enc Tryz.prog W base (fun _ => true) held 22 v d p) : ∃ S, OpsT W v S := by
  obtain ⟨a0, len0, cap0, rfl⟩ := okWide_slice Tryz.underlying22 hv
  obtain ⟨fuel, hf⟩ := h
  rcases Go.Deep.open_slice Tryz.underlying22 hf with ⟨hcs, _⟩ | ⟨a, len, cap, m, n, D, Pl, hcs, _, hl, hm, hmm, _, hi⟩
  · simp [Value.cells] at hcs
    obtain ⟨rfl, rfl, rfl⟩ := hcs
    exact ⟨[], .inl ⟨_, _, rfl, rfl⟩⟩
  · simp [Value.cells] at hcs
    obtain ⟨rfl, rfl, rfl⟩ := hcs
    have hlm : len0 ≤ m := by rw [hmm]; split <;> omega
    have hex : ∀ i, i < len0 → ∃ o : O12, (W.cell? (a.add (i * 7)) = some (.int .i64 o.k) ∧ W.cell? (a.add (i * 7 + 1)) = some (.int .i64 o.b) ∧ W.cell? (a.add (i * 7 + 2)) = some (.int .i64 o.l) ∧ W.cell? (a.add (i * 7 + 3)) = some (.int .i64 o.g) ∧ W.cell? (a.add (i * 7 + 4)) = some (.int .i64 o.n) ∧ W.cell? (a.add (i * 7 + 5)) = some (.int .u16 o.i) ∧ W.cell? (a.add (i * 7 + 6)) = some (.int .u16 o.a)) ∧ o.ok := fun i hi2 => by
      obtain ⟨cs', hc, ht⟩ := hi i (by omega)
      rw [op12Cells] at hc
      obtain ⟨_, hcl, hat⟩ := World.cells?_some hc
      obtain ⟨o, rfl, ho⟩ := op12_cells hcl ht
      have a0 := hat 0 (by omega)
      have a1 := hat 1 (by omega)
      have a2 := hat 2 (by omega)
      have a3 := hat 3 (by omega)
      have a4 := hat 4 (by omega)
      have a5 := hat 5 (by omega)
      have a6 := hat 6 (by omega)
      simp only [O12.cells, Go.Deep.add_add, List.getElem?_cons_zero, List.getElem?_cons_succ, Nat.add_zero] at a0 a1 a2 a3 a4 a5 a6
      exact ⟨o, ⟨a0, a1, a2, a3, a4, a5, a6⟩, ho⟩
    obtain ⟨f, hfn⟩ := Go.Deep.choose_lt hex
    by_cases h0 : len0 = 0
    · exact ⟨[], .inl ⟨_, _, by rw [h0], rfl⟩⟩
    refine ⟨(List.range len0).map f, .inr ?_⟩
    obtain ⟨b, off, spot⟩ := a
    have hsp : spot = none := by
      obtain ⟨⟨z0, _⟩, _⟩ := hfn 0 (by omega)
      simpa [Addr.add] using World.cell?_spot z0
    subst hsp
    refine ⟨b, off, cap0, by simp, fun i hi2 => ?_⟩
    have hi3 : i < len0 := by simpa using hi2
    have hget : ((List.range len0).map f).getD i default = f i := by simp [List.getD_eq_getElem?_getD, hi3]
    rw [hget]
    obtain ⟨⟨c0, c1, c2, c3, c4, c5, c6⟩, r⟩ := hfn i hi3
    simp only [Addr.add_lit] at c0 c1 c2 c3 c4 c5 c6
    exact ⟨block_lt_of_cell c0, ⟨c0, by rw [Nat.add_assoc]; exact c1, by rw [Nat.add_assoc]; exact c2, by rw [Nat.add_assoc]; exact c3, by rw [Nat.add_assoc]; exact c4, by rw [Nat.add_assoc]; exact c5, by rw [Nat.add_assoc]; exact c6⟩, r⟩
end
end Go.Proofs.YtkbeencjklgcnaaGreat

/- The law SpaceNil: of a nil store nothing is told. -/
namespace Go.Proofs.YtkbeencjklgcnaaGreat
set_option maxRecDepth 100000
open Go.RowKit
set_option linter.unusedVariables false

theorem npUsable (w : World) : Calls Tryz.prog 72 #[.pointer none] w fun e w' => e = .returned (.int .i64 1) ∧ w = w' := by
  go_enter Tryz.func72, Tryz.ntmps72
  go_wp2
  go_ret
  exact ⟨rfl, rfl⟩
theorem npGet (w : World) (n : Int) : Calls Tryz.prog 65 #[.pointer none, .int .i64 n] w fun e w' => e = .returned (.tuple #[.slice none 0 0, .int .i64 1]) ∧ w = w' := by
  go_enter Tryz.func65, Tryz.ntmps65
  go_wp2_with (go_at_call 72; refine (npUsable _).mono ?_; rintro e w' ⟨rfl, rfl⟩)
  go_ret2
  exact ⟨rfl, rfl⟩
theorem npRead (w : World) (g : Int) : Calls Tryz.prog 35 #[.pointer none, .int .i64 g] w fun e w' => e = .returned (.tuple #[.slice none 0 0, .int .i64 1]) ∧ w = w' := by
  go_enter Tryz.func35, Tryz.ntmps35
  go_wp2_with (first
    | (go_at_call 66; refine (gDesc_any g _).mono ?_; rintro e w' ⟨rfl, rfl⟩)
    | (go_at_call 65; refine (npGet _ _).mono ?_; rintro e w' ⟨rfl, rfl⟩))
  go_ret2
  exact ⟨rfl, rfl⟩
theorem npUB (b : Int) (hb : b ≤ 9223372036854775807) (w : World) : Calls Tryz.prog 45 #[.pointer none, .int .i64 b] w fun e w' => e = .returned (.tuple #[.pointer none, .int .i64 1]) ∧ Below w.heap.size w w' := by
  cases hf : frmB b
  · exact (spUB_no b hb hf _ w).mono fun e w' ⟨h1, h2⟩ => ⟨h1, by rw [← h2]; exact Below.refl _ _⟩
  · obtain ⟨m, h1, h2, rfl⟩ := frm_yes hf
    have KN := Lib.hid (bNew_len (64 * m) (by omega) w)
    rw [show ((64 * m : Nat) : Int) = 64 * (m : Int) by omega] at KN
    have hm0 : (0 : Int) < (m : Int) := by omega
    clear hf hb
    go_enter Tryz.func45, Tryz.ntmps45
    go_wp2_with (first
      | (go_at_call 38; refine (gFormed_yes m h1 h2 _).mono ?_; rintro e w' ⟨rfl, rfl⟩)
      | (go_at_call 73; refine (gGroups_yes m h1 h2 _).mono ?_; rintro e w' ⟨rfl, rfl⟩)
      | (go_at_call 77; refine KN.out.mono ?_; rintro e w1 ⟨rfl, _, hb1⟩))
    go_loopw [19] (fun i wr => i = .int .i64 0 ∧ Below w.heap.size w wr) (fun _ _ => 0)
    case atStart => exact ⟨rfl, hb1⟩
    case round =>
      obtain ⟨rfl, hbr⟩ := hrel
      go_wp2_with (go_at_call 35; refine (npRead _ _).mono ?_; rintro e w' ⟨rfl, rfl⟩)
      go_ret2
      exact ⟨rfl, hbr⟩
theorem npUsed (b : Int) (hb : b ≤ 9223372036854775807) (w : World) : Calls Tryz.prog 18 #[.pointer none, .int .i64 b] w fun e w' => e = .returned (.tuple #[.int .i64 0, .int .i64 1]) ∧ Below w.heap.size w w' := by
  go_enter Tryz.func18, Tryz.ntmps18
  go_wp2_with (go_at_call 45; refine (npUB b hb _).mono ?_; rintro e w' ⟨rfl, hb1⟩)
  go_ret2
  exact ⟨rfl, hb1⟩
theorem npFind (b g : Int) (hb : b ≤ 9223372036854775807) (w : World) : Calls Tryz.prog 20 #[.pointer none, .int .i64 b, .int .i64 g] w fun e w' => e = .returned (.tuple #[.int .i64 0, .int .i64 1]) ∧ Below w.heap.size w w' := by
  go_enter Tryz.func20, Tryz.ntmps20
  go_wp2_with (go_at_call 45; refine (npUB b hb _).mono ?_; rintro e w' ⟨rfl, hb1⟩)
  go_ret2
  exact ⟨rfl, hb1⟩
theorem npRun (b q : Int) (hb : b ≤ 9223372036854775807) (w : World) : Calls Tryz.prog 21 #[.pointer none, .int .i64 b, .int .i64 q] w fun e w' => e = .returned (.tuple #[.int .i64 0, .int .i64 1]) ∧ Below w.heap.size w w' := by
  by_cases hq : q < 1
  · exact (spRun_no b q hb (.inr hq) _ w).mono fun e w' ⟨h1, h2⟩ => ⟨h1, by rw [← h2]; exact Below.refl _ _⟩
  · go_enter Tryz.func21, Tryz.ntmps21
    go_wp2_with (go_at_call 45; refine (npUB b hb _).mono ?_; rintro e w' ⟨rfl, hb1⟩)
    go_ret2
    exact ⟨rfl, hb1⟩
theorem npOwner (n : Int) (hn : n ≤ 9223372036854775807) (w : World) : Calls Tryz.prog 12 #[.pointer none, .int .i64 n] w fun e w' => e = .returned (.tuple #[.agg #[.int .u16 0, .int .u16 0], .int .i64 1]) ∧ Below w.heap.size w w' := by
  by_cases hp : 0 ≤ n ∧ n < 768
  · have KP := Lib.hid (spPoss_is n true (decide_eq_true hp))
    have hb1 := below_box w (.cells #[.int .u16 0, .int .u16 0] 32)
    have hr1 := heap_alloc_new w (.cells #[.int .u16 0, .int .u16 0] 32)
    clear hp
    go_enter Tryz.func12, Tryz.ntmps12
    go_wp2_with (first
      | (go_at_call 34; refine (KP.out _).mono ?_; rintro e w' ⟨rfl, rfl⟩)
      | (go_at_call 36; refine (gGroup_any n hn _).mono ?_; rintro e w' ⟨rfl, rfl⟩)
      | (go_at_call 35; refine (npRead _ _).mono ?_; rintro e w' ⟨rfl, rfl⟩)
      | (with_reducible refine wpList_store2 rfl 32 sizeOw (.tmp 4) (.tmp 21) rfl w.heap.size rfl _ _ _ _ rfl rfl rfl _ hr1 ?_; intro w5 hw5 hr5))
    refine bodyPost_ret (ret_cell2 rfl Tryz.underlying32 sizeOw _ _ w.heap.size _ _ _ _ rfl hr5 rfl) rfl ⟨rfl, hb1.trans (hw5.below (Nat.le_refl _))⟩
  · exact spOwner_no n hp _ w
theorem npSet {n : Int} (hm : n ≤ 9223372036854775807) {i j : Int} (hi : 0 ≤ i ∧ i ≤ 65535) (hj : 0 ≤ j ∧ j ≤ 65535) (w : World) : Calls Tryz.prog 22 #[.pointer none, .int .i64 n, .agg #[.int .u16 i, .int .u16 j]] w fun e w' => e = .returned (.int .i64 1) ∧ Below w.heap.size w w' := by
  by_cases hno : openN n = false ∨ frmO i j = false ∨ i = 65535
  · exact spSet_no hm hi hj hno _ w
  · have ho : openN n = true := by cases h : openN n; · exact absurd (.inl h) hno
                                   · rfl
    have hf : frmO i j = true := by cases h : frmO i j; · exact absurd (.inr (.inl h)) hno
                                    · rfl
    have h6 : i ≠ 65535 := fun h => hno (.inr (.inr h))
    have hib : (i == 65535) = false := by simpa using h6
    have KO := Lib.hid (spOpen_is n hm true ho)
    have KF := Lib.hid (grForm_is i j hi hj true hf)
    have HR := Lib.hid (fun (W : World) (hb : Below (w.alloc (.cells #[.int .u16 i, .int .u16 j] 32)).heap.size (w.alloc (.cells #[.int .u16 i, .int .u16 j] 32)) W) => show W.cell? ⟨w.heap.size, 0, none⟩ = some (.int .u16 i) ∧ W.cell? ⟨w.heap.size, 1, none⟩ = some (.int .u16 j) from ⟨cell_of_row _ _ _ _ _ _ (below_hold (heap_alloc_new w _) hb), cell_of_row _ _ _ _ _ _ (below_hold (heap_alloc_new w _) hb)⟩)
    have HB1 := Lib.hid (below_box w (.cells #[.int .u16 i, .int .u16 j] 32))
    clear hno ho hf h6
    go_enter Tryz.func22, Tryz.ntmps22
    go_wp2_with (first
      | (go_at_call 50; refine (KO.out _).mono ?_; rintro e w' ⟨rfl, rfl⟩)
      | (go_at_call 40; refine (KF.out _).mono ?_; rintro e w2 ⟨rfl, hb2⟩; obtain ⟨c20, c21⟩ := HR.out _ hb2)
      | (go_at_call 36; refine (gGroup_any n hm _).mono ?_; rintro e w' ⟨rfl, rfl⟩)
      | (go_at_call 35; refine (npRead _ _).mono ?_; rintro e w' ⟨rfl, rfl⟩))
    go_ret
    exact ⟨rfl, HB1.out.trans (hb2.mono HB1.out.size)⟩
theorem npGive {n : Int} (hm : n ≤ 9223372036854775807) (w : World) : Calls Tryz.prog 23 #[.pointer none, .int .i64 n] w fun e w' => e = .returned (.int .i64 1) ∧ Below w.heap.size w w' := by
  cases ho : openN n
  · exact (spGive_far hm ho _ w).mono fun e w' ⟨h1, h2⟩ => ⟨h1, by rw [← h2]; exact Below.refl _ _⟩
  · have KO := Lib.hid (spOpen_is n hm true ho)
    clear ho
    go_enter Tryz.func23, Tryz.ntmps23
    go_wp2_with (first
      | (go_at_call 50; refine (KO.out _).mono ?_; rintro e w' ⟨rfl, rfl⟩)
      | (go_at_call 12; refine (npOwner n hm _).mono ?_; rintro e w1 ⟨rfl, hb1⟩; have hb2 := below_box w1 (.cells #[.int .u16 0, .int .u16 0] 32)))
    go_ret
    exact ⟨rfl, hb1.trans (hb2.mono hb1.size)⟩
theorem npTake {b l g i j : Int} (hb : b ≤ 9223372036854775807) (hl : l ≤ 9223372036854775807) (hi : 0 ≤ i ∧ i ≤ 65535) (hj : 0 ≤ j ∧ j ≤ 65535) (w : World) :
    Calls Tryz.prog 15 #[.pointer none, .int .i64 b, .int .i64 l, .int .i64 g, .agg #[.int .u16 i, .int .u16 j]] w fun e w' => e = .returned (.tuple #[.int .i64 0, .int .i64 1]) ∧ Below w.heap.size w w' := by
  by_cases hno : takeNo b l i j
  · exact spTake_no hb hl hi hj hno _ w
  · have h1 : frmB b = true := by cases h : frmB b; · exact absurd (.inl h) hno
                                  · rfl
    have h2 : frmB l = true := by cases h : frmB l; · exact absurd (.inr (.inl h)) hno
                                  · rfl
    have h3 : ¬ b < l := fun h => hno (.inr (.inr (.inl h)))
    have h4 : frmO i j = true := by cases h : frmO i j; · exact absurd (.inr (.inr (.inr (.inl h)))) hno
                                    · rfl
    have h5 : i ≠ 0 := fun h => hno (.inr (.inr (.inr (.inr (.inl h)))))
    have h6 : i ≠ 65535 := fun h => hno (.inr (.inr (.inr (.inr (.inr h)))))
    have hib : (i == 65535) = false := by simpa using h6
    have K1 : Hid (∀ W : World, Calls Tryz.prog 38 #[.int .i64 b] W fun e w' => e = .returned (.bool true) ∧ W = w') := Lib.hid fun W => by rw [← h1]; exact gFormed_any b hb W
    have K2 : Hid (∀ W : World, Calls Tryz.prog 38 #[.int .i64 l] W fun e w' => e = .returned (.bool true) ∧ W = w') := Lib.hid fun W => by rw [← h2]; exact gFormed_any l hl W
    have K3 := Lib.hid (spFree_is i j false (by rw [freeP, show (i == 0) = false by simpa using h5]; rfl))
    have K4 := Lib.hid (grForm_is i j hi hj true h4)
    have HR := Lib.hid (fun (W : World) (hb : Below (w.alloc (.cells #[.int .u16 i, .int .u16 j] 32)).heap.size (w.alloc (.cells #[.int .u16 i, .int .u16 j] 32)) W) => show W.cell? ⟨w.heap.size, 0, none⟩ = some (.int .u16 i) ∧ W.cell? ⟨w.heap.size, 1, none⟩ = some (.int .u16 j) from ⟨cell_of_row _ _ _ _ _ _ (below_hold (heap_alloc_new w _) hb), cell_of_row _ _ _ _ _ _ (below_hold (heap_alloc_new w _) hb)⟩)
    have HB1 := Lib.hid (below_box w (.cells #[.int .u16 i, .int .u16 j] 32))
    clear hno h1 h2 h4 h5 h6
    go_enter Tryz.func15, Tryz.ntmps15
    go_wp2_with (first
      | (go_at_call 38; (with_reducible refine (K1.out _).mono ?_); rintro e w' ⟨rfl, rfl⟩)
      | (go_at_call 38; (with_reducible refine (K2.out _).mono ?_); rintro e w' ⟨rfl, rfl⟩)
      | (go_at_call 39; refine (K3.out _).mono ?_; rintro e w2 ⟨rfl, hb2⟩; obtain ⟨c0, c1⟩ := HR.out _ hb2; have hb02 := HB1.out.trans (hb2.mono HB1.out.size))
      | (go_at_call 40; refine (K4.out _).mono ?_; rintro e w3 ⟨rfl, hb3⟩; obtain ⟨c30, c31⟩ := HR.out _ (hb2.trans (hb3.mono hb2.size)); have hb03 := hb02.trans (hb3.mono hb02.size))
      | (go_at_call 18; refine (npUsed b hb _).mono ?_; rintro e w4 ⟨rfl, hb4⟩; have hb04 := hb03.trans (hb4.mono hb03.size)))
    go_ret2
    exact ⟨rfl, hb04⟩
theorem lSpNil_any {w : World} (k b l g n i a : Int) (hb : in64 b) (hl : in64 l) (hn : in64 n) (hi : 0 ≤ i ∧ i ≤ 65535) (ha : 0 ≤ a ∧ a ≤ 65535) : Calls Tryz.prog 5 #[opV12 k b l g n i a] w fun e w' => e = .returned (.bool true) ∧ Below w.heap.size w w' := by
  have KA := Lib.hid awake12_any
  have K1 := Lib.hid (npOwner n hn.2)
  have K2 := Lib.hid (npUsed b hb.2)
  have K3 := Lib.hid (fun W => npTake (g := g) hb.2 hl.2 hi ha W)
  have K4 := Lib.hid (npFind l g hl.2)
  have K5 := Lib.hid (npRun l n hl.2)
  have K6 := Lib.hid (fun W => npSet hn.2 hi ha W)
  have K7 := Lib.hid (fun W => npGive hn.2 W)
  have HB1 := Lib.hid (below_box w (.cells #[.int .i64 k, .int .i64 b, .int .i64 l, .int .i64 g, .int .i64 n, .int .u16 i, .int .u16 a] 34))
  have HR : Hid (∀ W, Below (w.alloc (.cells #[.int .i64 k, .int .i64 b, .int .i64 l, .int .i64 g, .int .i64 n, .int .u16 i, .int .u16 a] 34)).heap.size (w.alloc (.cells #[.int .i64 k, .int .i64 b, .int .i64 l, .int .i64 g, .int .i64 n, .int .u16 i, .int .u16 a] 34)) W → W.cell? ⟨w.heap.size, 0, none⟩ = some (.int .i64 k) ∧ W.cell? ⟨w.heap.size, 1, none⟩ = some (.int .i64 b) ∧ W.cell? ⟨w.heap.size, 2, none⟩ = some (.int .i64 l) ∧ W.cell? ⟨w.heap.size, 3, none⟩ = some (.int .i64 g) ∧ W.cell? ⟨w.heap.size, 4, none⟩ = some (.int .i64 n) ∧ W.cell? ⟨w.heap.size, 5, none⟩ = some (.int .u16 i) ∧ W.cell? ⟨w.heap.size, 6, none⟩ = some (.int .u16 a)) := Lib.hid fun W hb => by
    have hr := below_hold (heap_alloc_new w (.cells #[.int .i64 k, .int .i64 b, .int .i64 l, .int .i64 g, .int .i64 n, .int .u16 i, .int .u16 a] 34)) hb
    exact ⟨cell_of_row _ _ _ _ _ _ hr, cell_of_row _ _ _ _ _ _ hr, cell_of_row _ _ _ _ _ _ hr, cell_of_row _ _ _ _ _ _ hr, cell_of_row _ _ _ _ _ _ hr, cell_of_row _ _ _ _ _ _ hr, cell_of_row _ _ _ _ _ _ hr⟩
  clear hb hl hn hi ha
  unfold opV12
  go_enter Tryz.func5, Tryz.ntmps5
  go_wp2_with (first
    | (go_at_call 7; refine (KA.out _).mono ?_; rintro e w2 ⟨rfl, hb2⟩; obtain ⟨x20, x21, x22, x23, x24, x25, x26⟩ := HR.out _ hb2)
    | (go_at_call 12; (with_reducible refine (K1.out _).mono ?_); rintro e w3 ⟨rfl, hb3⟩; have hb13 := (hb2.trans (hb3.mono hb2.size)).trans ((below_box w3 (.cells #[.int .u16 0, .int .u16 0] 32)).mono (Nat.le_trans hb2.size hb3.size)); obtain ⟨x30, x31, x32, x33, x34, x35, x36⟩ := HR.out _ hb13)
    | (go_at_call 18; refine (K2.out _).mono ?_; rintro e w4 ⟨rfl, hb4⟩; have hb14 := hb13.trans (hb4.mono hb13.size); obtain ⟨x40, x41, x42, x43, x44, x45, x46⟩ := HR.out _ hb14)
    | (go_at_call 15; refine (K3.out _).mono ?_; rintro e w5 ⟨rfl, hb5⟩; have hb15 := hb14.trans (hb5.mono hb14.size); obtain ⟨x50, x51, x52, x53, x54, x55, x56⟩ := HR.out _ hb15)
    | (go_at_call 20; refine (K4.out _).mono ?_; rintro e w6 ⟨rfl, hb6⟩; have hb16 := hb15.trans (hb6.mono hb15.size); obtain ⟨x60, x61, x62, x63, x64, x65, x66⟩ := HR.out _ hb16)
    | (go_at_call 21; refine (K5.out _).mono ?_; rintro e w7 ⟨rfl, hb7⟩; have hb17 := hb16.trans (hb7.mono hb16.size); obtain ⟨x70, x71, x72, x73, x74, x75, x76⟩ := HR.out _ hb17)
    | (go_at_call 22; refine (K6.out _).mono ?_; rintro e w8 ⟨rfl, hb8⟩; have hb18 := hb17.trans (hb8.mono hb17.size); obtain ⟨x80, x81, x82, x83, x84, x85, x86⟩ := HR.out _ hb18)
    | (go_at_call 23; refine (K7.out _).mono ?_; rintro e w9 ⟨rfl, hb9⟩; have hb19 := hb18.trans (hb9.mono hb18.size)))
  go_ret
  exact ⟨rfl, HB1.out.trans (hb19.mono HB1.out.size)⟩
theorem lSpNil_of {w : World} {v : Value} {o : O12} (h : v = opV12 o.k o.b o.l o.g o.n o.i o.a ∧ o.ok) : Calls Tryz.prog 5 #[v] w fun e w' => e = .returned (.bool true) ∧ Below w.heap.size w w' := by
  obtain ⟨rfl, h1, h2, h3, h4, h5, h6⟩ := h
  exact lSpNil_any o.k o.b o.l o.g o.n o.i o.a h1 h2 h4 h5 h6
end Go.Proofs.YtkbeencjklgcnaaGreat
