/- Package disk: what a disk is in memory; New, Blocks, Unflushed, has, fits, powered. -/
import Derived.Test.YtibabjhehlmchaaDiskA
namespace Go.Proofs.Ytibabjhehlmchaa
open Go.RowKit
set_option linter.unusedVariables false

/-- A disk at bp: its blocks F (flushed) at bf, V (visible) at bv, its unflushed Writes U in u. -/
structure DskAt (w : World) (B bp bf bv : Nat) (u : Value) (F V : List (List Int)) (U : List (Nat × List Int)) (fu : Bool) (le : Int) (dn : Bool) : Prop where
  bB : B ≤ bp ∧ B ≤ bf ∧ B ≤ bv
  ne : bp ≠ bf ∧ bp ≠ bv ∧ bf ≠ bv
  hp : w.heap[bp]? = some (.cells #[.slice (some ⟨bf, 0, none⟩) F.length F.length, .slice (some ⟨bv, 0, none⟩) V.length V.length, u, .bool fu, .int .i64 le, .bool dn] 47 (0, 0))
  hf : w.heap[bf]? = some (.cells (F.flatMap cB).toArray 50 (0, 0))
  hv : w.heap[bv]? = some (.cells (V.flatMap cB).toArray 50 (0, 0))
  hu : w.ownsRow B 53 257 u U.length (U.flatMap cU)
  une : u.ownBlock ≠ some bp ∧ u.ownBlock ≠ some bf ∧ u.ownBlock ≠ some bv
  okF : ∀ b ∈ F, Blk b
  okV : ∀ b ∈ V, Blk b
  okU : ∀ x ∈ U, x.1 < V.length ∧ Blk x.2
  len : F.length = V.length
  max : V.length ≤ 2000

/-- A disk with power and no fuse. -/
def Dsk (w : World) (B : Nat) (p : Value) (F V : List (List Int)) (U : List (Nat × List Int)) : Prop :=
  ∃ bp bf bv u, p = .pointer (some ⟨bp, 0, none⟩) ∧ DskAt w B bp bf bv u F V U false 0 false

theorem DskAt.below {w w' : World} {B bp bf bv : Nat} {u : Value} {F V : List (List Int)} {U : List (Nat × List Int)} {fu dn : Bool} {le : Int} (h : DskAt w B bp bf bv u F V U fu le dn) (hb : Below w.heap.size w w') : DskAt w' B bp bf bv u F V U fu le dn := by
  have key : ∀ {g : Nat} {o : Obj}, w.heap[g]? = some o → w'.heap[g]? = some o := fun hg => by
    rw [hb.block _ (Array.getElem?_eq_some_iff.1 hg).1]; exact hg
  refine { h with hp := key h.hp, hf := key h.hf, hv := key h.hv, hu := ⟨h.hu.1, ?_⟩ }
  rcases h.hu.2 with h | ⟨g, cap, cur, hv, hg, hh, r⟩
  · exact .inl h
  · exact .inr ⟨g, cap, cur, hv, hg, key hh, r⟩
theorem Dsk.below {w w' : World} {B : Nat} {p : Value} {F V : List (List Int)} {U : List (Nat × List Int)} (h : Dsk w B p F V U) (hb : Below w.heap.size w w') : Dsk w' B p F V U := by
  obtain ⟨bp, bf, bv, u, hp, h⟩ := h
  exact ⟨bp, bf, bv, u, hp, h.below hb⟩

section
variable {w : World} {B bp bf bv : Nat} {u : Value} {F V : List (List Int)} {U : List (Nat × List Int)} {fu dn : Bool} {le : Int}
theorem DskAt.c0 (h : DskAt w B bp bf bv u F V U fu le dn) : w.cell? ⟨bp, 0, none⟩ = some (.slice (some ⟨bf, 0, none⟩) F.length F.length) := by rw [cell_of_row _ _ _ _ _ _ h.hp]; rfl
theorem DskAt.c1 (h : DskAt w B bp bf bv u F V U fu le dn) : w.cell? ⟨bp, 1, none⟩ = some (.slice (some ⟨bv, 0, none⟩) V.length V.length) := by rw [cell_of_row _ _ _ _ _ _ h.hp]; rfl
theorem DskAt.c2 (h : DskAt w B bp bf bv u F V U fu le dn) : w.cell? ⟨bp, 2, none⟩ = some u := by rw [cell_of_row _ _ _ _ _ _ h.hp]; rfl
theorem DskAt.c3 (h : DskAt w B bp bf bv u F V U fu le dn) : w.cell? ⟨bp, 3, none⟩ = some (.bool fu) := by rw [cell_of_row _ _ _ _ _ _ h.hp]; rfl
theorem DskAt.c4 (h : DskAt w B bp bf bv u F V U fu le dn) : w.cell? ⟨bp, 4, none⟩ = some (.int .i64 le) := by rw [cell_of_row _ _ _ _ _ _ h.hp]; rfl
theorem DskAt.c5 (h : DskAt w B bp bf bv u F V U fu le dn) : w.cell? ⟨bp, 5, none⟩ = some (.bool dn) := by rw [cell_of_row _ _ _ _ _ _ h.hp]; rfl
theorem DskAt.fr (h : DskAt w B bp bf bv u F V U fu le dn) (i : Nat) : w.frozen? ⟨bp, i, none⟩ = false := by simp [World.frozen?, h.hp]
theorem DskAt.shapeU (h : DskAt w B bp bf bv u F V U fu le dn) : ∃ ao cap, u = .slice ao U.length cap := by
  rcases h.hu.2 with ⟨hv, h0⟩ | ⟨g, cap, cur, hv, _⟩
  · exact ⟨none, 0, by rw [hv, h0]⟩
  · exact ⟨_, cap, hv⟩
end

theorem dBlocks_at {w : World} {B : Nat} {p : Value} {F V : List (List Int)} {U : List (Nat × List Int)} (h : Dsk w B p F V U) :
    Calls Try.prog 18 #[p] w fun e w' => e = .returned (.int .i64 V.length) ∧ w = w' := by
  obtain ⟨bp, bf, bv, u, rfl, h⟩ := h
  have c1 := h.c1
  go_enter Try.func18, Try.ntmps18
  go_wp2
  go_ret
  exact ⟨rfl, rfl⟩
theorem dUnflushed_at {w : World} {B : Nat} {p : Value} {F V : List (List Int)} {U : List (Nat × List Int)} (h : Dsk w B p F V U) :
    Calls Try.prog 14 #[p] w fun e w' => e = .returned (.int .i64 U.length) ∧ w = w' := by
  obtain ⟨bp, bf, bv, u, rfl, h⟩ := h
  obtain ⟨ao, cap, rfl⟩ := h.shapeU
  have c2 := h.c2
  go_enter Try.func14, Try.ntmps14
  go_wp2
  go_ret
  exact ⟨rfl, rfl⟩
theorem dPowered_at {w : World} {B bp bf bv : Nat} {u : Value} {F V : List (List Int)} {U : List (Nat × List Int)} {le : Int} (h : DskAt w B bp bf bv u F V U false le false) :
    Calls Try.prog 21 #[.pointer (some ⟨bp, 0, none⟩)] w fun e w' => e = .returned (.bool true) ∧ w = w' := by
  have c3 := h.c3
  have c5 := h.c5
  go_enter Try.func21, Try.ntmps21
  go_wp2
  go_ret
  exact ⟨rfl, rfl⟩
theorem dHas_at {w : World} {B bp bf bv : Nat} {u : Value} {F V : List (List Int)} {U : List (Nat × List Int)} {fu dn : Bool} {le : Int} (h : DskAt w B bp bf bv u F V U fu le dn) (n : Int) :
    Calls Try.prog 26 #[.pointer (some ⟨bp, 0, none⟩), .int .i64 n] w fun e w' => e = .returned (.bool (decide (0 ≤ n ∧ n < V.length))) ∧ w = w' := by
  have c1 := h.c1
  by_cases h0 : 0 ≤ n
  · go_enter Try.func26, Try.ntmps26
    go_wp2
    go_ret
    refine ⟨?_, rfl⟩
    simp [h0]
  · go_enter Try.func26, Try.ntmps26
    go_wp2
    go_ret
    refine ⟨?_, rfl⟩
    rw [decide_eq_false (by omega)]; rfl
theorem dFits_at {w : World} {B bp bf bv : Nat} {u : Value} {F V : List (List Int)} {U : List (Nat × List Int)} {fu dn : Bool} {le : Int} (h : DskAt w B bp bf bv u F V U fu le dn) (n : Int) {v : Value} {l : List Int} (hv : BSl w v l) :
    Calls Try.prog 20 #[.pointer (some ⟨bp, 0, none⟩), .int .i64 n, v] w fun e w' => e = .returned (.bool (decide ((0 ≤ n ∧ n < V.length) ∧ l.length = 256))) ∧ w = w' := by
  obtain ⟨ao, cap, rfl, _⟩ := hv.shape
  by_cases hn : 0 ≤ n ∧ n < V.length
  · go_enter Try.func20, Try.ntmps20
    go_wp2_with (go_at_call 26; refine (dHas_at h n).mono ?_; rintro e w' ⟨rfl, rfl⟩; rw [decide_eq_true hn])
    go_ret
    refine ⟨?_, rfl⟩
    by_cases hl : l.length = 256
    · rw [decide_eq_true ⟨hn, hl⟩]; simp [hl]
    · rw [decide_eq_false (fun h => hl h.2)]; simp; omega
  · go_enter Try.func20, Try.ntmps20
    go_wp2_with (go_at_call 26; refine (dHas_at h n).mono ?_; rintro e w' ⟨rfl, rfl⟩; rw [decide_eq_false hn])
    go_ret
    exact ⟨by rw [decide_eq_false (fun h => hn h.1)]; rfl, rfl⟩
end Go.Proofs.Ytibabjhehlmchaa
