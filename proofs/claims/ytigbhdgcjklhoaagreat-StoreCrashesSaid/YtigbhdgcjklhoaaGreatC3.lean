/- Package disk: a nil disk. -/
import Derived.Deep.Slices
import Derived.Deep.Fields
import Derived.ProofKit
import Derived.OpenShut
import Derived.Test.YtigbhdgcjklhoaaGreatC1
import Derived.Test.YtigbhdgcjklhoaaGreatC2
namespace Go.Proofs.YtigbhdgcjklhoaaGreat
set_option maxRecDepth 100000
open Go.RowKit
set_option linter.unusedVariables false

theorem nSetFuse (n : Int) (w : World) : Calls Tryz.prog 7 #[.pointer none, .int .i64 n] w fun e w' => e = .returned (.tuple #[]) ∧ w = w' := by
  go_enter Tryz.func7, Tryz.ntmps7
  go_wp2
  (try simp only [Exit.inBlock, Exit.then])
  refine bodyPost_ret (results_none rfl _ _ _) rfl ?_
  exact ⟨rfl, rfl⟩
theorem nBlocks (w : World) : Calls Tryz.prog 55 #[.pointer none] w fun e w' => e = .returned (.int .i64 0) ∧ w = w' := by
  go_enter Tryz.func55, Tryz.ntmps55
  go_wp2
  go_ret
  exact ⟨rfl, rfl⟩
theorem nHas (n : Int) (w : World) : Calls Tryz.prog 60 #[.pointer none, .int .i64 n] w fun e w' => e = .returned (.bool false) ∧ w = w' := by
  go_enter Tryz.func60, Tryz.ntmps60
  go_wp2
  go_ret
  exact ⟨rfl, rfl⟩
theorem nFits (n : Int) (v : Value) (w : World) : Calls Tryz.prog 66 #[.pointer none, .int .i64 n, v] w fun e w' => e = .returned (.bool false) ∧ w = w' := by
  go_enter Tryz.func66, Tryz.ntmps66
  go_wp2_with (go_at_call 60; refine (nHas _ _).mono ?_; rintro e w' ⟨rfl, rfl⟩)
  go_ret
  exact ⟨rfl, rfl⟩
theorem nWrite (n : Int) (v : Value) (w : World) : Calls Tryz.prog 51 #[.pointer none, .int .i64 n, v] w fun e w' => e = .returned (.int .i64 1) ∧ w = w' := by
  go_enter Tryz.func51, Tryz.ntmps51
  go_wp2_with (go_at_call 66; refine (nFits _ _ _).mono ?_; rintro e w' ⟨rfl, rfl⟩)
  go_ret
  exact ⟨rfl, rfl⟩
theorem nFlush (w : World) : Calls Tryz.prog 34 #[.pointer none] w fun e w' => e = .returned (.int .i64 1) ∧ w = w' := by
  go_enter Tryz.func34, Tryz.ntmps34
  go_wp2
  go_ret
  exact ⟨rfl, rfl⟩
theorem nRead (n : Int) (w : World) : Calls Tryz.prog 43 #[.pointer none, .int .i64 n] w fun e w' => e = .returned (.tuple #[.slice none 0 0, .int .i64 1]) ∧ w = w' := by
  go_enter Tryz.func43, Tryz.ntmps43
  go_wp2_with (go_at_call 60; refine (nHas _ _).mono ?_; rintro e w' ⟨rfl, rfl⟩)
  go_ret2
  exact ⟨rfl, rfl⟩
theorem nCrash (ao : Option Addr) (l c : Nat) (w : World) : Calls Tryz.prog 28 #[.pointer none, .slice ao l c] w fun e w' => e = .returned (.tuple #[]) ∧ Below w.heap.size w w' := by
  go_enter Tryz.func28, Tryz.ntmps28
  go_wp2
  (try simp only [Exit.inBlock, Exit.then])
  refine bodyPost_ret (results_none rfl _ _ _) rfl ?_
  exact ⟨rfl, (Below.refl _ _).alloc (Nat.le_refl _) _⟩
end Go.Proofs.YtigbhdgcjklhoaaGreat

/- Values of type []bool that read as lists of bits. -/
namespace Go.Proofs.YtigbhdgcjklhoaaGreat
set_option maxRecDepth 100000
open Go.RowKit Go.ChangeShapes Go.WideShapes
set_option linter.unusedVariables false

/-- A value of type []bool that reads as k. -/
def KSl (w : World) (v : Value) (k : List Bool) : Prop :=
  (v = .slice none 0 0 ∧ k = []) ∨ ∃ a cap, v = .slice (some a) k.length cap ∧ ∀ j, j < k.length → a.block < w.heap.size ∧ a.spot = none ∧ w.cell? ⟨a.block, a.off + j, none⟩ = some (.bool (k.getD j false))
theorem KSl.below {w w' : World} {v : Value} {k : List Bool} (h : KSl w v k) (hb : Below w.heap.size w w') : KSl w' v k := by
  rcases h with h | ⟨a, cap, hv, hc⟩
  · exact .inl h
  · refine .inr ⟨a, cap, hv, fun j hj => ?_⟩
    obtain ⟨h1, h2, h3⟩ := hc j hj
    exact ⟨Nat.lt_of_lt_of_le h1 hb.size, h2, by rw [hb.cell (p := ⟨a.block, a.off + j, none⟩) h1, h3]⟩
theorem KSl.shape {w : World} {v : Value} {k : List Bool} (h : KSl w v k) : ∃ ao cap, v = .slice ao k.length cap := by
  rcases h with ⟨hv, hk⟩ | ⟨a, cap, hv, _⟩
  · exact ⟨none, 0, by rw [hv, hk]; rfl⟩
  · exact ⟨some a, cap, hv⟩

theorem boolCells : Tryz.prog.cellsOf 4 = 1 := by kernel_rfl
section
variable {H : Type} {enc : TypeId × Value → H} {W : World} {base : Nat} {spare : Nat → Bool} {held : Bool}
theorem ksl_cell {c : Value} {fuel : Nat} {y : DataW H × List MemPlace} (hf : DataW.trod enc Tryz.prog W base spare held fuel 23 [c] = some y) : ∃ k, KSl W c k := by
  rcases Go.Deep.open_slice Tryz.underlying23 hf with ⟨hcs, _⟩ | ⟨a, len0, cap0, m, n, D, Pl, hcs, _, hl, hm, hmm, _, hi⟩
  · obtain rfl : c = .slice none 0 0 := by simpa using hcs
    exact ⟨[], .inl ⟨rfl, rfl⟩⟩
  · obtain rfl : c = .slice (some a) len0 cap0 := by simpa using hcs
    have hlm : len0 ≤ m := by rw [hmm]; split <;> omega
    have hex : ∀ i, i < len0 → ∃ t : Bool, W.cell? (a.add i) = some (.bool t) := fun i hi2 => by
      obtain ⟨cs', hc, ht⟩ := hi i (by omega)
      rw [boolCells, Nat.mul_one] at hc
      obtain ⟨_, hcl, hat⟩ := World.cells?_some hc
      obtain ⟨b, e, _⟩ := DataW.trod_bool Tryz.underlying4 ht
      subst e
      have := hat 0 (by omega)
      exact ⟨b, by simpa [Go.Deep.add_add] using this⟩
    obtain ⟨f, hfn⟩ := Go.Deep.choose_lt hex
    refine ⟨(List.range len0).map f, .inr ⟨a, cap0, by simp, fun i hi2 => ?_⟩⟩
    have hi2 : i < len0 := by simpa using hi2
    have c0 := hfn i hi2
    have e : ((List.range len0).map f).getD i false = f i := by simp [List.getD_eq_getElem?_getD, hi2]
    obtain ⟨b, off, spot⟩ := a
    have hsp : spot = none := by
      have z0 := hfn 0 (by omega)
      simpa [Addr.add] using World.cell?_spot z0
    subst hsp
    rw [Addr.add_lit] at c0
    exact ⟨by have := block_lt_of_cell c0; exact this, rfl, by rw [e]; exact c0⟩

theorem ksl_open {v : Value} {d : DataW H} {p : List MemPlace} {r : Reach} {b0 : Nat} (hv : Value.okWide Tryz.prog W r b0 23 v) (h : DataW.Trod enc Tryz.prog W base (fun _ => true) held 23 v d p) : ∃ k, KSl W v k := by
  obtain ⟨a0, len0, cap0, rfl⟩ := okWide_slice Tryz.underlying23 hv
  obtain ⟨fuel, hf⟩ := h
  exact ksl_cell (c := .slice a0 len0 cap0) hf
end
end Go.Proofs.YtigbhdgcjklhoaaGreat

/- Layer 3's law: a call's value, Block, awake. -/
namespace Go.Proofs.YtigbhdgcjklhoaaGreat
set_option maxRecDepth 100000
open Go.RowKit
set_option linter.unusedVariables false

/-- What a call of the script says. -/
structure OpV where
  kind : Int
  n : Int
  byte : Int
  bytes : List Int
  keep : List Bool
/-- 256 bytes, all alike. -/
def repB (x : Int) : List Int := List.replicate 256 x
theorem repB_length (x : Int) : (repB x).length = 256 := List.length_replicate
/-- Its block. -/
def OpV.blk (o : OpV) : List Int := if o.bytes = [] then repB o.byte else o.bytes

def fillR (x : Int) (k M : Nat) : List Value := List.replicate k (.int .u8 x) ++ List.replicate (M - k) (.int .u8 0)
theorem fillR_length (x : Int) {k M : Nat} (h : k ≤ M) : (fillR x k M).length = M := by simp [fillR]; omega
theorem fillR_step (x : Int) {k M : Nat} (h : k < M) : (fillR x k M).set k (.int .u8 x) = fillR x (k + 1) M := by
  apply List.ext_getElem?
  intro j
  simp only [fillR, List.getElem?_set, List.length_append, List.length_replicate, List.getElem?_append, List.getElem?_replicate]
  by_cases h1 : k = j
  · subst h1; simp; omega
  · rw [if_neg h1]
    by_cases h2 : j < k
    · rw [if_pos h2, if_pos h2, if_pos (by omega), if_pos (by omega)]
    · rw [if_neg h2, if_neg (show ¬ j < k + 1 by omega)]
      by_cases h3 : j < M
      · rw [if_pos (by omega), if_pos (by omega)]
      · rw [if_neg (by omega), if_neg (by omega)]
theorem fillR_full (x : Int) (M : Nat) : fillR x M M = (List.replicate M x).map (Value.int .u8) := by simp [fillR]
theorem fillR_zero (x : Int) (M : Nat) : fillR x 0 M = List.replicate M (.int .u8 0) := by simp [fillR]

theorem byt_rep {x : Int} (h : 0 ≤ x ∧ x ≤ 255) (n : Nat) : Byt (List.replicate n x) := byt_of_mem fun y hy => by rw [List.eq_of_mem_replicate hy]; exact h

end Go.Proofs.YtigbhdgcjklhoaaGreat

/- Package disk: SetFuse, Flush, Crash. -/
namespace Go.Proofs.YtigbhdgcjklhoaaGreat
set_option maxRecDepth 100000
open Go.RowKit
set_option linter.unusedVariables false

/-- Which Writes a crash keeps. -/
def kpOf (k : List Bool) (i : Nat) : Bool := if k.length = 0 then false else k.getD (i % k.length) false

theorem dCrash1_any {w : World} {hb : Nat} {v : Value} {k : List Bool} {t : TypeId} (hbx : w.heap[hb]? = some (.cells #[v] t (0, 0))) (hk : KSl w v k) (i : Nat) (hi : i ≤ 1000000000) :
    Calls Tryz.prog 46 #[.int .i64 i, .pointer (some ⟨hb, 0, none⟩)] w fun e w' => e = .returned (.bool (kpOf k i)) ∧ ∃ m, w' = w.drewN m := by
  have c0 : ∀ n, (w.drewN n).cell? ⟨hb, 0, none⟩ = some v := fun n => by show w.cell? _ = _; rw [cell_of_row _ _ _ _ _ _ hbx]; rfl
  rcases hk with ⟨rfl, rfl⟩ | ⟨a, cap, rfl, hc⟩
  · go_enter Tryz.func46, Tryz.ntmps46
    go_wp2_with fail
    go_quiet (fail)
    go_wp2
    go_ret
    exact ⟨rfl, _, rfl⟩
  · by_cases h0 : k.length = 0
    · have e : kpOf k i = false := by rw [kpOf, if_pos h0]
      rw [e]
      clear hc e
      go_enter Tryz.func46, Tryz.ntmps46
      go_wp2_with fail
      go_quiet (fail)
      go_wp2
      go_ret
      exact ⟨rfl, _, rfl⟩
    · have hlt : i % k.length < k.length := Nat.mod_lt _ (by omega)
      obtain ⟨h1, h2, h3⟩ := hc (i % k.length) hlt
      obtain ⟨b, off, spot⟩ := a
      obtain rfl : spot = none := h2
      have e : kpOf k i = k.getD (i % k.length) false := by rw [kpOf, if_neg h0]
      rw [e]
      obtain ⟨r, hr⟩ : ∃ r, r = k.getD (i % k.length) false := ⟨_, rfl⟩
      rw [← hr] at h3 ⊢
      obtain ⟨j, hj⟩ : ∃ j, j = i % k.length := ⟨_, rfl⟩
      rw [← hj] at h3 hlt
      have hmod : Int.tmod (i : Int) (k.length : Int) = (j : Int) := by rw [hj]; exact (Int.ofNat_tmod _ _).symm
      obtain ⟨L, hL⟩ : ∃ L, L = k.length := ⟨_, rfl⟩
      rw [← hL] at hmod hlt h0 c0
      have hL0 : (0 : Int) < (L : Int) := by omega
      have hLn : ¬ (L : Int) = 0 := by omega
      have hLN : 0 < L := by omega
      have hj0 : (0 : Int) ≤ (j : Int) := by omega
      have hjl : (j : Int) < (L : Int) := by omega
      have cj : ∀ n, (w.drewN n).cell? ⟨b, off + j, none⟩ = some (.bool r) := fun n => h3
      clear hc hj hL e h0 hr
      go_enter Tryz.func46, Tryz.ntmps46
      go_wp2_with fail
      go_quiet (fail)
      go_wp2
      go_ret
      exact ⟨rfl, _, rfl⟩
theorem dFlush1_any (w : World) (i : Nat) : Calls Tryz.prog 53 #[.int .i64 i] w fun e w' => e = .returned (.bool true) ∧ ∃ m, w' = w.drewN m := by
  go_enter Tryz.func53, Tryz.ntmps53
  go_wp2
  go_ret
  exact ⟨rfl, 0, rfl⟩

section
variable {w : World} {B bp bf bv : Nat} {u : Value} {F V : List (List Int)} {U : List (Nat × List Int)} {fu dn : Bool} {le : Int}
/-- The fuse and the power turned. -/
theorem DskAt.flags (h : DskAt w B bp bf bv u F V U fu le dn) (i : Nat) (x : Value) (fu' : Bool) (le' : Int) (dn' : Bool)
    (hs : (#[.slice (some ⟨bf, 0, none⟩) F.length F.length, .slice (some ⟨bv, 0, none⟩) V.length V.length, u, .bool fu, .int .i64 le, .bool dn] : Array Value).setIfInBounds i x = #[.slice (some ⟨bf, 0, none⟩) F.length F.length, .slice (some ⟨bv, 0, none⟩) V.length V.length, u, .bool fu', .int .i64 le', .bool dn']) :
    DskAt (w.setCell ⟨bp, i, none⟩ x) B bp bf bv u F V U fu' le' dn' ∧ Below B w (w.setCell ⟨bp, i, none⟩ x) := by
  have oth : ∀ {k : Nat}, k ≠ bp → (w.setCell ⟨bp, i, none⟩ x).heap[k]? = w.heap[k]? := fun hk => heap_setCell_other _ _ _ _ hk
  refine ⟨⟨h.bB, h.ne, ?_, ?_, ?_, ⟨h.hu.1, ?_⟩, h.une, h.okF, h.okV, h.okU, h.len, h.max⟩, (Below.refl _ _).setCell h.bB.1 _⟩
  · have := heap_setCell_same w bp i _ _ x h.hp
    rw [hs] at this; exact this
  · rw [oth (Ne.symm h.ne.1)]; exact h.hf
  · rw [oth (Ne.symm h.ne.2.1)]; exact h.hv
  · rcases h.hu.2 with h0 | ⟨g, cap, cur, hv, hg, hh, r⟩
    · exact .inl h0
    · exact .inr ⟨g, cap, cur, hv, hg, by rw [oth (fun e => h.une.1 (by rw [hv, ← e]; rfl))]; exact hh, r⟩
theorem DskAt.lt (h : DskAt w B bp bf bv u F V U fu le dn) : B ≤ w.heap.size := by
  have h1 := (Array.getElem?_eq_some_iff.1 h.hp).1
  have := h.bB
  omega

theorem dSetFuse_at (h : DskAt w B bp bf bv u F V U fu le dn) (n : Int) :
    Calls Tryz.prog 7 #[.pointer (some ⟨bp, 0, none⟩), .int .i64 n] w fun e w' => e = .returned (.tuple #[]) ∧ DskAt w' B bp bf bv u F V U (decide (0 ≤ n)) (Max.max n 0) dn ∧ Below B w w' ∧ ∀ g, g ≠ bp → w'.heap[g]? = w.heap[g]? := by
  obtain ⟨h1, b1⟩ := h.flags 3 (.bool (decide (0 ≤ n))) (decide (0 ≤ n)) le dn rfl
  obtain ⟨h2, b2⟩ := h1.flags 4 (.int .i64 (Max.max n 0)) (decide (0 ≤ n)) (Max.max n 0) dn rfl
  have c3 := h.c3
  have f3 := h.fr 3
  have c4 := h1.c4
  have f4 := h1.fr 4
  have r2 : ∀ g, g ≠ bp → ((w.setCell ⟨bp, 3, none⟩ (.bool (decide (0 ≤ n)))).setCell ⟨bp, 4, none⟩ (.int .i64 (Max.max n 0))).heap[g]? = w.heap[g]? := fun g hg => by rw [heap_setCell_other _ _ _ _ hg, heap_setCell_other _ _ _ _ hg]
  have H2 := Lib.hid (And.intro h2 (And.intro (b1.trans b2) r2))
  clear h h1 h2 b1 b2 r2
  go_enter Tryz.func7, Tryz.ntmps7
  go_wp2_with fail
  · go_end0
    have h2 := H2.out
    rw [show Max.max n 0 = 0 by omega] at h2 ⊢
    exact ⟨rfl, h2⟩
  · go_end0
    have h2 := H2.out
    rw [show Max.max n 0 = n by omega, decide_eq_true (show 0 ≤ n by omega)] at h2
    rw [show Max.max n 0 = n by omega]
    exact ⟨rfl, h2⟩

/-- Crash: whatever the fuse and the power. -/
theorem dCrash_at (h : DskAt w B bp bf bv u F V U fu le dn) (hUl : U.length ≤ 1000000) {w0 : World} {v : Value} {k : List Bool} (hk : KSl w0 v k) (hB0 : w0.heap.size ≤ B) (hw0 : Below w0.heap.size w0 w) :
    Calls Tryz.prog 28 #[.pointer (some ⟨bp, 0, none⟩), v] w fun e w' => e = .returned (.tuple #[]) ∧ Dsk w' B (.pointer (some ⟨bp, 0, none⟩)) (stF (kpOf k) U F U.length) (stV U (stF (kpOf k) U F U.length) V U.length) [] ∧ Below B w w' := by
  obtain ⟨ao, cap, rfl⟩ := hk.shape
  have hlt := h.lt
  obtain ⟨L, hL⟩ : ∃ L, L = k.length := ⟨_, rfl⟩
  rw [← hL] at hk ⊢
  clear hL
  obtain ⟨h1, b1⟩ := h.flags 5 (.bool false) fu le false rfl
  have c5 := h.c5
  have f5 := h.fr 5
  have hbpl := (Array.getElem?_eq_some_iff.1 h.hp).1
  have hbfl := (Array.getElem?_eq_some_iff.1 h.hf).1
  have hbvl := (Array.getElem?_eq_some_iff.1 h.hv).1
  have hbB := h.bB
  obtain ⟨W1, hW1⟩ : ∃ W1, W1 = w.setCell ⟨bp, 5, none⟩ (.bool false) := ⟨_, rfl⟩
  have s1 : W1.heap.size = w.heap.size := by rw [hW1]; simp [World.setCell]
  rw [← hW1] at h1 b1
  have ba : Below W1.heap.size W1 (W1.alloc (.cells #[.slice ao L cap] 23)) := (Below.refl _ _).alloc (Nat.le_refl _) _
  have h2 := h1.below ba
  have hbx : (W1.alloc (.cells #[.slice ao L cap] 23)).heap[w.heap.size]? = some (.cells #[.slice ao L cap] 23 (0, 0)) := by rw [← s1]; exact heap_alloc_last _ _
  have s2 : (W1.alloc (.cells #[.slice ao L cap] 23)).heap.size = w.heap.size + 1 := by simp [s1]
  have bw2 : Below B w (W1.alloc (.cells #[.slice ao L cap] 23)) := b1.trans (ba.mono (by omega))
  have HW1 := Lib.hid hW1
  have HS2 := Lib.hid s2
  clear hW1 s1 h1 b1 ba s2
  go_enter Tryz.func28, Tryz.ntmps28
  go_wp2_with (first
    | (go_at_call 7; rw [← HW1.out]; refine (dSetFuse_at h2 (-1)).mono ?_; rintro e w3 ⟨rfl, h3, b3, r3⟩
       rw [show decide (0 ≤ (-1 : Int)) = false from rfl, show Max.max (-1 : Int) 0 = 0 from rfl] at h3)
    | (go_at_call 45; refine (dSettleC h3 h3.lt hUl (kpOf k) w.heap.size ?_).mono ?_
       rotate_left 1
       rintro e w4 ⟨rfl, h4, b4⟩))
  · go_end0
    exact ⟨rfl, ⟨bp, bf, bv, _, rfl, h4⟩, (bw2.trans b3).trans b4⟩
  · intro W hF i hi
    have hbw3 : w3.heap[w.heap.size]? = some (.cells #[.slice ao L cap] 23 (0, 0)) := by rw [r3 _ (by omega)]; exact hbx
    have hlt3 : w.heap.size < w3.heap.size := (Array.getElem?_eq_some_iff.1 hbw3).1
    refine dCrash1_any (v := .slice ao L cap) (t := 23) (by rw [hF.block _ hlt3 (by omega) (by omega)]; exact hbw3) (hk.below ?_) i (by omega)
    exact (hw0.trans ((bw2.trans b3).mono hB0)).trans ((hF.below hbB.2.1 hbB.2.2 h3.lt).mono hB0)

theorem dFlush_at {p : Value} (h : Dsk w B p F V U) (hUl : U.length ≤ 1000000) :
    Calls Tryz.prog 34 #[p] w fun e w' => e = .returned (.int .i64 0) ∧ Dsk w' B p (stF (fun _ => true) U F U.length) (stV U (stF (fun _ => true) U F U.length) V U.length) [] ∧ Below B w w' := by
  obtain ⟨bp, bf, bv, u, rfl, h⟩ := h
  go_enter Tryz.func34, Tryz.ntmps34
  go_wp2_with (first
    | (go_at_call 52; refine (dPowered_at h).mono ?_; rintro e w' ⟨rfl, rfl⟩)
    | (go_at_call 45; refine (dSettleF h h.lt hUl (fun _ => true) (fun W _ i _ => dFlush1_any W i)).mono ?_
       rintro e w4 ⟨rfl, h4, b4⟩))
  go_ret
  exact ⟨rfl, ⟨bp, bf, bv, _, rfl, h4⟩, b4⟩
end
end Go.Proofs.YtigbhdgcjklhoaaGreat

/- Package disk, whatever the power and the fuse: powered, Write; what has turned. -/
namespace Go.Proofs.YtigbhdgcjklhoaaGreat
set_option maxRecDepth 100000
open Go.RowKit
set_option linter.unusedVariables false

/-- Is there power for one more change? What is left of the fuse, and whether the power is off, behind it. -/
def pOk (fu : Bool) (le : Int) (dn : Bool) : Bool := !dn && (!fu || !decide (le = 0))
def pLe (fu : Bool) (le : Int) (dn : Bool) : Int := if dn = false ∧ fu = true ∧ le ≠ 0 then le - 1 else le
def pDn (fu : Bool) (le : Int) (dn : Bool) : Bool := dn || (fu && decide (le = 0))

section
variable {w : World} {B bp bf bv : Nat} {u : Value} {F V : List (List Int)} {U : List (Nat × List Int)} {fu dn : Bool} {le : Int}
theorem dPowered_any (h : DskAt w B bp bf bv u F V U fu le dn) (h0 : 0 ≤ le) (h1 : le ≤ 9223372036854775807) :
    Calls Tryz.prog 52 #[.pointer (some ⟨bp, 0, none⟩)] w fun e w' => e = .returned (.bool (pOk fu le dn)) ∧ DskAt w' B bp bf bv u F V U fu (pLe fu le dn) (pDn fu le dn) ∧ Wrote w w' bp := by
  have c3 := h.c3
  have c4 := h.c4
  have c5 := h.c5
  have f4 := h.fr 4
  have f5 := h.fr 5
  cases dn
  · cases fu
    · have H := Lib.hid h
      clear h
      go_enter Tryz.func52, Tryz.ntmps52
      go_wp2
      go_ret
      exact ⟨rfl, by simpa [pLe, pDn] using H.out, Wrote.refl _ _⟩
    · by_cases hl : le = 0
      · have H := Lib.hid ((h.flags 5 (.bool true) true le true rfl).1)
        subst hl
        clear h
        go_enter Tryz.func52, Tryz.ntmps52
        go_wp2
        go_ret
        exact ⟨rfl, by simpa [pLe, pDn] using H.out, Wrote.setCell _ _ _ _⟩
      · have H := Lib.hid ((h.flags 4 (.int .i64 (le - 1)) true (le - 1) false rfl).1)
        have hlb : (le == 0) = false := by simpa using hl
        have HL := Lib.hid hl
        clear h
        go_enter Tryz.func52, Tryz.ntmps52
        go_wp2
        go_ret
        have hl := HL.out
        exact ⟨by simp [pOk, hl], by simpa [pLe, pDn, hl] using H.out, Wrote.setCell _ _ _ _⟩
  · have H := Lib.hid h
    clear h
    go_enter Tryz.func52, Tryz.ntmps52
    go_wp2
    go_ret
    exact ⟨rfl, by simpa [pLe, pDn] using H.out, Wrote.refl _ _⟩
/-- Bytes do not lie in the disk's own struct. -/
theorem BSl.apartP (h : DskAt w B bp bf bv u F V U fu le dn) {v : Value} {l : List Int} (hv : BSl w v l) {W : World} (hw : Wrote w W bp) : BSl W v l := by
  refine ⟨hv.1, ?_⟩
  rcases hv.2 with h0 | ⟨a, cap, hva, hcap, hc⟩
  · exact .inl h0
  · refine .inr ⟨a, cap, hva, hcap, fun j hj => ?_⟩
    obtain ⟨h1, h2, h3⟩ := hc j hj
    refine ⟨by rw [hw.2.2.2.1]; exact h1, h2, ?_⟩
    have hne : a.block ≠ bp := fun e => by
      rw [e, cell_of_row _ _ _ _ _ _ h.hp] at h3
      obtain ⟨ao, cu, hu⟩ := h.shapeU
      rw [hu] at h3
      have : a.off + j = 0 ∨ a.off + j = 1 ∨ a.off + j = 2 ∨ a.off + j = 3 ∨ a.off + j = 4 ∨ a.off + j = 5 ∨ 6 ≤ a.off + j := by omega
      rcases this with e | e | e | e | e | e | e
      · rw [e] at h3; simp at h3
      · rw [e] at h3; simp at h3
      · rw [e] at h3; simp at h3
      · rw [e] at h3; simp at h3
      · rw [e] at h3; simp at h3
      · rw [e] at h3; simp at h3
      · rw [Array.getElem?_eq_none (by simpa using e)] at h3; cases h3
    rw [World.cell?_of_block (a := ⟨a.block, a.off + j, none⟩) (w := w) (hw.2.2.2.2 _ hne)]
    exact h3
end
/-- What a Write leaves of what was there: all but the disk's own blocks; the row of unflushed Writes is the one that it was, or a new one. -/
structure FrU (w W : World) (bp bf bv : Nat) (u u' : Value) : Prop where
  os : W.os = w.os
  tape : W.tape = w.tape
  output : W.output = w.output
  size : w.heap.size ≤ W.heap.size
  block : ∀ k, k < w.heap.size → k ≠ bp → k ≠ bf → k ≠ bv → u.ownBlock ≠ some k → W.heap[k]? = w.heap[k]?
  own : ∀ k, u'.ownBlock = some k → u.ownBlock = some k ∨ w.heap.size ≤ k

theorem dWrite_fit {w : World} {B bp bf bv : Nat} {u : Value} {F V : List (List Int)} {U : List (Nat × List Int)} {fu dn : Bool} {le : Int} (h : DskAt w B bp bf bv u F V U fu le dn) (n : Int) {v : Value} {l : List Int} (hv : BSl w v l) (hno : ¬ ((0 ≤ n ∧ n < V.length) ∧ l.length = 256)) :
    Calls Tryz.prog 51 #[.pointer (some ⟨bp, 0, none⟩), .int .i64 n, v] w fun e w' => e = .returned (.int .i64 1) ∧ w = w' := by
  go_enter Tryz.func51, Tryz.ntmps51
  go_wp2_with (go_at_call 66; refine (dFits_at h n hv).mono ?_; rintro e w' ⟨rfl, rfl⟩; rw [decide_eq_false hno])
  go_ret
  exact ⟨rfl, rfl⟩
theorem dWrite_off {w : World} {B bp bf bv : Nat} {u : Value} {F V : List (List Int)} {U : List (Nat × List Int)} {fu dn : Bool} {le : Int} (h : DskAt w B bp bf bv u F V U fu le dn) (h0 : 0 ≤ le) (h1 : le ≤ 9223372036854775807) (n : Int) {v : Value} {l : List Int} (hv : BSl w v l) (hy : (0 ≤ n ∧ n < V.length) ∧ l.length = 256) (hp : pOk fu le dn = false) :
    Calls Tryz.prog 51 #[.pointer (some ⟨bp, 0, none⟩), .int .i64 n, v] w fun e w' => e = .returned (.int .i64 2) ∧ DskAt w' B bp bf bv u F V U fu (pLe fu le dn) (pDn fu le dn) ∧ Wrote w w' bp := by
  have KP := Lib.hid (dPowered_any h h0 h1)
  have KF := Lib.hid (dFits_at h n hv)
  rw [hp] at KP
  rw [decide_eq_true hy] at KF
  clear h hv hy
  go_enter Tryz.func51, Tryz.ntmps51
  go_wp2_with (first
    | (go_at_call 66; refine KF.out.mono ?_; rintro e w' ⟨rfl, rfl⟩)
    | (go_at_call 52; refine KP.out.mono ?_; rintro e w2 ⟨rfl, hd2, hw2⟩))
  go_ret
  exact ⟨rfl, hd2, hw2⟩

attribute [-go_sem] Instr.build Instr.buildSlice loadCellsFrom

set_option maxRecDepth 100000 in
set_option maxHeartbeats 3000000 in
theorem dWrite_on {w : World} {B bp bf bv : Nat} {u : Value} {F V : List (List Int)} {U : List (Nat × List Int)} {fu dn : Bool} {le : Int} (h : DskAt w B bp bf bv u F V U fu le dn) (h0 : 0 ≤ le) (h1 : le ≤ 9223372036854775807) (hp : pOk fu le dn = true) (n : Nat) (hn : n < V.length) {v : Value} {l : List Int} (hv : BSl w v l) (hl : l.length = 256) (hU : U.length ≤ 1000000) :
    Calls Tryz.prog 51 #[.pointer (some ⟨bp, 0, none⟩), .int .i64 n, v] w fun e w' => e = .returned (.int .i64 0) ∧ ∃ u', DskAt w' B bp bf bv u' F (V.set n l) (U ++ [(n, l)]) fu (pLe fu le dn) (pDn fu le dn) ∧ Below B w w' ∧ FrU w w' bp bf bv u u' := by
  have KF := Lib.hid (dFits_at h n hv)
  have KP := Lib.hid (dPowered_any h h0 h1)
  rw [hp] at KP
  have HOLD := Lib.hid h
  have HVOLD := Lib.hid (fun W (hw : Wrote w W bp) => hv.apartP h hw)
  generalize pLe fu le dn = le' at KP ⊢
  generalize pDn fu le dn = dn' at KP ⊢
  have hBw : B ≤ w.heap.size := by
    have h1 := (Array.getElem?_eq_some_iff.1 h.hp).1
    have := h.bB
    omega
  have hd : decide ((0 ≤ (n : Int) ∧ (n : Int) < V.length) ∧ l.length = 256) = true := decide_eq_true ⟨by omega, hl⟩
  have hn' : (n : Int) < V.length := by omega
  have HL : Hid ((cB l).length = 256) := by show _ = _; rw [cB_length, hl]
  have HB : Hid (Blk l) := ⟨hl, hv.1⟩
  have HZ := Lib.hid zB_length
  have hone : ∀ v ∈ zB, v.oneCell' = true := fun v hv => by rw [List.eq_of_mem_replicate hv]; rfl
  have HH := Lib.hid hl
  clear hl
  go_enter Tryz.func51, Tryz.ntmps51
  go_wp2_with (first
    | (go_at_call 66; refine KF.out.mono ?_; rintro e w' ⟨rfl, rfl⟩; rw [hd])
    | (go_at_call 52; refine KP.out.mono ?_; rintro e w0 ⟨rfl, hd0, hw0⟩
       have HV0 := Lib.hid (HVOLD.out _ hw0))
    | (go_at_call 67; refine (dBlockOf_any HV0.out HH.out).mono ?_; rintro e w1 ⟨rfl, hb1⟩)
    | with_reducible refine wpList_allocB _ rfl rfl ?_
    | (refine wpList_storeB _ rfl _ _ (by rfl) _ 93 zB (cB l) (by rfl) (by rfl) (heap_alloc_last _ _) HZ.out HL.out (cB_one l) ?_
       rw [World.setRow_alloc_new]))
  have HW0 := Lib.hid hw0
  have HBW : Hid (Below B w w0) := Lib.hid (hw0.below h.bB.1)
  have hBw : B ≤ w0.heap.size := Nat.le_trans hBw HBW.out.size
  clear h hv KF KP HOLD HVOLD hw0
  have h := hd0
  have hv := HV0.out
  have hb2 : Below w0.heap.size w0 (w1.alloc (.cells (cB l).toArray 93)) := hb1.alloc hb1.size _
  obtain ⟨H1, hH1⟩ : ∃ H1, H1 = w1.heap.size := ⟨_, rfl⟩
  have hrow : (w1.alloc (.cells (cB l).toArray 93)).heap[H1]? = some (.cells (cB l).toArray 93 (0, 0)) := by rw [hH1]; exact heap_alloc_last _ _
  rw [← hH1]
  have hlt1 : bp < H1 ∧ bf < H1 ∧ bv < H1 := by
    have h1 := (Array.getElem?_eq_some_iff.1 h.hp).1
    have h2 := (Array.getElem?_eq_some_iff.1 h.hf).1
    have h3 := (Array.getElem?_eq_some_iff.1 h.hv).1
    have := hb1.size
    omega
  have HH1 := Lib.hid hH1
  clear hH1
  generalize w1.alloc (.cells (cB l).toArray 93) = W1 at hb2 hrow ⊢
  have h1 := h.below hb2
  have rL : W1.rangeAt H1 0 (cB l) := range_row hrow (by rw [List.drop_zero, List.take_length])
  have tV : W1.there bv (n * 256) (cB l).length := there_row h1.hv (by rw [HL.out, flat_length (flatB_len h.okV)]; omega)
  have c1 := h1.c1
  have hone2 := cB_one l
  have hub := Tryz.underlying93
  have hib : (Tryz.prog.info? 93).map (·.size) = some (cB l).length := by rw [sizeB, HL.out]
  have hlen := HL.out
  have H := Lib.hid h
  have hS1 : W1.drew.cell? ⟨bp, 1, none⟩ = some (.slice (some ⟨bv, 0, none⟩) V.length V.length) ∧ W1.drew.rangeAt H1 0 (cB l) ∧ W1.drew.there bv (n * 256) (cB l).length := ⟨c1, rL, tV⟩
  have hS2 : (W1.drew.setCells bv (n * 256) (cB l)).cell? ⟨bp, 1, none⟩ = some (.slice (some ⟨bv, 0, none⟩) V.length V.length) ∧ (W1.drew.setCells bv (n * 256) (cB l)).rangeAt H1 0 (cB l) ∧ (W1.drew.setCells bv (n * 256) (cB l)).there bv (n * 256) (cB l).length :=
    ⟨by rw [World.cell?_setCells_out _ _ _ _ _ (fun e => absurd e h.ne.2.1)]; exact c1, World.rangeAt_setCells_apart hS1.2.1 _ _ _ (.inl (by omega)), World.there_setCells hS1.2.2 _ _ _⟩
  clear h1 hrow h hv
  go_region_held (fun W => W.cell? ⟨bp, 1, none⟩ = some (.slice (some ⟨bv, 0, none⟩) V.length V.length) ∧ W.rangeAt H1 0 (cB l) ∧ W.there bv (n * 256) (cB l).length) (first | exact hS1 | exact hS2) (fail)
  go_wp2_with fail
  obtain ⟨h2, hwr⟩ := H.out.setV (W := W1.drew) (hb2.drew) n hn l HB.out
  have hrow2 : (W1.drew.setCells bv (n * 256) (cB l)).rangeAt H1 0 (cB l) := hS2.2.1
  have hb3 : Below B w0 (W1.drew.setCells bv (n * 256) (cB l)) := ((hb2.mono hBw).drew).trans (hwr.below H.out.bB.2.2)
  have hsz2 : H1 < (W1.drew.setCells bv (n * 256) (cB l)).heap.size := World.block_lt_of_cell? _ _ (hrow2 0 _ (List.getElem?_eq_getElem (by omega)))
  have hfr2 : ∀ k, k < w0.heap.size → k ≠ bv → (W1.drew.setCells bv (n * 256) (cB l)).heap[k]? = w0.heap[k]? := fun k hk hne => (hwr.2.2.2.2 k hne).trans ((hb2.drew).block k hk)
  generalize W1.drew.setCells bv (n * 256) (cB l) = W2 at h2 hrow2 hb3 hsz2 hfr2 ⊢
  clear hS1 hS2 rL tV c1 hwr hb2
  have HFR2 := Lib.hid hfr2
  clear hfr2
  have hB2 : B ≤ W2.heap.size := Nat.le_trans hBw hb3.size
  obtain ⟨i, hi1, hi2, hi3, hi4⟩ := info_parts infoW
  have c2 := h2.c2
  have fz := h2.fr 2
  have hbd := fun W => build_write W n l HH.out
  have hbs := fun W => slice_write W (.int .i64 n :: cB l) (by rw [List.length_cons, HL.out])
  have hown := h2.hu
  have hcu : (Value.int .i64 n :: cB l).length = 257 := by rw [List.length_cons, HL.out]
  have hcu1 : ∀ v ∈ (Value.int .i64 n :: cB l), v.oneCell' = true := cU_one (n, l)
  have hS1 : W2.drew.rangeAt H1 0 (cB l) := hrow2
  have hbpH : bp ≠ H1 := by omega
  have huH : u.ownBlock ≠ some H1 := fun e => by have := (H.out.hu.lt _ e).2; have := hb1.size; have := HH1.out; omega
  have hB2' := Lib.hid hB2
  have hzz : (Value.agg (Value.int .i64 0 :: zB).toArray).cells.size = 257 := by show (Value.int .i64 0 :: zB).toArray.size = 257; simp [zB_length]
  have hc3 : ∀ w3, ((W2.alloc (.cells (Value.int .i64 n :: cB l).toArray 95)).drew).grownBy w3 u.ownBlock → w3.cell? ⟨bp, 2, none⟩ = some u ∧ w3.frozen? ⟨bp, 2, none⟩ = false := fun w3 hg => by
    have hlt : bp < W2.heap.size := (Array.getElem?_eq_some_iff.1 h2.hp).1
    have hlt' : bp < ((W2.alloc (.cells (Value.int .i64 n :: cB l).toArray 95)).drew).heap.size := by simp; omega
    rw [hg.cell_far _ hlt' (Ne.symm h2.une.1), hg.frozen_far _ hlt' (Ne.symm h2.une.1)]
    exact ⟨by rw [World.cell?_drew, World.cell?_alloc_lt _ _ _ hlt]; exact c2, by rw [World.frozen?_drew, World.frozen?_alloc_past _ _ _ hlt]; exact fz⟩
  have hap := fun w3 hgrow g cap hown3 hat => h2.pushU (W := (W2.alloc (.cells (Value.int .i64 n :: cB l).toArray 95)).drew) (w3 := w3) (((Below.refl _ _).alloc (Nat.le_refl _) _).drew) hB2 hgrow g cap (n, l) ⟨by rw [List.length_set]; exact hn, HB.out⟩ hown3 hat
  have hcl : (loadCellsFrom ⟨H1, 0, none⟩ 0 256 #[]).run Tryz.prog W2.drew = .ok (cB l).toArray W2.drew := by
    have := run_loadCells_list (P := Tryz.prog) W2.drew ⟨H1, 0, none⟩ (cB l) (fun j v hv => by rw [Addr.add_mid]; exact hS1 j v hv)
    rw [HL.out] at this; exact this
  have hltbp : bp < W2.heap.size := (Array.getElem?_eq_some_iff.1 h2.hp).1
  clear hub hib hlen
  go_region_law
    ((refine step_append_lies _ (by rfl) _ _ _ (by rfl) B 95 i _ 257 264 Tryz.underlying49 hi1 hi2 hi3 hi4 hzz (by omega) u U.length (U.flatMap cU) (by rfl) ((hown.alloc _).drew)
        ⟨W2.heap.size, 0, none⟩ 1 1 (Value.int .i64 n :: cB l) (by rfl) hcu (World.news_of_block (cs := (Value.int .i64 n :: cB l).toArray) (t := 95) (fr := (0, 0)) (heap_alloc_new W2 _)) hcu1
        (by omega) (by simp only [maxLen]; omega) (by omega) (Nat.le_trans hB2 (by simp)) (W2.heap.size + 1) (by simp) ?_; intro gg cap w3 hown3 hgrow hat hlt; obtain ⟨c3, f3⟩ := hc3 w3 hgrow))
  all_goals
    obtain ⟨hd3, hb4⟩ := hap w3 hgrow gg cap hown3 (by simpa using hat)
    clear hap hc3
    go_wp2_with fail
    go_ret
    have hbA := (HBW.out.trans hb3).trans hb4
    refine ⟨rfl, _, hd3, hbA, hbA.os, hbA.tape, hbA.output, hbA.size, fun k hk k1 k2 k3 k4 => ?_, fun k hk => ?_⟩
    · have e0 : k < w0.heap.size := Nat.lt_of_lt_of_le hk HBW.out.size
      have e1 : k < W2.heap.size := Nat.lt_of_lt_of_le e0 hb3.size
      have e2 : k < ((W2.alloc (.cells (Value.int .i64 n :: cB l).toArray 95)).drew).heap.size := by simp; omega
      rw [heap_setCell_other _ _ _ _ k1, hgrow.block k e2 (Ne.symm k4)]
      exact (((Below.refl W2.heap.size W2).alloc (Nat.le_refl _) _).block k e1).trans ((HFR2.out k e0 k3).trans (HW0.out.2.2.2.2 k k1))
    · obtain rfl : gg = k := by simpa [Value.ownBlock] using hk
      rcases hat with hat | hat
      · exact .inl hat
      · right
        have := hb3.size
        have := HBW.out.size
        omega
end Go.Proofs.YtigbhdgcjklhoaaGreat

/- Values of type [][]byte that read as lists of bytes; such of one's own; one appended, many appended. -/
namespace Go.Proofs.YtigbhdgcjklhoaaGreat
set_option maxRecDepth 100000
open Go.RowKit
set_option linter.unusedVariables false

/-- A value of type [][]byte that reads as L. -/
def BBSl (w : World) (v : Value) (L : List (List Int)) : Prop :=
  (v = .slice none 0 0 ∧ L = []) ∨ ∃ a cap, v = .slice (some a) L.length cap ∧ L.length ≤ cap ∧ ∀ j, j < L.length → a.block < w.heap.size ∧ a.spot = none ∧
    ∃ u, w.cell? ⟨a.block, a.off + j, none⟩ = some u ∧ BSl w u (L.getD j [])
theorem bbsl_nil (w : World) : BBSl w (.slice none 0 0) [] := .inl ⟨rfl, rfl⟩
theorem BBSl.keep {w w' : World} {v : Value} {L : List (List Int)} (h : BBSl w v L) (hs : w.heap.size ≤ w'.heap.size) (hb : ∀ p : Addr, p.block < w.heap.size → w'.cell? p = w.cell? p) : BBSl w' v L := by
  rcases h with h | ⟨a, cap, hv, hcap, hc⟩
  · exact .inl h
  · refine .inr ⟨a, cap, hv, hcap, fun j hj => ?_⟩
    obtain ⟨h1, h2, u, h3, h4⟩ := hc j hj
    exact ⟨Nat.lt_of_lt_of_le h1 hs, h2, u, by rw [hb _ (by exact h1), h3], h4.keep hs hb⟩
theorem BBSl.below {w w' : World} {v : Value} {L : List (List Int)} (h : BBSl w v L) (hb : Below w.heap.size w w') : BBSl w' v L :=
  h.keep hb.size fun _ hp => hb.cell hp
theorem BBSl.open' {w : World} {v : Value} {L : List (List Int)} (h : BBSl w v L) : ∃ ao cap, v = .slice ao L.length cap ∧ L.length ≤ cap ∧ (0 < L.length → ∃ b off, ao = some ⟨b, off, none⟩ ∧ b < w.heap.size ∧
    ∀ j, j < L.length → ∃ u, w.cell? ⟨b, off + j, none⟩ = some u ∧ BSl w u (L.getD j [])) := by
  rcases h with ⟨hv, hk⟩ | ⟨⟨b, off, spot⟩, cap, hv, hcap, hc⟩
  · exact ⟨none, 0, by rw [hv, hk]; rfl, by rw [hk]; exact Nat.le_refl _, fun h => by rw [hk] at h; simp at h⟩
  · refine ⟨_, cap, hv, hcap, fun h0 => ?_⟩
    obtain ⟨h1, h2, _⟩ := hc 0 h0
    obtain rfl : spot = none := h2
    exact ⟨b, off, rfl, h1, fun j hj => (hc j hj).2.2⟩
theorem BBSl.shape {w : World} {v : Value} {L : List (List Int)} (h : BBSl w v L) : ∃ ao cap, v = .slice ao L.length cap ∧ L.length ≤ cap := by
  obtain ⟨ao, cap, hv, hc, _⟩ := h.open'
  exact ⟨ao, cap, hv, hc⟩
theorem BSl.one {w : World} {v : Value} {l : List Int} (h : BSl w v l) : v.oneCell' = true := by
  obtain ⟨ao, cap, rfl, _⟩ := h.shape
  rfl
/-- A []byte that reads as l and lies below block B, or in a row of bytes: a write into a row of slices from B on does not touch it. -/
def BElt (w : World) (B : Nat) (x : Value) (l : List Int) : Prop :=
  BSl w x l ∧ (0 < l.length → ∃ b off cap, x = .slice (some ⟨b, off, none⟩) l.length cap ∧ b < w.heap.size ∧ (b < B ∨ ∃ cur, w.heap[b]? = some (.cells cur 5 (0, 0))))
theorem BElt.grown {w w' : World} {B : Nat} {x : Value} {l : List Int} (h : BElt w B x l) {row : Option Nat} (hrow : ∀ g, row = some g → B ≤ g ∧ ∃ cur, w.heap[g]? = some (.cells cur 59 (0, 0))) (hg : w.grownBy w' row) : BElt w' B x l := by
  by_cases h0 : 0 < l.length
  · obtain ⟨b, off, cap, rfl, hb, hor⟩ := h.2 h0
    have hne : some b ≠ row := fun e => by
      obtain ⟨h1, cur, h2⟩ := hrow b e.symm
      rcases hor with h3 | ⟨cur', h3⟩
      · omega
      · rw [h3] at h2
        injection h2 with h2
        injection h2 with _ h4
        exact absurd h4 (by decide)
    have hbk := hg.block b hb hne
    refine ⟨⟨h.1.1, ?_⟩, fun _ => ⟨b, off, cap, rfl, Nat.lt_of_lt_of_le hb hg.size, hor.elim .inl fun ⟨cur, hc⟩ => .inr ⟨cur, by rw [hbk]; exact hc⟩⟩⟩
    rcases h.1.2 with ⟨hv, _⟩ | ⟨a, cap', hv, hcap, hc⟩
    · simp at hv
    · obtain ⟨rfl, rfl⟩ : a = ⟨b, off, none⟩ ∧ cap = cap' := ⟨(Option.some.inj (Value.slice.inj hv).1).symm, (Value.slice.inj hv).2.2⟩
      refine .inr ⟨_, cap, rfl, hcap, fun j hj => ?_⟩
      obtain ⟨h1, h2, h3⟩ := hc j hj
      exact ⟨Nat.lt_of_lt_of_le h1 hg.size, rfl, by rw [World.cell?_of_block (a := ⟨b, off + j, none⟩) hbk]; exact h3⟩
  · obtain rfl : l = [] := List.eq_nil_of_length_eq_zero (by omega)
    refine ⟨⟨byt_nil, ?_⟩, fun h => absurd h h0⟩
    rcases h.1.2 with h | ⟨a, cap, hv, hcap, _⟩
    · exact .inl h
    · exact .inr ⟨a, cap, hv, hcap, fun j hj => absurd hj (Nat.not_lt_zero _)⟩
theorem grown_of_below {w w' : World} (h : Below w.heap.size w w') : w.grownBy w' none := ⟨h.os, h.tape, h.output, h.size, fun k hk _ => h.block k hk⟩
theorem BElt.below {w w' : World} {B : Nat} {x : Value} {l : List Int} (h : BElt w B x l) (hb : Below w.heap.size w w') : BElt w' B x l :=
  h.grown (row := none) (fun g e => by cases e) (grown_of_below hb)
theorem BElt.old {w : World} {B : Nat} {x : Value} {l : List Int} (h : BSl w x l) (hB : w.heap.size ≤ B) : BElt w B x l := by
  refine ⟨h, fun h0 => ?_⟩
  rcases h.2 with ⟨_, hl⟩ | ⟨⟨b, off, spot⟩, cap, hv, _, hc⟩
  · rw [hl] at h0; simp at h0
  · obtain ⟨h1, h2, _⟩ := hc 0 h0
    obtain rfl : spot = none := h2
    exact ⟨b, off, cap, hv, h1, .inl (Nat.lt_of_lt_of_le h1 hB)⟩
theorem OB.elt {w : World} {B B' : Nat} {x : Value} {l : List Int} (h : OB w B' x l) : BElt w B x l := by
  refine ⟨h.bsl, fun h0 => ?_⟩
  rcases h.2.2 with ⟨_, hl⟩ | ⟨g, cap, cur, hv, _, hh, _⟩
  · omega
  · exact ⟨g, 0, cap, hv, (Array.getElem?_eq_some_iff.1 hh).1, .inr ⟨cur, hh⟩⟩

/-- A value of type [][]byte that reads as L, each of whose elements is as above. -/
def BBE (w : World) (B : Nat) (v : Value) (L : List (List Int)) : Prop :=
  (v = .slice none 0 0 ∧ L = []) ∨ ∃ a cap, v = .slice (some a) L.length cap ∧ L.length ≤ cap ∧ ∀ j, j < L.length → a.block < w.heap.size ∧ a.spot = none ∧
    ∃ u, w.cell? ⟨a.block, a.off + j, none⟩ = some u ∧ BElt w B u (L.getD j [])
theorem BBSl.old {w : World} {B : Nat} {v : Value} {L : List (List Int)} (h : BBSl w v L) (hB : w.heap.size ≤ B) : BBE w B v L := by
  rcases h with h | ⟨a, cap, hv, hcap, hc⟩
  · exact .inl h
  · refine .inr ⟨a, cap, hv, hcap, fun j hj => ?_⟩
    obtain ⟨h1, h2, u, h3, h4⟩ := hc j hj
    exact ⟨h1, h2, u, h3, BElt.old h4 hB⟩
theorem BBE.below {w w' : World} {B : Nat} {v : Value} {L : List (List Int)} (h : BBE w B v L) (hb : Below w.heap.size w w') : BBE w' B v L := by
  rcases h with h | ⟨a, cap, hv, hcap, hc⟩
  · exact .inl h
  · refine .inr ⟨a, cap, hv, hcap, fun j hj => ?_⟩
    obtain ⟨h1, h2, u, h3, h4⟩ := hc j hj
    exact ⟨Nat.lt_of_lt_of_le h1 hb.size, h2, u, by rw [hb.cell (p := ⟨a.block, a.off + j, none⟩) h1, h3], h4.below hb⟩
theorem BBE.sl {w : World} {B : Nat} {v : Value} {L : List (List Int)} (h : BBE w B v L) : BBSl w v L := by
  rcases h with h | ⟨a, cap, hv, hcap, hc⟩
  · exact .inl h
  · refine .inr ⟨a, cap, hv, hcap, fun j hj => ?_⟩
    obtain ⟨h1, h2, u, h3, h4⟩ := hc j hj
    exact ⟨h1, h2, u, h3, h4.1⟩

/-- A [][]byte of one's own, from block B on, that reads as L. -/
def BBR (w : World) (B : Nat) (v : Value) (L : List (List Int)) : Prop :=
  ∃ vs : List Value, vs.length = L.length ∧ (∀ j, j < L.length → BElt w B (vs.getD j undef) (L.getD j [])) ∧ w.ownsRow B 59 1 v L.length vs
theorem bbr_nil (w : World) (B : Nat) : BBR w B (.slice none 0 0) [] := ⟨[], rfl, fun j hj => absurd hj (Nat.not_lt_zero _), World.ownsRow_nil _ _ _ _⟩
theorem BBR.be {w : World} {B : Nat} {v : Value} {L : List (List Int)} (h : BBR w B v L) : BBE w B v L := by
  obtain ⟨vs, hl, hr, ho⟩ := h
  rcases ho.2 with ⟨hv, hl0⟩ | ⟨g, cap, cur, hv, hg, hh, hnc, hcm, hcs, ht⟩
  · exact .inl ⟨hv, List.eq_nil_of_length_eq_zero hl0⟩
  · refine .inr ⟨_, cap, hv, hnc, fun j hj => ⟨(Array.getElem?_eq_some_iff.1 hh).1, rfl, vs.getD j undef, ?_, hr j hj⟩⟩
    show w.cell? ⟨g, 0 + j, none⟩ = _
    rw [Nat.zero_add, cell_of_row _ _ _ _ _ _ hh]
    have : (cur.toList.take (L.length * 1))[j]? = vs[j]? := by rw [ht]
    rw [List.getElem?_take, if_pos (by omega)] at this
    simpa [List.getD_eq_getElem?_getD, show j < vs.length by omega] using this
theorem BBR.sl {w : World} {B : Nat} {v : Value} {L : List (List Int)} (h : BBR w B v L) : BBSl w v L := h.be.sl
theorem BBR.below {w w' : World} {B : Nat} {v : Value} {L : List (List Int)} (h : BBR w B v L) (hb : Below w.heap.size w w') : BBR w' B v L := by
  obtain ⟨vs, hl, hr, ho⟩ := h
  refine ⟨vs, hl, fun j hj => (hr j hj).below hb, ho.1, ?_⟩
  rcases ho.2 with h | ⟨g, cap, cur, hv, hg, hh, r⟩
  · exact .inl h
  · exact .inr ⟨g, cap, cur, hv, hg, by rw [hb.block g (Array.getElem?_eq_some_iff.1 hh).1]; exact hh, r⟩
theorem infoBy : (Tryz.prog.info? 59).map (fun i => (i.zero, i.size, i.bytes)) = some (some (.slice none 0 0), 1, 24) := by kernel_rfl
/-- A [][]byte of one, just made. -/
theorem bbr_one {w1 : World} {B : Nat} {x : Value} {l : List Int} (hx : BElt w1 B x l) (hB : B ≤ w1.heap.size) :
    BBR (w1.alloc (.cells #[x] 59)) B (.slice (some ⟨w1.heap.size, 0, none⟩) 1 1) [l] := by
  refine ⟨[x], rfl, fun j hj => ?_, rfl, .inr ⟨w1.heap.size, 1, #[x], rfl, hB, heap_alloc_new w1 _, Nat.le_refl _, by decide, rfl, rfl⟩⟩
  obtain rfl : j = 0 := by simpa using hj
  exact hx.below (below_box _ _)
/-- append of a [][]byte that is there onto one of one's own. -/
theorem run_append_bbs (S : TypeId) (hS : Tryz.prog.underlying S = some (.slice 59)) (w : World) (B : Nat) (ty : TypeId) (v : Value) (L : List (List Int)) (hown : BBR w B v L) (u : Value) (M : List (List Int)) (hr : BBE w B u M)
    (hlen : L.length + M.length ≤ 1000000) (hB : B ≤ w.heap.size) :
    ∃ v' w', (Builtin.append_ #[S, S] ty #[v, u]).run Tryz.prog w = .ok v' w' ∧ BBR w' B v' (L ++ M) ∧ Below B w w' ∧ w.grownBy w' v.ownBlock := by
  obtain ⟨t, h2, h3, h4, h5⟩ := info_parts infoBy
  obtain ⟨vs, hvl, hve, ho⟩ := hown
  rcases hr with ⟨rfl, rfl⟩ | ⟨⟨b, off, spot⟩, cap, rfl, hcap, hc⟩
  · have hrun := run_append_owned_none (P := Tryz.prog) (w := w) B S ty 59 t 1 hS h2 v L.length vs ho
    exact ⟨v, w, hrun, by rw [List.append_nil]; exact ⟨vs, hvl, hve, ho⟩, Below.refl _ _, World.grownBy.refl w _⟩
  · have hex : ∀ j, j < M.length → ∃ x, w.cell? ⟨b, off + j, none⟩ = some x ∧ BElt w B x (M.getD j []) := fun j hj => (hc j hj).2.2
    obtain ⟨f, hf⟩ : ∃ f : Nat → Value, ∀ j, j < M.length → w.cell? ⟨b, off + j, none⟩ = some (f j) ∧ BElt w B (f j) (M.getD j []) := by
      refine ⟨fun j => if hj : j < M.length then (hex j hj).choose else undef, fun j hj => ?_⟩
      simp only [hj, dif_pos]
      exact (hex j hj).choose_spec
    have hsp : 0 < M.length → spot = none := fun h0 => (hc 0 h0).2.1
    have hcells : ∀ j x, ((List.range M.length).map f)[j]? = some x → w.cell? (Addr.add ⟨b, off, spot⟩ j) = some x := fun j x hj => by
      have hjl : j < M.length := by simpa using (List.getElem?_eq_some_iff.1 hj).1
      obtain rfl := hsp (by omega)
      rw [Addr.add_lit, (hf j hjl).1, ← hj]
      simp [hjl]
    obtain ⟨v', w', hrun, h6, h7, _⟩ := run_append_own (P := Tryz.prog) w B S ty 59 t _ 1 24 hS h2 h3 h4 h5 rfl (by decide) v L.length vs ho ⟨b, off, spot⟩ M.length cap ((List.range M.length).map f) (by simp) hcells (fun x hx => by
      obtain ⟨j, hj, rfl⟩ := List.mem_map.1 hx
      exact (hf j (List.mem_range.1 hj)).2.1.one) (by simp only [maxLen]; omega) (by omega) hB
    have hrow : ∀ g, v.ownBlock = some g → B ≤ g ∧ ∃ cur, w.heap[g]? = some (.cells cur 59 (0, 0)) := fun g hg => by
      rcases ho.2 with ⟨rfl, _⟩ | ⟨g', cap', cur, rfl, hg', hh, _⟩
      · simp [Value.ownBlock] at hg
      · obtain rfl : g' = g := by simpa [Value.ownBlock] using hg
        exact ⟨hg', cur, hh⟩
    refine ⟨v', w', hrun, ⟨vs ++ (List.range M.length).map f, by simp [hvl], fun j hj => ?_, by rw [List.length_append]; exact h6⟩, (Below.refl _ _).grown h7 hB fun k hk => (World.ownsRow.lt ho k hk).1, h7⟩
    rw [List.length_append] at hj
    by_cases e : j < L.length
    · have := (hve j e).grown hrow h7
      rw [List.getD_eq_getElem?_getD, List.getD_eq_getElem?_getD, List.getElem?_append_left (by omega), List.getElem?_append_left e, ← List.getD_eq_getElem?_getD, ← List.getD_eq_getElem?_getD]
      exact this
    · have hjm : j - L.length < M.length := by omega
      have := (hf (j - L.length) hjm).2.grown hrow h7
      rw [List.getD_eq_getElem?_getD, List.getD_eq_getElem?_getD, List.getElem?_append_right (by omega), List.getElem?_append_right (by omega), hvl]
      rw [List.getD_eq_getElem?_getD] at this
      simpa [hjm] using this
theorem wpList_append_bbs (S : TypeId) (hS : Tryz.prog.underlying S = some (.slice 59)) (w : World) {ops : Array Oper} {rest : List Oper} {o : Oper} {a : Act} {Q : Exit → Act → World → Prop} (hgd : o.guard = none) (s y : Operand)
    (ho : o.op = .call { callee := .builtin .append, args := #[s, y], argTypes := #[S, S] })
    (B : Nat) (v : Value) (L : List (List Int)) (hs : a.eval s = v) (hown : BBR w B v L) (u : Value) (M : List (List Int)) (hy : a.eval y = u) (hr : BBE w B u M)
    (hlen : L.length + M.length ≤ 1000000) (hB : B ≤ w.heap.size)
    (h : ∀ v' w', BBR w' B v' (L ++ M) → Below B w w' → wpList Tryz.prog ops Q rest (a.put o.dst v') w') : wpList Tryz.prog ops Q (o :: rest) a w := by
  obtain ⟨v', w', hr, h2, h3, _⟩ := run_append_bbs S hS w B o.type v L hown u M hr hlen hB
  refine wpList_plain hgd fun K hK => ?_
  unfold Oper.wp execOp
  simp only [ho, resolve, invoke, builtin, Sem.run_bind, Sem.run_pure, Result.andThen_ok, List.map_toArray, List.map_cons, List.map_nil, hs, hy, hr]
  exact hK _ _ (h v' w' h2 h3)
/-- append of one []byte onto a [][]byte of one's own (its cell lies in the block that was made last, at g). -/
theorem wpList_append_bb (S : TypeId) (hS : Tryz.prog.underlying S = some (.slice 59)) (w1 : World) (x : Value) (l : List Int) {ops : Array Oper} {rest : List Oper} {o : Oper} {a : Act} {Q : Exit → Act → World → Prop} (hgd : o.guard = none) (s y : Operand)
    (ho : o.op = .call { callee := .builtin .append, args := #[s, y], argTypes := #[S, S] })
    (B : Nat) (v : Value) (L : List (List Int)) (hs : a.eval s = v) (hown : BBR w1 B v L) (hx : BElt w1 B x l) (q : Nat) (hy : a.eval y = .slice (some ⟨q, 0, none⟩) 1 1) (hq : q = w1.heap.size) (hlen : L.length ≤ 100000) (hB : B ≤ w1.heap.size)
    (h : ∀ v' w', BBR w' B v' (L ++ [l]) → Below B w1 w' → wpList Tryz.prog ops Q rest (a.put o.dst v') w') : wpList Tryz.prog ops Q (o :: rest) a (w1.alloc (.cells #[x] 59)) := by
  subst hq
  have hbel : Below w1.heap.size w1 (w1.alloc (.cells #[x] 59)) := below_box _ _
  refine wpList_append_bbs S hS _ hgd s y ho B v L hs (hown.below hbel) _ [l] hy (bbr_one hx hB).be (by simp; omega) (by simp; omega) fun v' w' h1 h2 => ?_
  exact h v' w' h1 ((hbel.mono hB).trans h2)
/-- The same, the row from block B on, the elements below block E or in rows of bytes. -/
def BB2 (w : World) (B E : Nat) (v : Value) (L : List (List Int)) : Prop :=
  ∃ vs : List Value, vs.length = L.length ∧ (∀ j, j < L.length → BElt w E (vs.getD j undef) (L.getD j [])) ∧ w.ownsRow B 59 1 v L.length vs
theorem BB2.lower {w : World} {B B' E : Nat} {v : Value} {L : List (List Int)} (h : BB2 w B E v L) (hB : B' ≤ B) : BB2 w B' E v L := by
  obtain ⟨vs, hl, hr, ho⟩ := h
  exact ⟨vs, hl, hr, ho.1, ho.2.imp id fun ⟨g, cap, cur, hv, hg, r⟩ => ⟨g, cap, cur, hv, Nat.le_trans hB hg, r⟩⟩
theorem BB2.bbr {w : World} {B : Nat} {v : Value} {L : List (List Int)} (h : BB2 w B B v L) : BBR w B v L := h
theorem BBR.bb2 {w : World} {B : Nat} {v : Value} {L : List (List Int)} (h : BBR w B v L) : BB2 w B B v L := h
theorem BB2.zero {w : World} {B : Nat} {v : Value} {L : List (List Int)} (h : BB2 w B 0 v L) : BBR w 0 v L := h.lower (Nat.zero_le _)
theorem BB2.below {w w' : World} {B E : Nat} {v : Value} {L : List (List Int)} (h : BB2 w B E v L) (hb : Below w.heap.size w w') : BB2 w' B E v L := by
  obtain ⟨vs, hl, hr, ho⟩ := h
  refine ⟨vs, hl, fun j hj => (hr j hj).below hb, ho.1, ?_⟩
  rcases ho.2 with h | ⟨g, cap, cur, hv, hg, hh, r⟩
  · exact .inl h
  · exact .inr ⟨g, cap, cur, hv, hg, by rw [hb.block g (Array.getElem?_eq_some_iff.1 hh).1]; exact hh, r⟩
theorem bb2_one {w1 : World} {B E : Nat} {x : Value} {l : List Int} (hx : BElt w1 E x l) (hB : B ≤ w1.heap.size) :
    BB2 (w1.alloc (.cells #[x] 59)) B E (.slice (some ⟨w1.heap.size, 0, none⟩) 1 1) [l] := by
  refine ⟨[x], rfl, fun j hj => ?_, rfl, .inr ⟨w1.heap.size, 1, #[x], rfl, hB, heap_alloc_new w1 _, Nat.le_refl _, by decide, rfl, rfl⟩⟩
  obtain rfl : j = 0 := by simpa using hj
  exact hx.below (below_box _ _)
theorem run_append_bb2 (S : TypeId) (hS : Tryz.prog.underlying S = some (.slice 59)) (w : World) (B E : Nat) (hEB : E ≤ B) (ty : TypeId) (v : Value) (L : List (List Int)) (hown : BB2 w B E v L) (u : Value) (M : List (List Int)) (hr : BBE w E u M)
    (hlen : L.length + M.length ≤ 1000000) (hB : B ≤ w.heap.size) :
    ∃ v' w', (Builtin.append_ #[S, S] ty #[v, u]).run Tryz.prog w = .ok v' w' ∧ BB2 w' B E v' (L ++ M) ∧ Below B w w' ∧ w.grownBy w' v.ownBlock := by
  obtain ⟨t, h2, h3, h4, h5⟩ := info_parts infoBy
  obtain ⟨vs, hvl, hve, ho⟩ := hown
  rcases hr with ⟨rfl, rfl⟩ | ⟨⟨b, off, spot⟩, cap, rfl, hcap, hc⟩
  · have hrun := run_append_owned_none (P := Tryz.prog) (w := w) B S ty 59 t 1 hS h2 v L.length vs ho
    exact ⟨v, w, hrun, by rw [List.append_nil]; exact ⟨vs, hvl, hve, ho⟩, Below.refl _ _, World.grownBy.refl w _⟩
  · have hex : ∀ j, j < M.length → ∃ x, w.cell? ⟨b, off + j, none⟩ = some x ∧ BElt w E x (M.getD j []) := fun j hj => (hc j hj).2.2
    obtain ⟨f, hf⟩ : ∃ f : Nat → Value, ∀ j, j < M.length → w.cell? ⟨b, off + j, none⟩ = some (f j) ∧ BElt w E (f j) (M.getD j []) := by
      refine ⟨fun j => if hj : j < M.length then (hex j hj).choose else undef, fun j hj => ?_⟩
      simp only [hj, dif_pos]
      exact (hex j hj).choose_spec
    have hsp : 0 < M.length → spot = none := fun h0 => (hc 0 h0).2.1
    have hcells : ∀ j x, ((List.range M.length).map f)[j]? = some x → w.cell? (Addr.add ⟨b, off, spot⟩ j) = some x := fun j x hj => by
      have hjl : j < M.length := by simpa using (List.getElem?_eq_some_iff.1 hj).1
      obtain rfl := hsp (by omega)
      rw [Addr.add_lit, (hf j hjl).1, ← hj]
      simp [hjl]
    obtain ⟨v', w', hrun, h6, h7, _⟩ := run_append_own (P := Tryz.prog) w B S ty 59 t _ 1 24 hS h2 h3 h4 h5 rfl (by decide) v L.length vs ho ⟨b, off, spot⟩ M.length cap ((List.range M.length).map f) (by simp) hcells (fun x hx => by
      obtain ⟨j, hj, rfl⟩ := List.mem_map.1 hx
      exact (hf j (List.mem_range.1 hj)).2.1.one) (by simp only [maxLen]; omega) (by omega) hB
    have hrow : ∀ g, v.ownBlock = some g → E ≤ g ∧ ∃ cur, w.heap[g]? = some (.cells cur 59 (0, 0)) := fun g hg => by
      rcases ho.2 with ⟨rfl, _⟩ | ⟨g', cap', cur, rfl, hg', hh, _⟩
      · simp [Value.ownBlock] at hg
      · obtain rfl : g' = g := by simpa [Value.ownBlock] using hg
        exact ⟨Nat.le_trans hEB hg', cur, hh⟩
    refine ⟨v', w', hrun, ⟨vs ++ (List.range M.length).map f, by simp [hvl], fun j hj => ?_, by rw [List.length_append]; exact h6⟩, (Below.refl _ _).grown h7 hB fun k hk => (World.ownsRow.lt ho k hk).1, h7⟩
    rw [List.length_append] at hj
    by_cases e : j < L.length
    · have := (hve j e).grown hrow h7
      rw [List.getD_eq_getElem?_getD, List.getD_eq_getElem?_getD, List.getElem?_append_left (by omega), List.getElem?_append_left e, ← List.getD_eq_getElem?_getD, ← List.getD_eq_getElem?_getD]
      exact this
    · have hjm : j - L.length < M.length := by omega
      have := (hf (j - L.length) hjm).2.grown hrow h7
      rw [List.getD_eq_getElem?_getD, List.getD_eq_getElem?_getD, List.getElem?_append_right (by omega), List.getElem?_append_right (by omega), hvl]
      rw [List.getD_eq_getElem?_getD] at this
      simpa [hjm] using this
theorem wpList_append_bb2 (S : TypeId) (hS : Tryz.prog.underlying S = some (.slice 59)) (w : World) {ops : Array Oper} {rest : List Oper} {o : Oper} {a : Act} {Q : Exit → Act → World → Prop} (hgd : o.guard = none) (s y : Operand)
    (ho : o.op = .call { callee := .builtin .append, args := #[s, y], argTypes := #[S, S] })
    (B E : Nat) (hEB : E ≤ B) (v : Value) (L : List (List Int)) (hs : a.eval s = v) (hown : BB2 w B E v L) (u : Value) (M : List (List Int)) (hy : a.eval y = u) (hr : BBE w E u M)
    (hlen : L.length + M.length ≤ 1000000) (hB : B ≤ w.heap.size)
    (h : ∀ v' w', BB2 w' B E v' (L ++ M) → Below B w w' → wpList Tryz.prog ops Q rest (a.put o.dst v') w') : wpList Tryz.prog ops Q (o :: rest) a w := by
  obtain ⟨v', w', hr, h2, h3, _⟩ := run_append_bb2 S hS w B E hEB o.type v L hown u M hr hlen hB
  refine wpList_plain hgd fun K hK => ?_
  unfold Oper.wp execOp
  simp only [ho, resolve, invoke, builtin, Sem.run_bind, Sem.run_pure, Result.andThen_ok, List.map_toArray, List.map_cons, List.map_nil, hs, hy, hr]
  exact hK _ _ (h v' w' h2 h3)
/-- append of one []byte onto such a [][]byte (its cell lies in the block that was made last, at q). -/
theorem wpList_append_bb2one (S : TypeId) (hS : Tryz.prog.underlying S = some (.slice 59)) (w1 : World) (x : Value) (l : List Int) {ops : Array Oper} {rest : List Oper} {o : Oper} {a : Act} {Q : Exit → Act → World → Prop} (hgd : o.guard = none) (s y : Operand)
    (ho : o.op = .call { callee := .builtin .append, args := #[s, y], argTypes := #[S, S] })
    (B E : Nat) (hEB : E ≤ B) (v : Value) (L : List (List Int)) (hs : a.eval s = v) (hown : BB2 w1 B E v L) (hx : BElt w1 E x l) (q : Nat) (hy : a.eval y = .slice (some ⟨q, 0, none⟩) 1 1) (hq : q = w1.heap.size) (hlen : L.length ≤ 100000) (hB : B ≤ w1.heap.size)
    (h : ∀ v' w', BB2 w' B E v' (L ++ [l]) → Below B w1 w' → wpList Tryz.prog ops Q rest (a.put o.dst v') w') : wpList Tryz.prog ops Q (o :: rest) a (w1.alloc (.cells #[x] 59)) := by
  subst hq
  have hbel : Below w1.heap.size w1 (w1.alloc (.cells #[x] 59)) := below_box _ _
  have h1 : BBE (w1.alloc (.cells #[x] 59)) E (.slice (some ⟨w1.heap.size, 0, none⟩) 1 1) [l] := (bbr_one hx (B := E) (Nat.le_trans hEB hB)).be
  refine wpList_append_bb2 S hS _ hgd s y ho B E hEB v L hs (hown.below hbel) _ [l] hy h1 (by simp; omega) (by simp; omega) fun v' w' h1 h2 => ?_
  exact h v' w' h1 ((hbel.mono hB).trans h2)
end Go.Proofs.YtigbhdgcjklhoaaGreat
