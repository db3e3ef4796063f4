/- Package disk: SetFuse, Flush, Crash. -/
import Derived.Test.YtibabjhehlmchaaDiskTF
import Derived.Test.YtibabjhehlmchaaDiskTC
import Derived.Test.YtibabjhehlmchaaOp3A
namespace Go.Proofs.Ytibabjhehlmchaa
open Go.RowKit
set_option linter.unusedVariables false

/-- Which Writes a crash keeps. -/
def kpOf (k : List Bool) (i : Nat) : Bool := if k.length = 0 then false else k.getD (i % k.length) false

theorem dCrash1_any {w : World} {hb : Nat} {v : Value} {k : List Bool} {t : TypeId} (hbx : w.heap[hb]? = some (.cells #[v] t (0, 0))) (hk : KSl w v k) (i : Nat) (hi : i ≤ 1000000000) :
    Calls Try.prog 25 #[.int .i64 i, .pointer (some ⟨hb, 0, none⟩)] w fun e w' => e = .returned (.bool (kpOf k i)) ∧ ∃ m, w' = w.drewN m := by
  have c0 : ∀ n, (w.drewN n).cell? ⟨hb, 0, none⟩ = some v := fun n => by show w.cell? _ = _; rw [cell_of_row _ _ _ _ _ _ hbx]; rfl
  rcases hk with ⟨rfl, rfl⟩ | ⟨a, cap, rfl, hc⟩
  · go_enter Try.func25, Try.ntmps25
    go_wp2_with fail
    go_quiet (fail)
    go_wp2
    go_ret
    exact ⟨rfl, _, rfl⟩
  · by_cases h0 : k.length = 0
    · have e : kpOf k i = false := by rw [kpOf, if_pos h0]
      rw [e]
      clear hc e
      go_enter Try.func25, Try.ntmps25
      go_wp2_with fail
      go_quiet (fail)
      go_wp2
      go_ret
      exact ⟨rfl, _, rfl⟩
    · have hlt : i % k.length < k.length := Nat.mod_lt _ (by omega)
      obtain ⟨h1, h2, h3⟩ := hc (i % k.length) hlt
      obtain ⟨b, off, spot⟩ := a
      obtain rfl : spot = none := h2
      have e : kpOf k i = k.getD (i % k.length) false := by rw [kpOf, if_neg h0]
      rw [e]
      obtain ⟨r, hr⟩ : ∃ r, r = k.getD (i % k.length) false := ⟨_, rfl⟩
      rw [← hr] at h3 ⊢
      obtain ⟨j, hj⟩ : ∃ j, j = i % k.length := ⟨_, rfl⟩
      rw [← hj] at h3 hlt
      have hmod : Int.tmod (i : Int) (k.length : Int) = (j : Int) := by rw [hj]; exact (Int.ofNat_tmod _ _).symm
      obtain ⟨L, hL⟩ : ∃ L, L = k.length := ⟨_, rfl⟩
      rw [← hL] at hmod hlt h0 c0
      have hL0 : (0 : Int) < (L : Int) := by omega
      have hLn : ¬ (L : Int) = 0 := by omega
      have hLN : 0 < L := by omega
      have hj0 : (0 : Int) ≤ (j : Int) := by omega
      have hjl : (j : Int) < (L : Int) := by omega
      have cj : ∀ n, (w.drewN n).cell? ⟨b, off + j, none⟩ = some (.bool r) := fun n => h3
      clear hc hj hL e h0 hr
      go_enter Try.func25, Try.ntmps25
      go_wp2_with fail
      go_quiet (fail)
      go_wp2
      go_ret
      exact ⟨rfl, _, rfl⟩
theorem dFlush1_any (w : World) (i : Nat) : Calls Try.prog 24 #[.int .i64 i] w fun e w' => e = .returned (.bool true) ∧ ∃ m, w' = w.drewN m := by
  go_enter Try.func24, Try.ntmps24
  go_wp2
  go_ret
  exact ⟨rfl, 0, rfl⟩

section
variable {w : World} {B bp bf bv : Nat} {u : Value} {F V : List (List Int)} {U : List (Nat × List Int)} {fu dn : Bool} {le : Int}
/-- The fuse and the power turned. -/
theorem DskAt.flags (h : DskAt w B bp bf bv u F V U fu le dn) (i : Nat) (x : Value) (fu' : Bool) (le' : Int) (dn' : Bool)
    (hs : (#[.slice (some ⟨bf, 0, none⟩) F.length F.length, .slice (some ⟨bv, 0, none⟩) V.length V.length, u, .bool fu, .int .i64 le, .bool dn] : Array Value).setIfInBounds i x = #[.slice (some ⟨bf, 0, none⟩) F.length F.length, .slice (some ⟨bv, 0, none⟩) V.length V.length, u, .bool fu', .int .i64 le', .bool dn']) :
    DskAt (w.setCell ⟨bp, i, none⟩ x) B bp bf bv u F V U fu' le' dn' ∧ Below B w (w.setCell ⟨bp, i, none⟩ x) := by
  have oth : ∀ {k : Nat}, k ≠ bp → (w.setCell ⟨bp, i, none⟩ x).heap[k]? = w.heap[k]? := fun hk => heap_setCell_other _ _ _ _ hk
  refine ⟨⟨h.bB, h.ne, ?_, ?_, ?_, ⟨h.hu.1, ?_⟩, h.une, h.okF, h.okV, h.okU, h.len, h.max⟩, (Below.refl _ _).setCell h.bB.1 _⟩
  · have := heap_setCell_same w bp i _ _ x h.hp
    rw [hs] at this; exact this
  · rw [oth (Ne.symm h.ne.1)]; exact h.hf
  · rw [oth (Ne.symm h.ne.2.1)]; exact h.hv
  · rcases h.hu.2 with h0 | ⟨g, cap, cur, hv, hg, hh, r⟩
    · exact .inl h0
    · exact .inr ⟨g, cap, cur, hv, hg, by rw [oth (fun e => h.une.1 (by rw [hv, ← e]; rfl))]; exact hh, r⟩
theorem DskAt.lt (h : DskAt w B bp bf bv u F V U fu le dn) : B ≤ w.heap.size := by
  have h1 := (Array.getElem?_eq_some_iff.1 h.hp).1
  have := h.bB
  omega

theorem dSetFuse_at (h : DskAt w B bp bf bv u F V U fu le dn) (n : Int) :
    Calls Try.prog 15 #[.pointer (some ⟨bp, 0, none⟩), .int .i64 n] w fun e w' => e = .returned (.tuple #[]) ∧ DskAt w' B bp bf bv u F V U (decide (0 ≤ n)) (Max.max n 0) dn ∧ Below B w w' ∧ ∀ g, g ≠ bp → w'.heap[g]? = w.heap[g]? := by
  obtain ⟨h1, b1⟩ := h.flags 3 (.bool (decide (0 ≤ n))) (decide (0 ≤ n)) le dn rfl
  obtain ⟨h2, b2⟩ := h1.flags 4 (.int .i64 (Max.max n 0)) (decide (0 ≤ n)) (Max.max n 0) dn rfl
  have c3 := h.c3
  have f3 := h.fr 3
  have c4 := h1.c4
  have f4 := h1.fr 4
  have r2 : ∀ g, g ≠ bp → ((w.setCell ⟨bp, 3, none⟩ (.bool (decide (0 ≤ n)))).setCell ⟨bp, 4, none⟩ (.int .i64 (Max.max n 0))).heap[g]? = w.heap[g]? := fun g hg => by rw [heap_setCell_other _ _ _ _ hg, heap_setCell_other _ _ _ _ hg]
  have H2 := Lib.hid (And.intro h2 (And.intro (b1.trans b2) r2))
  clear h h1 h2 b1 b2 r2
  go_enter Try.func15, Try.ntmps15
  go_wp2_with fail
  · go_end0
    have h2 := H2.out
    rw [show Max.max n 0 = 0 by omega] at h2 ⊢
    exact ⟨rfl, h2⟩
  · go_end0
    have h2 := H2.out
    rw [show Max.max n 0 = n by omega, decide_eq_true (show 0 ≤ n by omega)] at h2
    rw [show Max.max n 0 = n by omega]
    exact ⟨rfl, h2⟩

/-- Crash: whatever the fuse and the power. -/
theorem dCrash_at (h : DskAt w B bp bf bv u F V U fu le dn) (hUl : U.length ≤ 1000000) {w0 : World} {v : Value} {k : List Bool} (hk : KSl w0 v k) (hB0 : w0.heap.size ≤ B) (hw0 : Below w0.heap.size w0 w) :
    Calls Try.prog 12 #[.pointer (some ⟨bp, 0, none⟩), v] w fun e w' => e = .returned (.tuple #[]) ∧ Dsk w' B (.pointer (some ⟨bp, 0, none⟩)) (stF (kpOf k) U F U.length) (stV U (stF (kpOf k) U F U.length) V U.length) [] ∧ Below B w w' := by
  obtain ⟨ao, cap, rfl⟩ := hk.shape
  have hlt := h.lt
  obtain ⟨L, hL⟩ : ∃ L, L = k.length := ⟨_, rfl⟩
  rw [← hL] at hk ⊢
  clear hL
  obtain ⟨h1, b1⟩ := h.flags 5 (.bool false) fu le false rfl
  have c5 := h.c5
  have f5 := h.fr 5
  have hbpl := (Array.getElem?_eq_some_iff.1 h.hp).1
  have hbfl := (Array.getElem?_eq_some_iff.1 h.hf).1
  have hbvl := (Array.getElem?_eq_some_iff.1 h.hv).1
  have hbB := h.bB
  obtain ⟨W1, hW1⟩ : ∃ W1, W1 = w.setCell ⟨bp, 5, none⟩ (.bool false) := ⟨_, rfl⟩
  have s1 : W1.heap.size = w.heap.size := by rw [hW1]; simp [World.setCell]
  rw [← hW1] at h1 b1
  have ba : Below W1.heap.size W1 (W1.alloc (.cells #[.slice ao L cap] 23)) := (Below.refl _ _).alloc (Nat.le_refl _) _
  have h2 := h1.below ba
  have hbx : (W1.alloc (.cells #[.slice ao L cap] 23)).heap[w.heap.size]? = some (.cells #[.slice ao L cap] 23 (0, 0)) := by rw [← s1]; exact heap_alloc_last _ _
  have s2 : (W1.alloc (.cells #[.slice ao L cap] 23)).heap.size = w.heap.size + 1 := by simp [s1]
  have bw2 : Below B w (W1.alloc (.cells #[.slice ao L cap] 23)) := b1.trans (ba.mono (by omega))
  have HW1 := Lib.hid hW1
  have HS2 := Lib.hid s2
  clear hW1 s1 h1 b1 ba s2
  go_enter Try.func12, Try.ntmps12
  go_wp2_with (first
    | (go_at_call 15; rw [← HW1.out]; refine (dSetFuse_at h2 (-1)).mono ?_; rintro e w3 ⟨rfl, h3, b3, r3⟩
       rw [show decide (0 ≤ (-1 : Int)) = false from rfl, show Max.max (-1 : Int) 0 = 0 from rfl] at h3)
    | (go_at_call 23; refine (dSettleC h3 h3.lt hUl (kpOf k) w.heap.size ?_).mono ?_
       rotate_left 1
       rintro e w4 ⟨rfl, h4, b4⟩))
  · go_end0
    exact ⟨rfl, ⟨bp, bf, bv, _, rfl, h4⟩, (bw2.trans b3).trans b4⟩
  · intro W hF i hi
    have hbw3 : w3.heap[w.heap.size]? = some (.cells #[.slice ao L cap] 23 (0, 0)) := by rw [r3 _ (by omega)]; exact hbx
    have hlt3 : w.heap.size < w3.heap.size := (Array.getElem?_eq_some_iff.1 hbw3).1
    refine dCrash1_any (v := .slice ao L cap) (t := 23) (by rw [hF.block _ hlt3 (by omega) (by omega)]; exact hbw3) (hk.below ?_) i (by omega)
    exact (hw0.trans ((bw2.trans b3).mono hB0)).trans ((hF.below hbB.2.1 hbB.2.2 h3.lt).mono hB0)

theorem dFlush_at {p : Value} (h : Dsk w B p F V U) (hUl : U.length ≤ 1000000) :
    Calls Try.prog 11 #[p] w fun e w' => e = .returned (.int .i64 0) ∧ Dsk w' B p (stF (fun _ => true) U F U.length) (stV U (stF (fun _ => true) U F U.length) V U.length) [] ∧ Below B w w' := by
  obtain ⟨bp, bf, bv, u, rfl, h⟩ := h
  go_enter Try.func11, Try.ntmps11
  go_wp2_with (first
    | (go_at_call 21; refine (dPowered_at h).mono ?_; rintro e w' ⟨rfl, rfl⟩)
    | (go_at_call 23; refine (dSettleF h h.lt hUl (fun _ => true) (fun W _ i _ => dFlush1_any W i)).mono ?_
       rintro e w4 ⟨rfl, h4, b4⟩))
  go_ret
  exact ⟨rfl, ⟨bp, bf, bv, _, rfl, h4⟩, b4⟩
end
end Go.Proofs.Ytibabjhehlmchaa
