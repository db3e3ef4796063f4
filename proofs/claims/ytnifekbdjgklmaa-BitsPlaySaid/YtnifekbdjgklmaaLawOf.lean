/- The law BitsOf: the walk of the law itself. -/
import Derived.Test.YtnifekbdjgklmaaSameH
import Derived.Test.YtnifekbdjgklmaaRefOf
namespace Go.Proofs.Ytnifekbdjgklmaa
open Go.RowKit BM

theorem same1_c {w0 w : World} {p g q r : Nat} {L : List Bool} (h : BRow w0 p g L) (k : RRow w0 q r L) (hb : Below w0.heap.size w0 w) :
    Calls Try.prog 17 #[.pointer (some ⟨p, 0, none⟩), .pointer (some ⟨q, 0, none⟩)] w fun e w' => e = .returned (.bool true) ∧ Below w0.heap.size w0 w' :=
  (same1_any (h.below hb h.lt.1 h.lt.2) (k.below hb k.lt.1 k.lt.2)).mono fun _ _ ⟨he, h2⟩ => ⟨he, hb.trans (h2.mono hb.size)⟩
theorem bFirst_c {w0 w : World} {p g : Nat} {L : List Bool} (h : BRow w0 p g L) (goal F : Int) (hF : F = firstS L goal) (hb : Below w0.heap.size w0 w) :
    Calls Try.prog 13 #[.pointer (some ⟨p, 0, none⟩), .int .i64 goal] w fun e w' => e = .returned (.int .i64 F) ∧ Below w0.heap.size w0 w' :=
  (bFirst_any (h.below hb h.lt.1 h.lt.2) goal).mono fun _ _ ⟨he, m, hw⟩ => ⟨by rw [he, hF], by rw [hw]; exact below_drewN' hb m⟩
theorem rFirst_c {w0 w : World} {p g : Nat} {L : List Bool} (h : RRow w0 p g L) (goal F : Int) (hF : F = firstS L goal) (hb : Below w0.heap.size w0 w) :
    Calls Try.prog 14 #[.pointer (some ⟨p, 0, none⟩), .int .i64 goal] w fun e w' => e = .returned (.int .i64 F) ∧ Below w0.heap.size w0 w' :=
  (rFirst_any (h.below hb h.lt.1 h.lt.2) goal).mono fun _ _ ⟨he, hw⟩ => ⟨by rw [he, hF], by rw [← hw]; exact hb⟩
theorem bRun_c {w0 w : World} {p g : Nat} {L : List Bool} (h : BRow w0 p g L) (n F : Int) (hF : F = runS L n) (hb : Below w0.heap.size w0 w) :
    Calls Try.prog 15 #[.pointer (some ⟨p, 0, none⟩), .int .i64 n] w fun e w' => e = .returned (.int .i64 F) ∧ Below w0.heap.size w0 w' :=
  (bRun_any (h.below hb h.lt.1 h.lt.2) n).mono fun _ _ ⟨he, m, hw⟩ => ⟨by rw [he, hF], by rw [hw]; exact below_drewN' hb m⟩
theorem rRun_c {w0 w : World} {p g : Nat} {L : List Bool} (h : RRow w0 p g L) (n F : Int) (hF : F = runS L n) (hb : Below w0.heap.size w0 w) :
    Calls Try.prog 16 #[.pointer (some ⟨p, 0, none⟩), .int .i64 n] w fun e w' => e = .returned (.int .i64 F) ∧ Below w0.heap.size w0 w' :=
  (rRun_any (h.below hb h.lt.1 h.lt.2) n).mono fun _ _ ⟨he, hw⟩ => ⟨by rw [he, hF], by rw [← hw]; exact hb⟩

theorem lOf_long (n a b : Int) (ao : Option Addr) (len cap : Nat) (w : World) (h : 1000 < len) :
    Calls Try.prog 4 #[.int .i64 n, .slice ao len cap, .int .i64 a, .int .i64 b] w fun e w' => e = .returned (.bool true) ∧ Below w.heap.size w w' := by
  have hb00 : Below w.heap.size w w := Below.refl _ _
  go_enter Try.func4, Try.ntmps4
  go_wp2_with (go_at_call 6; refine (awake1_from (by assumption)).mono ?_; rintro e w1 ⟨rfl, hb⟩)
  go_ret
  exact ⟨rfl, hb⟩

theorem lOf_range {w : World} {v : Value} {l : List Int} (hs : BSl w v l) (n a b : Int) (hl : l.length ≤ 1000) (h : n < 0 ∨ 4096 < n) :
    Calls Try.prog 4 #[.int .i64 n, v, .int .i64 a, .int .i64 b] w fun e w' => e = .returned (.bool true) ∧ Below w.heap.size w w' := by
  obtain ⟨ao, cap, rfl⟩ := hs.shape
  go_enter Try.func4, Try.ntmps4
  go_wp2_with (first
    | (go_at_call 6; refine (awake1_any _).mono ?_; rintro e w1 ⟨rfl, hb⟩)
    | (go_at_call 18; refine (bOf_range n _ _ h).mono ?_; rintro e w2 ⟨rfl, rfl⟩)
    | (go_at_call 19; refine (rOf_range n _ _ h).mono ?_; rintro e w3 ⟨rfl, rfl⟩))
  go_ret
  exact ⟨rfl, hb⟩

theorem rOf_bad {w0 w : World} {v : Value} {l : List Int} (hs : BSl w0 v l) (hb : Below w0.heap.size w0 w) (n : Nat) (h1 : n ≤ 4096) (hg : ¬ BGood n l) :
    Calls Try.prog 19 #[.int .i64 n, v] w fun e w' => e = .returned (.tuple #[.pointer none, .int .i64 18]) ∧ Below w0.heap.size w0 w' :=
  (rOf_any (hs.below hb) n h1).mono fun e w' he => by
    rcases he with ⟨h, _⟩ | ⟨_, h2, h3⟩
    · exact absurd h hg
    · exact ⟨h2, hb.trans (h3.mono hb.size)⟩
theorem rOf_good {w0 w : World} {v : Value} {l : List Int} (hs : BSl w0 v l) (hb : Below w0.heap.size w0 w) (n : Nat) (h1 : n ≤ 4096) (hg : BGood n l) (L : List Bool) (hL : bitsOf n l = L) :
    Calls Try.prog 19 #[.int .i64 n, v] w fun e w' => ∃ q r, e = .returned (.tuple #[.pointer (some ⟨q, 0, none⟩), .int .i64 0]) ∧ RRow w' q r L ∧ Below w0.heap.size w0 w' ∧ Below w.heap.size w w' :=
  (rOf_any (hs.below hb) n h1).mono fun e w' he => by
    rcases he with ⟨_, q, r, h2, h3, h4, _⟩ | ⟨h, _⟩
    · exact ⟨q, r, h2, by rw [← hL]; exact h3, hb.trans (h4.mono hb.size), h4⟩
    · exact absurd hg h

theorem lOf_bad {w : World} {v : Value} {l : List Int} (hs : BSl w v l) (n : Nat) (a b : Int) (hl : l.length ≤ 1000) (h1 : n ≤ 4096) (hg : ¬ BGood n l) :
    Calls Try.prog 4 #[.int .i64 n, v, .int .i64 a, .int .i64 b] w fun e w' => e = .returned (.bool true) ∧ Below w.heap.size w w' := by
  obtain ⟨ao, cap, rfl⟩ := hs.shape
  go_enter Try.func4, Try.ntmps4
  go_wp2_with (first
    | (go_at_call 6; refine (awake1_any _).mono ?_; rintro e w1 ⟨rfl, hb⟩)
    | (go_at_call 18; refine (bOf_bad' hs hb n h1 hg).mono ?_; rintro e w2 ⟨rfl, rfl⟩)
    | (go_at_call 19; refine (rOf_bad hs hb n h1 hg).mono ?_; rintro e w3 ⟨rfl, hb3⟩))
  go_ret
  exact ⟨rfl, hb3⟩

set_option maxHeartbeats 6000000 in
theorem lOf_good {w : World} {v : Value} {l : List Int} (hs : BSl w v l) (n : Nat) (a b : Int) (hl : l.length ≤ 1000) (h1 : n ≤ 4096) (hg : BGood n l) :
    Calls Try.prog 4 #[.int .i64 n, v, .int .i64 a, .int .i64 b] w fun e w' => e = .returned (.bool true) ∧ Below w.heap.size w w' := by
  obtain ⟨ao, cap, rfl⟩ := hs.shape
  obtain ⟨L, hL⟩ : ∃ L, bitsOf n l = L := ⟨_, rfl⟩
  have hrep : Rep l L := by rw [← hL]; exact rep_bitsOf hg hs.1
  obtain ⟨F, hF⟩ : ∃ F, F = firstS L a := ⟨_, rfl⟩
  obtain ⟨R, hR⟩ : ∃ R, R = runS L b := ⟨_, rfl⟩
  have HL := Lib.hid hL
  have HF := Lib.hid hF
  have HR := Lib.hid hR
  clear hL hF hR
  go_enter Try.func4, Try.ntmps4
  go_wp2_with (first
    | (go_at_call 6; refine (awake1_any _).mono ?_; rintro e w1 ⟨rfl, hb⟩)
    | (go_at_call 18; refine (bOf_L hs hb n h1 hg L HL.out).mono ?_; rintro e w2 ⟨p, g, rfl, hr2, hb2⟩)
    | (go_at_call 19; refine (rOf_good hs hb2 n h1 hg L HL.out).mono ?_; rintro e u ⟨q, r, rfl, hk, hbu, hb2u⟩))
  have hr := hr2.below hb2u hr2.lt.1 hr2.lt.2
  have hcb := conv_later (hs.below hbu)
  have hrefl : ∀ W : World, Below W.heap.size W W := fun W => Below.refl _ _
  have hb0 : Below u.heap.size u u.drew := (Below.refl _ _).drew
  clear hr2 hb2 hb2u hb hs
  go_region_held (fun W => Below u.heap.size u W) (go_keep) (first
    | (go_at_call 17; refine (same1_c hr hk hb0).mono ?_; rintro e w1 ⟨rfl, hb1⟩)
    | (go_at_call 20; refine (bBytes_c hr l hrep hb1).mono ?_; rintro e w2 ⟨v1, rfl, hv1, hb2⟩)
    | (go_at_call 13; refine (bFirst_c hr a F HF.out hb2).mono ?_; rintro e w3 ⟨rfl, hb3⟩)
    | (go_at_call 14; refine (rFirst_c hk a F HF.out hb3).mono ?_; rintro e w4 ⟨rfl, hb4⟩)
    | (go_at_call 15; refine (bRun_c hr b R HR.out hb4).mono ?_; rintro e w5 ⟨rfl, hb5⟩)
    | (go_at_call 16; refine (rRun_c hk b R HR.out hb5).mono ?_; rintro e w6 ⟨rfl, hb6⟩))
  all_goals go_wp2_with fail
  all_goals go_ret
  all_goals exact ⟨rfl, hbu.trans (hb6.mono hbu.size)⟩

theorem lOf_any {w : World} {v : Value} {l : List Int} (hs : BSl w v l) (n a b : Int) :
    Calls Try.prog 4 #[.int .i64 n, v, .int .i64 a, .int .i64 b] w fun e w' => e = .returned (.bool true) ∧ Below w.heap.size w w' := by
  by_cases hl : l.length ≤ 1000
  · by_cases h : 0 ≤ n ∧ n ≤ 4096
    · obtain ⟨k, rfl⟩ : ∃ k : Nat, n = k := ⟨n.toNat, by omega⟩
      by_cases hg : BGood k l
      · exact lOf_good hs k a b hl (by omega) hg
      · exact lOf_bad hs k a b hl (by omega) hg
    · exact lOf_range hs n a b hl (by omega)
  · obtain ⟨ao, cap, rfl⟩ := hs.shape
    exact lOf_long n a b ao _ cap w (by omega)

end Go.Proofs.Ytnifekbdjgklmaa
