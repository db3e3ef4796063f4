/- Contract of bits.Of: a row for good bytes, an error for others. -/
import Derived.Test.YtflkggoknmgbnaaBitsD
namespace Go.Proofs.Ytflkggoknmgbnaa
open Go.RowKit BM

theorem bOf_range (n : Int) (v : Value) (w : World) (h : n < 0 ∨ 4096 < n) :
    Calls Try.prog 38 #[.int .i64 n, v] w fun e w' => e = .returned (.tuple #[.pointer none, .int .i64 1]) ∧ w = w' := by
  by_cases h1 : n < 0
  · go_enter Try.func38, Try.ntmps38
    go_wp2_with fail
    go_ret2
    exact ⟨rfl, rfl⟩
  · have h2 : 4096 < n := by omega
    go_enter Try.func38, Try.ntmps38
    go_wp2_with fail
    go_ret2
    exact ⟨rfl, rfl⟩

theorem bOf_len (n : Nat) (ao : Option Addr) (len cap : Nat) (w : World) (h1 : n ≤ 4096) (h : len ≠ (n + 7) / 8) :
    Calls Try.prog 38 #[.int .i64 n, .slice ao len cap] w fun e w' => e = .returned (.tuple #[.pointer none, .int .i64 18]) ∧ w = w' := by
  obtain ⟨N, hN⟩ : ∃ N, N = (n + 7) / 8 := ⟨_, rfl⟩
  have HN := Lib.hid hN
  have hne : ((len : Int) != (N : Int)) = true := by simp; omega
  clear hN h
  go_enter Try.func38, Try.ntmps38
  go_wp2_with (go_at_call 49; refine (bSize_nat n n N _ rfl h1 HN.out).mono ?_; rintro e w' ⟨rfl, rfl⟩)
  go_ret2
  exact ⟨rfl, rfl⟩

theorem bOf_used (n b off len cap : Nat) (x : Int) (w : World) (h1 : n ≤ 4096) (h : len = (n + 7) / 8) (h8 : n % 8 ≠ 0)
    (hx : w.cell? ⟨b, off + (len - 1), none⟩ = some (.int .u8 x)) (hb : (x / 2 ^ (n % 8) != 0) = true) :
    Calls Try.prog 38 #[.int .i64 n, .slice (some ⟨b, off, none⟩) len cap] w fun e w' => e = .returned (.tuple #[.pointer none, .int .i64 18]) ∧ w = w' := by
  have HN := Lib.hid h
  have HB := Lib.hid hb
  have hl0 : 0 < len := by omega
  have hl1 : len ≤ 1000000 := by omega
  clear h hb
  go_enter Try.func38, Try.ntmps38
  go_wp2_with (first
    | (go_at_call 49; refine (bSize_nat n n len _ rfl h1 HN.out).mono ?_; rintro e w' ⟨rfl, rfl⟩)
    | (go_at_call 53; refine (bUnused_at n len cap b off x w h1 h8 hl0 hl1 hx).mono ?_; rw [HB.out]; rintro e w' ⟨rfl, rfl⟩))
  go_ret2
  exact ⟨rfl, rfl⟩

/-- unusedSet says no. -/
theorem bUnused_no {w : World} {v : Value} {l : List Int} (hs : BSl w v l) (n : Nat) (h1 : n ≤ 4096) (hg : BGood n l) :
    Calls Try.prog 53 #[.int .i64 n, v] w fun e w' => e = .returned (.bool false) ∧ w = w' := by
  by_cases h8 : n % 8 = 0
  · exact bUnused_zero n v w h1 h8
  · have hgi := (good_iff n l hg.1 hs.1).1 hg
    have hlen := hg.1
    rcases hs.2 with ⟨_, hl⟩ | ⟨⟨b, off, spot⟩, cap, rfl, _, hc⟩
    · rw [hl] at hlen; simp at hlen; omega
    · obtain ⟨_, hsp, hx⟩ := hc (l.length - 1) (by omega)
      obtain rfl : spot = none := hsp
      refine (bUnused_at n l.length cap b off _ w h1 h8 (by omega) (by omega) hx).mono fun e w' ⟨he, hw⟩ => ⟨?_, hw⟩
      rw [he]
      rcases hgi with hgi | hgi
      · exact absurd hgi h8
      · rw [hgi]; rfl

theorem bOf_bad {w : World} {v : Value} {l : List Int} (hs : BSl w v l) (n : Nat) (h1 : n ≤ 4096) (hg : ¬ BGood n l) :
    Calls Try.prog 38 #[.int .i64 n, v] w fun e w' => e = .returned (.tuple #[.pointer none, .int .i64 18]) ∧ w = w' := by
  by_cases hl : l.length = (n + 7) / 8
  · have hgi := mt (good_iff n l hl hs.1).2 hg
    have h8 : n % 8 ≠ 0 := fun h => hgi (.inl h)
    rcases hs.2 with ⟨_, hl0⟩ | ⟨⟨b, off, spot⟩, cap, rfl, _, hc⟩
    · rw [hl0] at hl; simp at hl; omega
    · obtain ⟨_, hsp, hx⟩ := hc (l.length - 1) (by omega)
      obtain rfl : spot = none := hsp
      exact bOf_used n b off l.length cap _ w h1 hl h8 hx (by simp; intro h; exact hgi (.inr h))
  · obtain ⟨ao, cap, rfl, _⟩ := hs.shape
    exact bOf_len n ao l.length cap w h1 hl

/-- The row that New makes for a number in range. -/
theorem bNew_nat (n N : Nat) (h : n ≤ 4096) (w : World) (hN : N = (n + 7) / 8) :
    Calls Try.prog 30 #[.int .i64 n] w fun e w' => e = .returned (.pointer (some ⟨w.heap.size + 1, 0, none⟩)) ∧ Below w.heap.size w w' ∧ Hid (w'.heap.size = w.heap.size + 2) ∧
      Hid (w'.heap[w.heap.size + 1]? = some (.cells #[.int .i64 n, .slice (some ⟨w.heap.size, 0, none⟩) N N] 77 (0, 0))) ∧
      w'.cell? ⟨w.heap.size + 1, 1, none⟩ = some (.slice (some ⟨w.heap.size, 0, none⟩) N N) ∧
      Hid (w'.heap[w.heap.size]? = some (.cells ((List.replicate N (0 : Int)).map (Value.int .u8)).toArray 5 (0, 0))) := by
  refine (bNew_at n n h w (by rw [if_neg (by omega), if_neg (by omega)])).mono fun e w' ⟨he, hr, hb, hz⟩ => ⟨he, hb, hz, ?_⟩
  obtain ⟨_, l, hrep, hp, hg⟩ := hr
  have el := rep_ext hrep (rep_new n)
  subst el
  simp only [List.length_replicate, ← hN] at hp hg
  refine ⟨hp, ?_, hg⟩
  rw [cell_of_row _ _ _ _ _ _ hp]; rfl

theorem copy_src {w w1 : World} {ao : Option Addr} {N cap : Nat} {l : List Int} {g : Nat} (hs : BSl w (.slice ao N cap) l) (hb : Below w.heap.size w w1) :
    0 < (l.map (Value.int .u8)).length → some (⟨g, 0, none⟩ : Addr) = some ⟨g, 0, none⟩ ∧ ∃ ad, ao = some ad ∧ ∀ j v, (l.map (Value.int .u8))[j]? = some v → w1.cell? (ad.add j) = some v := by
  intro hpos
  refine ⟨rfl, ?_⟩
  rcases hs.2 with ⟨_, hl⟩ | ⟨a, c, hv, _, hc⟩
  · rw [hl] at hpos; simp at hpos
  · obtain ⟨rfl, _⟩ : ao = some a ∧ N = l.length := by simpa using ⟨(Value.slice.inj hv).1, (Value.slice.inj hv).2.1⟩
    refine ⟨a, rfl, fun j v hj => ?_⟩
    have hjl : j < l.length := by simpa using (List.getElem?_eq_some_iff.1 hj).1
    obtain ⟨h1, h2, h3⟩ := hc j hjl
    obtain ⟨b, off, spot⟩ := a
    obtain rfl : spot = none := h2
    rw [Addr.add_lit, hb.cell (by exact h1), h3]
    rw [← hj]
    simp [List.getD_eq_getElem?_getD, hjl]

theorem bOf_good {w : World} {v : Value} {l : List Int} (hs : BSl w v l) (n : Nat) (h1 : n ≤ 4096) (hg : BGood n l) :
    Calls Try.prog 38 #[.int .i64 n, v] w fun e w' => ∃ p g, e = .returned (.tuple #[.pointer (some ⟨p, 0, none⟩), .int .i64 0]) ∧
      BRow w' p g (bitsOf n l) ∧ Below w.heap.size w w' ∧ w.heap.size ≤ p ∧ w.heap.size ≤ g := by
  have hl := hg.1
  obtain ⟨ao, cap, rfl, _⟩ := hs.shape
  obtain ⟨N, hN⟩ : ∃ N, N = l.length := ⟨_, rfl⟩
  rw [← hN] at hs ⊢
  have hN2 : N = (n + 7) / 8 := by omega
  have HN := Lib.hid hN
  have HN2 := Lib.hid hN2
  clear hN hN2 hl
  have hcl : (l.map (Value.int .u8)).length = N := by rw [List.length_map, ← HN.out]
  have hmm : N = Nat.min N N := by simp
  have hfit : 0 + (l.map (Value.int .u8)).length ≤ ((List.replicate N (0 : Int)).map (Value.int .u8)).length := by rw [List.length_map, ← HN.out]; simp
  have HC := Lib.hid hcl
  have HF := Lib.hid hfit
  have HM := Lib.hid hmm
  clear hcl hfit hmm
  go_enter Try.func38, Try.ntmps38
  go_wp2_with (first
    | (go_at_call 49; refine (bSize_nat n n N _ rfl h1 HN2.out).mono ?_; rintro e w' ⟨rfl, rfl⟩)
    | (go_at_call 53; refine (bUnused_no hs n h1 hg).mono ?_; rintro e w' ⟨rfl, rfl⟩)
    | (go_at_call 30; refine (bNew_nat n N h1 _ HN2.out).mono ?_; rintro e w1 ⟨rfl, hb1, HZ1, HP1, hs1, HG1⟩)
    | (with_reducible refine wpList_copy_wrote rfl _ _ 23 23 rfl 5 Try.underlying23 (by kernel_rfl) _ _ _ _ _ _ rfl rfl w.heap.size 0 ((List.replicate N (0 : Int)).map (Value.int .u8)) 5 HG1.out (l.map (Value.int .u8)) N HC.out HM.out (copy_src hs hb1) HF.out (ints_oneCell _ _) ?_; intro w2 HG2 HW2))
  refine bodyPost_ret (v := .tuple #[.pointer (some ⟨w.heap.size + 1, 0, none⟩), .int .i64 0]) (by simp [results, Try.results38, go_sem]) rfl ⟨w.heap.size + 1, w.heap.size, rfl, ?_, hb1.trans (HW2.below (Nat.le_refl _)), by omega, by omega⟩
  refine ⟨by rw [length_bitsOf]; exact h1, l, rep_bitsOf hg hs.1, ?_, ?_⟩
  · rw [HW2.2.2.2.2 _ (by omega), HP1.out, length_bitsOf, HN.out]
  · rw [HG2.out, splice_whole _ _ (by rw [List.length_map, ← HN.out]; simp)]

/-- Of, whatever it is given. -/
def ofOut (n : Int) (l : List Int) (w : World) (e : Ending) (w' : World) : Prop :=
  (¬ (0 ≤ n ∧ n ≤ 4096) ∧ e = .returned (.tuple #[.pointer none, .int .i64 1]) ∧ w = w') ∨
  (0 ≤ n ∧ n ≤ 4096 ∧ ¬ BGood n.toNat l ∧ e = .returned (.tuple #[.pointer none, .int .i64 18]) ∧ w = w') ∨
  (0 ≤ n ∧ n ≤ 4096 ∧ BGood n.toNat l ∧ ∃ p g, e = .returned (.tuple #[.pointer (some ⟨p, 0, none⟩), .int .i64 0]) ∧ BRow w' p g (bitsOf n.toNat l) ∧ Below w.heap.size w w' ∧ w.heap.size ≤ p ∧ w.heap.size ≤ g)

theorem bOf_any {w : World} {v : Value} {l : List Int} (hs : BSl w v l) (n : Int) : Calls Try.prog 38 #[.int .i64 n, v] w (ofOut n l w) := by
  by_cases h : 0 ≤ n ∧ n ≤ 4096
  · obtain ⟨k, rfl⟩ : ∃ k : Nat, n = k := ⟨n.toNat, by omega⟩
    by_cases hg : BGood k l
    · exact (bOf_good hs k (by omega) hg).mono fun e w' he => .inr (.inr ⟨h.1, h.2, by simpa using hg, by simpa using he⟩)
    · exact (bOf_bad hs k (by omega) hg).mono fun e w' he => .inr (.inl ⟨h.1, h.2, by simpa using hg, he⟩)
  · exact (bOf_range n v w (by omega)).mono fun e w' he => .inl ⟨h, he⟩

end Go.Proofs.Ytflkggoknmgbnaa
