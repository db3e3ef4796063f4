/- Contracts of package inode: within, isBlock, located, Place; the reference's place, two; the law's ints. -/
import Derived.Test.YtbikbglkecbgjaaInoM
import Derived.Test.YtbikbglkecbgjaaMemI
import Derived.Test.YtbikbglkecbgjaaPackB
import Derived.BigQuiet
namespace Go.Proofs.Ytbikbglkecbgjaa
open Go.RowKit
set_option linter.unusedVariables false

theorem iWithin_is (n m : Int) (B : Bool) (h : decide (0 ≤ n ∧ n ≤ m) = B) (w : World) : Calls Try.prog 28 #[.int .i64 n, .int .i64 m] w fun e w' => e = .returned (.bool B) ∧ w = w' := by
  by_cases h0 : 0 ≤ n
  · by_cases h1 : n ≤ m
    · obtain rfl : B = true := by rw [← h]; exact decide_eq_true ⟨h0, h1⟩
      clear h
      go_enter Try.func28, Try.ntmps28
      go_wp2
      go_ret
      exact ⟨rfl, rfl⟩
    · obtain rfl : B = false := by rw [← h]; exact decide_eq_false fun h => h1 h.2
      clear h
      go_enter Try.func28, Try.ntmps28
      go_wp2
      go_ret
      exact ⟨rfl, rfl⟩
  · obtain rfl : B = false := by rw [← h]; exact decide_eq_false fun h => h0 h.1
    clear h
    go_enter Try.func28, Try.ntmps28
    go_wp2
    go_ret
    exact ⟨rfl, rfl⟩
theorem iIsBlock_is (n : Int) (B : Bool) (h : inB n = B) (w : World) : Calls Try.prog 30 #[.int .i64 n] w fun e w' => e = .returned (.bool B) ∧ w = w' := by
  have K := Lib.hid (iWithin_is n 767 B h)
  clear h
  go_enter Try.func30, Try.ntmps30
  go_wp2_with (go_at_call 28; refine (K.out _).mono ?_; rintro e w' ⟨rfl, rfl⟩)
  go_ret
  exact ⟨rfl, rfl⟩
theorem rPlace_is (n : Int) (B : Bool) (h : inB n = B) (w : World) : Calls Try.prog 31 #[.int .i64 n] w fun e w' => e = .returned (.bool B) ∧ w = w' := by
  by_cases h0 : 0 ≤ n
  · by_cases h1 : n ≤ 767
    · obtain rfl : B = true := by rw [← h]; exact decide_eq_true ⟨h0, h1⟩
      clear h
      go_enter Try.func31, Try.ntmps31
      go_wp2
      go_ret
      exact ⟨rfl, rfl⟩
    · obtain rfl : B = false := by rw [← h]; exact decide_eq_false fun h => h1 h.2
      clear h
      go_enter Try.func31, Try.ntmps31
      go_wp2
      go_ret
      exact ⟨rfl, rfl⟩
  · obtain rfl : B = false := by rw [← h]; exact decide_eq_false fun h => h0 h.1
    clear h
    go_enter Try.func31, Try.ntmps31
    go_wp2
    go_ret
    exact ⟨rfl, rfl⟩
theorem iLocated_any {w : World} {v : Value} {l : List Int} (hs : ISl w v l) (hl : l.length ≤ 1000000) : Calls Try.prog 29 #[v] w fun e w' => e = .returned (.bool (locS l)) ∧ w = w' := by
  obtain ⟨ao, cap, rfl, hc⟩ := hs.open'
  have hno := fun k hk h => locS_no (l := l) (k := k) hk h
  have hyes := (locS_iff l).2
  obtain ⟨R, hR⟩ : ∃ R, R = locS l := ⟨_, rfl⟩
  rw [← hR] at hno hyes ⊢
  obtain ⟨N, hN⟩ : ∃ N, N = l.length := ⟨_, rfl⟩
  rw [← hN] at hc hno hyes hl ⊢
  have HC := Lib.hid hc
  have HNO := Lib.hid hno
  have HYE := Lib.hid hyes
  clear hc hno hyes hR hs hN
  go_enter Try.func29, Try.ntmps29
  go_wp2
  go_loop [7] (fun i => ∃ k : Nat, k ≤ N ∧ i = .int .i64 k ∧ Hid (∀ j, j < k → inB (l.getD j 0) = true)) (fun i => N - (intOf i).toNat)
  case atStart => exact ⟨0, by omega, rfl, fun j hj => absurd hj (Nat.not_lt_zero _)⟩
  case round =>
    obtain ⟨k, hk, rfl, HK⟩ := hrel
    by_cases hlt : k < N
    · obtain ⟨b, off, rfl, _, hcc⟩ := HC.out (by omega)
      have hck := hcc k hlt
      have hn1 := HNO.out k hlt
      obtain ⟨x, hx⟩ : ∃ x, x = l.getD k 0 := ⟨_, rfl⟩
      rw [← hx] at hck hn1
      have HX := Lib.hid hx
      have HN1 := Lib.hid hn1
      have ek : (k : Int) < (N : Int) := by omega
      clear hx hcc hn1
      cases hf : inB x
      · have HF := Lib.hid hf
        have hR := HN1.out hf
        subst hR
        clear hf
        go_wp2_with (go_at_call 30; refine (iIsBlock_is x _ HF.out _).mono ?_; rintro e w' ⟨rfl, rfl⟩)
        go_ret
        exact ⟨rfl, rfl⟩
      · have HF := Lib.hid hf
        clear hf
        go_wp2_with (go_at_call 30; refine (iIsBlock_is x _ HF.out _).mono ?_; rintro e w' ⟨rfl, rfl⟩)
        go_round
        case rel =>
          refine ⟨k + 1, by omega, by go_num, fun j hj => ?_⟩
          by_cases e : j = k
          · subst e; rw [← HX.out]; exact HF.out
          · exact HK.out j (by omega)
        case measure => simp [intOf]; omega
    · obtain rfl : k = N := by omega
      have hR := HYE.out HK.out
      subst hR
      go_wp2
      go_ret
      exact ⟨rfl, rfl⟩
theorem iLocated_is {w : World} {v : Value} {l : List Int} (hs : ISl w v l) (hl : l.length ≤ 1000000) (B : Bool) (h : locS l = B) : Calls Try.prog 29 #[v] w fun e w' => e = .returned (.bool B) ∧ w = w' := by
  rw [← h]; exact iLocated_any hs hl
theorem iPlace_no (n : Int) (h : n < 1 ∨ 47 < n) (w : World) : Calls Try.prog 15 #[.int .i64 n] w fun e w' => e = .returned (.tuple #[.int .i64 (-1), .int .i64 (-1)]) ∧ w = w' := by
  by_cases h0 : n < 1
  · clear h
    go_enter Try.func15, Try.ntmps15
    go_wp2
    go_ret2
    exact ⟨rfl, rfl⟩
  · have h1 : 48 ≤ n := by omega
    clear h
    go_enter Try.func15, Try.ntmps15
    go_wp2
    go_ret2
    exact ⟨rfl, rfl⟩
theorem iPlace_yes (n : Int) (h0 : 1 ≤ n) (h1 : n ≤ 47) (w : World) : Calls Try.prog 15 #[.int .i64 n] w fun e w' => e = .returned (.tuple #[.int .i64 (n / 8), .int .i64 (n % 8)]) ∧ w = w' := by
  go_enter Try.func15, Try.ntmps15
  go_wp2
  go_ret2
  exact ⟨rfl, rfl⟩
theorem pGetW {w : World} {v : Value} {c : List Int} (hs : BSl w v c) (hc : c.length ≤ 100000) (a k : Nat) (A K : Int) (hA : A = a) (hK : K = k) (hk1 : 1 ≤ k) (hk : k ≤ 8) (ha : a + k ≤ c.length) (y : Int) (hy : y = getV c a k) :
    Calls Try.prog 33 #[v, .int .i64 A, .int .i64 K] w fun e w' => e = .returned (.tuple #[.int .u64 y, .bool true]) ∧ w = w' := by
  subst hA hK
  have hg := pGet_any hs (by omega) (a : Int) k (by omega) (by omega)
  have hn : getN c (a : Int) k = y := by unfold getN; rw [if_pos (by omega), hy]; rfl
  have hb : gotB c (a : Int) k = true := decide_eq_true (by omega)
  rw [hn, hb] at hg
  exact hg
theorem rGetW {w : World} {v : Value} {c : List Int} (hs : BSl w v c) (hc : c.length ≤ 100000) (a k : Nat) (A K : Int) (hA : A = a) (hK : K = k) (hk1 : 1 ≤ k) (hk : k ≤ 8) (ha : a + k ≤ c.length) (y : Int) (hy : y = getV c a k) :
    Calls Try.prog 25 #[v, .int .i64 A, .int .i64 K] w fun e w' => e = .returned (.tuple #[.int .u64 y, .bool true]) ∧ w = w' := by
  subst hA hK
  have hg := rGet_any' hs (by omega) (a : Int) k (by omega) (by omega)
  have hn : getN c (a : Int) k = y := by unfold getN; rw [if_pos (by omega), hy]; rfl
  have hb : gotB c (a : Int) k = true := decide_eq_true (by omega)
  rw [hn, hb] at hg
  exact hg
theorem rTwoW {w : World} {v : Value} {c : List Int} (hs : BSl w v c) (hc : c.length ≤ 100000) (a : Nat) (A : Int) (hA : A = a) (ha : a + 2 ≤ c.length) (y : Int) (hy : y = getV c a 2) : Calls Try.prog 26 #[v, .int .i64 A] w fun e w' => e = .returned (.int .i64 y) ∧ w = w' := by
  have hb := getV2_le (byt_mem hs.1) a
  have HG := Lib.hid (rGetW hs hc a 2 A 2 hA rfl (by omega) (by omega) ha y hy)
  rw [← hy] at hb
  clear hs hc ha hy hA
  go_enter Try.func26, Try.ntmps26
  go_wp2_with (go_at_call 25; refine HG.out.mono ?_; rintro e w' ⟨rfl, rfl⟩)
  go_ret
  exact ⟨rfl, rfl⟩
/-- The law's ints: the same numbers are told to be so. -/
theorem ints7_any {w : World} {v1 v2 : Value} {l : List Int} (hl : l.length ≤ 1000000) (h1 : ISl w v1 l) (h2 : ISl w v2 l) :
    Calls Try.prog 20 #[v1, v2] w fun e w' => e = .returned (.bool true) ∧ ∃ m, w' = w.drewN m := by
  obtain ⟨a1, c1, rfl, k1⟩ := h1.open'
  obtain ⟨a2, c2, rfl, k2⟩ := h2.open'
  obtain ⟨n, hn⟩ : ∃ n, n = l.length := ⟨_, rfl⟩
  clear h1 h2
  rw [← hn] at k1 k2 hl ⊢
  have H1 := Lib.hid k1
  have H2 := Lib.hid k2
  clear k1 k2 hn
  go_enter Try.func20, Try.ntmps20
  go_wp2
  go_loopw [13] (fun i wr => ∃ k : Nat, k ≤ n ∧ i = .int .i64 k ∧ ∃ m, wr = w.drewN m) (fun i _ => n - (intOf i).toNat)
  case atStart => exact ⟨0, by omega, rfl, 0, rfl⟩
  case round =>
    obtain ⟨k, hk, rfl, m, rfl⟩ := hrel
    by_cases hlt : k < n
    · obtain ⟨b1, o1, rfl, _, f1⟩ := H1.out (by omega)
      obtain ⟨b2, o2, rfl, _, f2⟩ := H2.out (by omega)
      have c1 := f1 k hlt
      have d1 := f2 k hlt
      clear f1 f2
      obtain ⟨x, hx⟩ : ∃ x, x = l.getD k 0 := ⟨_, rfl⟩
      rw [← hx] at c1 d1
      have ek : (k : Int) < (n : Int) := by omega
      clear hx
      go_wp2
      go_quiet (fail)
      go_wp2
      go_roundw
      case rel => exact ⟨k + 1, by omega, by go_num, _, rfl⟩
      case measure => simp [intOf]; omega
    · go_wp2
      go_ret
      exact ⟨rfl, m, rfl⟩
theorem ob_made (w : World) (M : Nat) (hM : M ≤ 1000) : OB (w.alloc (.cells (Array.replicate M (.int .u8 0)) 5)) w.heap.size (.slice (some ⟨w.heap.size, 0, none⟩) 0 M) [] :=
  OB.of_heap (w := w.alloc (.cells (Array.replicate M (.int .u8 0)) 5)) (B := w.heap.size) (g := w.heap.size) (cap := M) (l := []) (rest := List.replicate M (.int .u8 0)) byt_nil (Nat.le_refl _) (by rw [heap_alloc_new]; simp) (by simp) (by unfold maxLen; omega)
end Go.Proofs.Ytbikbglkecbgjaa
