/- Contracts of package inode: within, isBlock, located, Place; the reference's place, two; the law's ints. -/
import Derived.Test.YtmjndpmpeidhaaaInoM
import Derived.Test.YtmjndpmpeidhaaaMemI
import Derived.Test.YtmjndpmpeidhaaaPackB
import Derived.BigQuiet
namespace Go.Proofs.Ytmjndpmpeidhaaa
open Go.RowKit
set_option linter.unusedVariables false

theorem rPlace_is (n : Int) (B : Bool) (h : inB n = B) (w : World) : Calls Try.prog 23 #[.int .i64 n] w fun e w' => e = .returned (.bool B) ∧ w = w' := by
  by_cases h0 : 0 ≤ n
  · by_cases h1 : n ≤ 767
    · obtain rfl : B = true := by rw [← h]; exact decide_eq_true ⟨h0, h1⟩
      clear h
      go_enter Try.func23, Try.ntmps23
      go_wp2
      go_ret
      exact ⟨rfl, rfl⟩
    · obtain rfl : B = false := by rw [← h]; exact decide_eq_false fun h => h1 h.2
      clear h
      go_enter Try.func23, Try.ntmps23
      go_wp2
      go_ret
      exact ⟨rfl, rfl⟩
  · obtain rfl : B = false := by rw [← h]; exact decide_eq_false fun h => h0 h.1
    clear h
    go_enter Try.func23, Try.ntmps23
    go_wp2
    go_ret
    exact ⟨rfl, rfl⟩
theorem pGetW {w : World} {v : Value} {c : List Int} (hs : BSl w v c) (hc : c.length ≤ 100000) (a k : Nat) (A K : Int) (hA : A = a) (hK : K = k) (hk1 : 1 ≤ k) (hk : k ≤ 8) (ha : a + k ≤ c.length) (y : Int) (hy : y = getV c a k) :
    Calls Try.prog 32 #[v, .int .i64 A, .int .i64 K] w fun e w' => e = .returned (.tuple #[.int .u64 y, .bool true]) ∧ w = w' := by
  subst hA hK
  have hg := pGet_any hs (by omega) (a : Int) k (by omega) (by omega)
  have hn : getN c (a : Int) k = y := by unfold getN; rw [if_pos (by omega), hy]; rfl
  have hb : gotB c (a : Int) k = true := decide_eq_true (by omega)
  rw [hn, hb] at hg
  exact hg
theorem ob_made (w : World) (M : Nat) (hM : M ≤ 1000) : OB (w.alloc (.cells (Array.replicate M (.int .u8 0)) 5)) w.heap.size (.slice (some ⟨w.heap.size, 0, none⟩) 0 M) [] :=
  OB.of_heap (w := w.alloc (.cells (Array.replicate M (.int .u8 0)) 5)) (B := w.heap.size) (g := w.heap.size) (cap := M) (l := []) (rest := List.replicate M (.int .u8 0)) byt_nil (Nat.le_refl _) (by rw [heap_alloc_new]; simp) (by simp) (by unfold maxLen; omega)
end Go.Proofs.Ytmjndpmpeidhaaa
