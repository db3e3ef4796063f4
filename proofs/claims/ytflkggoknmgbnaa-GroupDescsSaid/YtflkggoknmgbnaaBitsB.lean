/- Contracts of package bits that make or write memory: New, Set, Of; and the readers' loops. -/
import Derived.Test.YtflkggoknmgbnaaBitsA
import Derived.Laws.CopyOwn
namespace Go.Proofs.Ytflkggoknmgbnaa
open Go.RowKit BM

theorem bSize_nat (n : Int) (k N : Nat) (w : World) (hn : n = k) (h1 : k ≤ 4096) (hN : N = (k + 7) / 8) :
    Calls Try.prog 49 #[.int .i64 n] w fun e w' => e = .returned (.int .i64 N) ∧ w = w' :=
  (bSize_any n w (by omega) (by omega)).mono fun e w' ⟨he, hw⟩ => ⟨by rw [he, show (n + 7) / 8 = ((N : Nat) : Int) by omega], hw⟩

theorem bNew_at (n : Int) (k : Nat) (hk : k ≤ 4096) (w : World) (hn : if n < 0 then k = 0 else if 4096 < n then k = 4096 else n = k) :
    Calls Try.prog 30 #[.int .i64 n] w fun e w' => e = .returned (.pointer (some ⟨w.heap.size + 1, 0, none⟩)) ∧ BRow w' (w.heap.size + 1) w.heap.size (List.replicate k false) ∧ Below w.heap.size w w' ∧ w'.heap.size = w.heap.size + 2 := by
  obtain ⟨N, hN⟩ : ∃ N : Nat, N = (k + 7) / 8 := ⟨_, rfl⟩
  have fin : ∀ (c : Int) w', (c = k) → w' = (w.alloc (.cells (Array.replicate N (.int .u8 0)) 5)).alloc (.cells #[.int .i64 c, .slice (some ⟨w.heap.size, 0, none⟩) N N] 77) →
      BRow w' (w.heap.size + 1) w.heap.size (List.replicate k false) ∧ Below w.heap.size w w' ∧ w'.heap.size = w.heap.size + 2 := by
    rintro c w' rfl rfl
    refine ⟨⟨by simpa using hk, _, rep_new k, ?_, ?_⟩, ((Below.refl _ _).alloc (Nat.le_refl _) _).alloc (by simp) _, by simp⟩
    · rw [heap_alloc2_new]; simp [hN]
    · rw [heap_alloc2_old]; simp [hN]
  have hnn : N ≤ 4096 := by omega
  have HN : Hid (N = (k + 7) / 8) := hN
  clear hN
  by_cases h1 : n < 0
  · rw [if_pos h1] at hn
    have HK : Hid (k = 0) := hn
    clear hn
    go_enter Try.func30, Try.ntmps30
    go_wp2_with (first
      | (go_at_call 49; refine (bSize_nat _ k N _ (by rw [HK.out]; rfl) hk HN.out).mono ?_; rintro e w' ⟨rfl, rfl⟩)
      | (at_make; refine wpList_make_u8 _ rfl _ _ rfl _ N rfl rfl rfl (by omega) ?_))
    go_ret
    exact ⟨rfl, fin _ _ (by first | exact HK.out | (rw [HK.out]; rfl)) rfl⟩
  · rw [if_neg h1] at hn
    by_cases h2 : 4096 < n
    · rw [if_pos h2] at hn
      have HK : Hid (k = 4096) := hn
      clear hn
      go_enter Try.func30, Try.ntmps30
      go_wp2_with (first
        | (go_at_call 49; refine (bSize_nat _ k N _ (by rw [HK.out]; rfl) hk HN.out).mono ?_; rintro e w' ⟨rfl, rfl⟩)
        | (at_make; refine wpList_make_u8 _ rfl _ _ rfl _ N rfl rfl rfl (by omega) ?_))
      go_ret
      exact ⟨rfl, fin _ _ (by first | exact HK.out | (rw [HK.out]; rfl)) rfl⟩
    · rw [if_neg h2] at hn
      have HK : Hid (n = k) := hn
      clear hn
      go_enter Try.func30, Try.ntmps30
      go_wp2_with (first
        | (go_at_call 49; refine (bSize_nat _ k N _ HK.out hk HN.out).mono ?_; rintro e w' ⟨rfl, rfl⟩)
        | (at_make; refine wpList_make_u8 _ rfl _ _ rfl _ N rfl rfl rfl (by omega) ?_))
      go_ret
      exact ⟨rfl, fin _ _ (by first | exact HK.out | (rw [HK.out]; rfl)) rfl⟩

/-- How many bits New makes. -/
def clampN (n : Int) : Nat := if n < 0 then 0 else if 4096 < n then 4096 else n.toNat

theorem clampN_le (n : Int) : clampN n ≤ 4096 := by unfold clampN; by_cases h1 : n < 0 <;> by_cases h2 : 4096 < n <;> simp [h1, h2]; omega

theorem bNew_any (n : Int) (w : World) :
    Calls Try.prog 30 #[.int .i64 n] w fun e w' => e = .returned (.pointer (some ⟨w.heap.size + 1, 0, none⟩)) ∧ BRow w' (w.heap.size + 1) w.heap.size (List.replicate (clampN n) false) ∧ Below w.heap.size w w' ∧ w'.heap.size = w.heap.size + 2 :=
  bNew_at n _ (clampN_le n) w (by unfold clampN; by_cases h1 : n < 0 <;> by_cases h2 : 4096 < n <;> simp [h1, h2] <;> omega)

end Go.Proofs.Ytflkggoknmgbnaa
