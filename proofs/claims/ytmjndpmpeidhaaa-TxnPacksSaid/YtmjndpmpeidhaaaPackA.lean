/- Contracts of package pack: isSize, Put. -/
import Derived.Test.YtmjndpmpeidhaaaMem
import Derived.Test.YtmjndpmpeidhaaaPackM
namespace Go.Proofs.Ytmjndpmpeidhaaa
open Go.RowKit
set_option linter.unusedVariables false

theorem pIsSize_yes (size : Int) (w : World) (h : 1 ≤ size ∧ size ≤ 8) :
    Calls Try.prog 34 #[.int .i64 size] w fun e w' => e = .returned (.bool true) ∧ w = w' := by
  obtain ⟨h1, h2⟩ := h
  go_enter Try.func34, Try.ntmps34
  go_wp2
  go_ret
  exact ⟨rfl, rfl⟩
theorem pIsSize_no (size : Int) (w : World) (h : ¬ (1 ≤ size ∧ size ≤ 8)) :
    Calls Try.prog 34 #[.int .i64 size] w fun e w' => e = .returned (.bool false) ∧ w = w' := by
  by_cases h1 : 1 ≤ size
  · have h2 : ¬ size ≤ 8 := fun h2 => h ⟨h1, h2⟩
    go_enter Try.func34, Try.ntmps34
    go_wp2
    go_ret
    exact ⟨rfl, rfl⟩
  · go_enter Try.func34, Try.ntmps34
    go_wp2
    go_ret
    exact ⟨rfl, rfl⟩

theorem pPut_at {w : World} {v : Value} {l : List Int} (hs : BSl w v l) (hl : l.length ≤ 140737488355300) (n size : Int) (k : Nat) (hk : k ≤ 8) (hk1 : 1 ≤ k) (hsz : size = k) (h0 : 0 ≤ n) (h1 : n < 18446744073709551616) :
    Calls Try.prog 26 #[v, .int .u64 n, .int .i64 size] w (NewB w (l ++ lowB n k)) := by
  subst hsz
  obtain ⟨ao, cap, rfl, hcap⟩ := hs.shape
  have hby := hs.1
  have hpos := src_cells hs (w1 := w.alloc (.cells (Array.replicate (l.length + k) (.int .u8 0)) 5)) (fun p hp => World.cell?_alloc_lt w _ p hp) l.length
  rw [List.take_length] at hpos
  obtain ⟨N, hN⟩ : ∃ N, N = l.length := ⟨_, rfl⟩
  rw [← hN] at hl hcap hpos ⊢
  have hg2 : (w.alloc (.cells (Array.replicate (N + k) (.int .u8 0)) 5)).heap[w.heap.size]? = some (.cells (List.replicate (N + k) (Value.int .u8 0)).toArray 5 (0, 0)) := by
    rw [heap_alloc_new]; simp
  have hcl : (l.map (Value.int .u8)).length = N := by rw [List.length_map, ← hN]
  have hmm : N = Nat.min N N := by simp
  have hfit : 0 + (l.map (Value.int .u8)).length ≤ (List.replicate (N + k) (Value.int .u8 0)).length := by rw [List.length_map, ← hN]; simp
  have HN := Lib.hid hN
  have HG := Lib.hid hg2
  have HC := Lib.hid hcl
  have HM := Lib.hid hmm
  have HF := Lib.hid hfit
  have HP := Lib.hid hpos
  have HBY := Lib.hid hby
  have hbl : Below w.heap.size w (w.alloc (.cells (Array.replicate (N + k) (.int .u8 0)) 5)) := (Below.refl _ _).alloc (Nat.le_refl _) _
  have hkm : k ≤ 9223372036854775807 := by omega
  have hnk : N + k ≤ 200000000000000 := by omega
  clear hN hg2 hcl hmm hfit hpos hby hs
  go_enter Try.func26, Try.ntmps26
  go_wp2_with (first
    | (go_at_call 34; refine (pIsSize_yes _ _ ⟨by omega, by omega⟩).mono ?_; rintro e w' ⟨rfl, rfl⟩)
    | (at_make; refine wpList_make_u8c _ rfl _ _ rfl _ _ N (N + k) rfl rfl rfl (by push_cast; rfl) (by omega) (by omega) ?_)
    | (with_reducible refine wpList_copy_wrote rfl _ _ 40 40 rfl 5 Try.underlying40 (by kernel_rfl) _ _ _ _ _ _ rfl rfl w.heap.size 0 (List.replicate (N + k) (Value.int .u8 0)) 5 HG.out (l.map (Value.int .u8)) N HC.out HM.out (fun h => ⟨rfl, HP.out h⟩) HF.out (ints_oneCell _ _) ?_; intro w2 HG3 HW2))
  have hb2 : Below w.heap.size w w2 := hbl.trans (HW2.below (Nat.le_refl _))
  have hob : OB w2 w.heap.size (.slice (some ⟨w.heap.size, 0, none⟩) N (N + k)) l := by
    have h3 := HG3.out
    rw [HN.out]
    refine OB.of_heap (rest := List.replicate k (Value.int .u8 0)) HBY.out (Nat.le_refl _) ?_ (by simp) (by simp only [maxLen]; have := HN.out; omega)
    rw [h3]
    simp [splice, HN.out]
  clear HG3 HW2
  go_loopw [1, 7, 22] (fun c u i wr => ∃ (j : Nat) (m : Int), j ≤ k ∧ i = .int .i64 j ∧ c = .int .u64 m ∧ 0 ≤ m ∧ m < 18446744073709551616 ∧ Hid (m = n / 2 ^ (8 * j)) ∧ Hid (OB wr w.heap.size u (l ++ lowB n j)) ∧ Below w.heap.size w wr)
    (fun _ _ i _ => k - (intOf i).toNat)
  case atStart => exact ⟨0, n, by omega, rfl, rfl, h0, h1, by simp [Hid], by simp [Hid, lowB_zero]; exact hob, hb2⟩
  case round =>
    obtain ⟨j, m, hj, rfl, rfl, hm0, hm1, HM2, HO, hbr⟩ := hrel
    by_cases hlt : j < k
    · have hlen : (l ++ lowB n j).length + 1 ≤ 140737488355328 := by rw [List.length_append, lowB_length, ← HN.out]; omega
      have HLE := Lib.hid hlen
      clear hlen
      go_wp2_with (at_builtin; refine wpList_append_byte wr _ rfl _ _ rfl w.heap.size _ _ rfl HO.out ⟨by omega, by omega⟩ rfl HLE.out hbr.size ?_; intro v' w3 hob3 hb3)
      go_roundw
      case rel =>
        refine ⟨j + 1, m / 256, by omega, by go_num, rfl, by omega, by omega, ?_, ?_, hbr.trans (hb3)⟩
        · show _ = _
          rw [HM2.out, ← shr_step]; rfl
        · show OB _ _ _ _
          rw [lowB_succ, ← List.append_assoc, ← HM2.out]; exact hob3
      case measure => simp [intOf]; omega
    · go_wp2_with fail
      go_ret
      obtain rfl : j = k := by omega
      exact ⟨_, rfl, HO.out, hbr⟩

theorem pPut_no {w : World} {v : Value} {l : List Int} (hs : BSl w v l) (hl : l.length ≤ 140737488355300) (n size : Int) (hsz : ¬ (1 ≤ size ∧ size ≤ 8)) (h0 : 0 ≤ n) (h1 : n < 18446744073709551616) :
    Calls Try.prog 26 #[v, .int .u64 n, .int .i64 size] w (NewB w l) := by
  obtain ⟨ao, cap, rfl, hcap⟩ := hs.shape
  have hby := hs.1
  have hpos := src_cells hs (w1 := w.alloc (.cells (Array.replicate l.length (.int .u8 0)) 5)) (fun p hp => World.cell?_alloc_lt w _ p hp) l.length
  rw [List.take_length] at hpos
  obtain ⟨N, hN⟩ : ∃ N, N = l.length := ⟨_, rfl⟩
  rw [← hN] at hl hcap hpos ⊢
  have hg2 : (w.alloc (.cells (Array.replicate N (.int .u8 0)) 5)).heap[w.heap.size]? = some (.cells (List.replicate N (Value.int .u8 0)).toArray 5 (0, 0)) := by
    rw [heap_alloc_new]; simp
  have hcl : (l.map (Value.int .u8)).length = N := by rw [List.length_map, ← hN]
  have hmm : N = Nat.min N N := by simp
  have hfit : 0 + (l.map (Value.int .u8)).length ≤ (List.replicate N (Value.int .u8 0)).length := by rw [List.length_map, ← hN]; simp
  have HN := Lib.hid hN
  have HG := Lib.hid hg2
  have HC := Lib.hid hcl
  have HM := Lib.hid hmm
  have HF := Lib.hid hfit
  have HP := Lib.hid hpos
  have HBY := Lib.hid hby
  have hbl : Below w.heap.size w (w.alloc (.cells (Array.replicate N (.int .u8 0)) 5)) := (Below.refl _ _).alloc (Nat.le_refl _) _
  clear hN hg2 hcl hmm hfit hpos hby hs
  go_enter Try.func26, Try.ntmps26
  go_wp2_with (first
    | (go_at_call 34; refine (pIsSize_no _ _ hsz).mono ?_; rintro e w' ⟨rfl, rfl⟩)
    | (at_make; refine wpList_make_u8c _ rfl _ _ rfl _ _ N N rfl rfl rfl (by first | rfl | simp) (by omega) (by omega) ?_)
    | (with_reducible refine wpList_copy_wrote rfl _ _ 40 40 rfl 5 Try.underlying40 (by kernel_rfl) _ _ _ _ _ _ rfl rfl w.heap.size 0 (List.replicate N (Value.int .u8 0)) 5 HG.out (l.map (Value.int .u8)) N HC.out HM.out (fun h => ⟨rfl, HP.out h⟩) HF.out (ints_oneCell _ _) ?_; intro w2 HG3 HW2))
  have hb2 : Below w.heap.size w w2 := hbl.trans (HW2.below (Nat.le_refl _))
  have hob : OB w2 w.heap.size (.slice (some ⟨w.heap.size, 0, none⟩) N N) l := by
    have h3 := HG3.out
    rw [HN.out]
    refine OB.of_heap (rest := []) HBY.out (Nat.le_refl _) ?_ (by simp) (by simp only [maxLen]; have := HN.out; omega)
    rw [h3]
    simp [splice, HN.out]
  clear HG3 HW2
  refine wp_loop_rounds 1 ?_
  rw [rounds_succ]
  go_wp2_with fail
  go_ret
  exact ⟨_, rfl, hob, hb2⟩

theorem pPut_any {w : World} {v : Value} {l : List Int} (hs : BSl w v l) (hl : l.length ≤ 140737488355300) (n size : Int) (h0 : 0 ≤ n) (h1 : n < 18446744073709551616) :
    Calls Try.prog 26 #[v, .int .u64 n, .int .i64 size] w (NewB w (putS l n size)) := by
  unfold putS
  by_cases h : 1 ≤ size ∧ size ≤ 8
  · rw [if_pos h]
    exact pPut_at hs hl n size size.toNat (by omega) (by omega) (by omega) h0 h1
  · rw [if_neg h]
    exact pPut_no hs hl n size h h0 h1

end Go.Proofs.Ytmjndpmpeidhaaa
