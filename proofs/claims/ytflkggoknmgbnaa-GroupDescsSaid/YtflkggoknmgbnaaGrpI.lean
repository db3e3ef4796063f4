/- Contract: the reference's EncodeDesc. -/
import Derived.Test.YtflkggoknmgbnaaGrpH
import Derived.Deep.Cut
namespace Go.Proofs.Ytflkggoknmgbnaa
open Go.RowKit BM
set_option linter.unusedVariables false

theorem rrEnc_no {w : World} {v : Value} {L : List Bool} (hk : KSl w v L) (g : Int) (h : ¬ (0 ≤ g ∧ g < 12 ∧ L.length = 64)) : Calls Try.prog 9 #[.agg #[.int .i64 g, v]] w fun e w' => e = .returned (.tuple #[.slice none 0 0, .int .i64 1]) ∧ Below w.heap.size w w' := by
  obtain ⟨ao, cap, rfl⟩ := hk.shape
  obtain ⟨n, hn⟩ : ∃ n, n = L.length := ⟨_, rfl⟩
  rw [← hn] at h ⊢
  have hb := below_box w (.cells #[.int .i64 g, .slice ao n cap] 34)
  clear hk hn
  by_cases g0 : g < 0
  · go_enter Try.func9, Try.ntmps9
    go_wp2
    go_ret2
    exact ⟨rfl, hb⟩
  · by_cases g1 : 11 < g
    · clear h
      go_enter Try.func9, Try.ntmps9
      go_wp2
      go_ret2
      exact ⟨rfl, hb⟩
    · have hne : ((n : Int) != 64) = true := by simp; omega
      clear h
      go_enter Try.func9, Try.ntmps9
      go_wp2
      go_ret2
      exact ⟨rfl, hb⟩
theorem rPut2 {w : World} {v : Value} {l : List Int} (hs : BSl w v l) (hl : l.length ≤ 1000) (x : Int) (h0 : 0 ≤ x) (h1 : x ≤ 65535) : Calls Try.prog 32 #[v, .int .u64 x, .int .i64 2] w (NewB w (l ++ lowB x 2)) :=
  rPut_at hs (by omega) x 2 2 (by omega) (by omega) rfl h0 (by omega)
set_option maxHeartbeats 1000000 in
theorem rrEnc_yes {w : World} {v : Value} {L : List Bool} (hk : KSl w v L) (g : Int) (h1 : 0 ≤ g) (h2 : g < 12) (hL : L.length = 64) :
    Calls Try.prog 9 #[.agg #[.int .i64 g, v]] w fun e w' => ∃ v, e = .returned (.tuple #[v, .int .i64 0]) ∧ OB w' w.heap.size v (descS g L) ∧ Below w.heap.size w w' := by
  obtain ⟨ao, cap, rfl⟩ := hk.shape
  rw [hL] at hk ⊢
  have hb1 : Below w.heap.size w ((w.alloc (.cells #[.int .i64 g, .slice ao 64 cap] 34)).alloc (.cells #[.slice ao 64 cap] 64)) := ((Below.refl _ _).alloc (Nat.le_refl _) _).alloc (by simp) _
  have hd1 := heap_alloc2_old w (.cells #[.int .i64 g, .slice ao 64 cap] 34) (.cells #[.slice ao 64 cap] 64)
  have hq1 := heap_alloc2_new w (.cells #[.int .i64 g, .slice ao 64 cap] 34) (.cells #[.slice ao 64 cap] 64)
  obtain ⟨w1, hw1⟩ : ∃ w1, w1 = (w.alloc (.cells #[.int .i64 g, .slice ao 64 cap] 34)).alloc (.cells #[.slice ao 64 cap] 64) := ⟨_, rfl⟩
  rw [← hw1] at hb1 hd1 hq1
  have HW1 := Lib.hid hw1
  have HK := Lib.hid (hk.below hb1)
  have hcb := countB_le L
  obtain ⟨C, hC⟩ : ∃ C, C = countB L := ⟨_, rfl⟩
  rw [← hC, hL] at hcb
  have HC := Lib.hid hC
  have HL := Lib.hid hL
  have hlq : w.heap.size + 1 < w1.heap.size := (Array.getElem?_eq_some_iff.1 hq1).1
  have c0 : w1.cell? ⟨w.heap.size, 0, none⟩ = some (.int .i64 g) := by rw [cell_of_row _ _ _ _ _ _ hd1]; rfl
  have HQ := Lib.hid (show w1.cell? ⟨w.heap.size + 1, 0, none⟩ = some (.slice ao 64 cap) by rw [cell_of_row _ _ _ _ _ _ hq1]; rfl)
  have kc := fun (w : World) (C : Array Value) (n c : Nat) => Lib.run_convert_bytes_const (P := Try.prog) w 23 5 C n c Try.underlying23 Try.underlying5
  have g0 : ¬ g < 0 := by omega
  have g1 : ¬ 11 < g := by omega
  clear hk hC hL hd1 hq1 hw1
  go_enter Try.func9, Try.ntmps9
  go_upto_region 4 with (fail)
  rw [← HW1.out]
  obtain ⟨q, hqq⟩ : ∃ q, q = w.heap.size + 1 := ⟨_, rfl⟩
  rw [← hqq] at HQ hlq ⊢
  have hlq0 : w.heap.size < w1.heap.size := by omega
  clear hqq
  go_wp2_with fail
  have hbm := bsl_desc w1
  have hb2 := below_box w1 (.cells #[.int .u8 100, .int .u8 101, .int .u8 115, .int .u8 99] 5 (4, 5))
  generalize w1.alloc (.cells #[.int .u8 100, .int .u8 101, .int .u8 115, .int .u8 99] 5 (4, 5)) = w2 at hbm hb2 ⊢
  have HMG := Lib.hid (rPut2 hbm (by decide) g h1 (by omega))
  clear hbm kc
  go_wp2_with (first
    | (go_at_call 32; (with_reducible refine HMG.out.mono ?_); rintro e w4 ⟨v4, rfl, hob4, hb4⟩
       have hb14 : Below w1.heap.size w1 w4 := hb2.trans (hb4.mono hb2.size)
       have hq4 := (hb14.cell (p := ⟨q, 0, none⟩) hlq).trans HQ.out)
    | (go_at_call 33; refine (rCount_k hq4 (HK.out.below hb14) (by rw [HL.out]; decide)).mono ?_; rw [← HC.out]; rintro e w5 ⟨rfl, rfl⟩
       have HP2 := Lib.hid (rPut2 hob4.bsl (by rw [List.length_append, lowB_length]; decide) (C : Int) (by omega) (by omega)))
    | (go_at_call 32; (with_reducible refine HP2.out.mono ?_); rintro e w6 ⟨v6, rfl, hob6, hb6⟩
       have hb16 : Below w1.heap.size w1 w6 := hb14.trans (hb6.mono hb14.size)
       have hq6 := (hb16.cell (p := ⟨q, 0, none⟩) hlq).trans HQ.out)
    | (go_at_call 35; refine (rBytes_k hq6 (Nat.lt_of_lt_of_le hlq hb16.size) (HK.out.below hb16) (by rw [HL.out]; decide) (bytesB L) (rep_bytesB L)).mono ?_; rintro e w7 ⟨v7, rfl, hs7, hb7⟩
       have hb17 : Below w1.heap.size w1 w7 := hb16.trans (hb7.mono hb16.size))
    | (at_builtin
       refine wpList_append_bytes w7 rfl (.tmp 35) (.tmp 37) rfl w1.heap.size _ ([100, 101, 115, 99] ++ lowB g 2 ++ lowB (C : Int) 2) rfl ((hob6.below hb7).more hb14.size) w7 v7 (bytesB L) rfl hs7 (fun _ _ => rfl) (by rw [bytesB_length, HL.out]; simp [lowB_length]) hb17.size ?_
       intro v8 w8 hob8 hb8 _
       have hb18 : Below w1.heap.size w1 w8 := hb17.trans hb8
       have HSE : Hid (Calls Try.prog 34 #[v8] w8 (SealOut (descC g L) w8)) := Lib.hid (by rw [descC, ← HC.out]; exact rSeal_yes hob8.bsl (by rw [List.length_append, bytesB_length, HL.out]; simp [lowB_length])))
    | (go_at_call 34; refine HSE.out.mono ?_; rintro e w9 ⟨v9, rfl, hob9, hb9⟩))
  go_ret2
  exact ⟨v9, rfl, hob9.more (Nat.le_trans hb1.size hb18.size), (hb1.trans (hb18.mono hb1.size)).trans (hb9.mono (Nat.le_trans hb1.size hb18.size))⟩
end Go.Proofs.Ytflkggoknmgbnaa
