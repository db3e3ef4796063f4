/- Contracts of package pack: Get, Sum; the reference's Get, Sum, Put. -/
import Derived.Test.YtmjndpmpeidhaaaPackA
import Derived.IntWalk
namespace Go.Proofs.Ytmjndpmpeidhaaa
open Go.RowKit
set_option linter.unusedVariables false

theorem pGet_at {w : World} {b off cap : Nat} {l : List Int} (hby : Byt l) (hl : l.length ≤ 140737488355300)
    (hc : ∀ j, j < l.length → w.cell? ⟨b, off + j, none⟩ = some (.int .u8 (l.getD j 0))) (a k : Nat) (hk1 : 1 ≤ k) (hk : k ≤ 8) (hak : a + k ≤ l.length) :
    Calls Try.prog 32 #[.slice (some ⟨b, off, none⟩) l.length cap, .int .i64 a, .int .i64 k] w fun e w' => e = .returned (.tuple #[.int .u64 (getV l a k), .bool true]) ∧ w = w' := by
  obtain ⟨N, hN⟩ : ∃ N, N = l.length := ⟨_, rfl⟩
  rw [← hN] at hl hc hak ⊢
  have HN := Lib.hid hN
  have HC := Lib.hid hc
  have HB := Lib.hid (byt_mem hby)
  have HBY := Lib.hid hby
  clear hN hc hby
  go_enter Try.func32, Try.ntmps32
  go_wp2_with (go_at_call 34; refine (pIsSize_yes _ _ ⟨by omega, by omega⟩).mono ?_; rintro e w' ⟨rfl, rfl⟩)
  go_loop [8, 9] (fun c i => ∃ (j : Nat) (m : Int), j ≤ k ∧ i = .int .i64 ((j : Int) - 1) ∧ c = .int .u64 m ∧ Hid (m = getV l (a + j) (k - j)))
    (fun _ i => (intOf i + 1).toNat)
  case atStart => exact ⟨k, 0, by omega, rfl, rfl, by simp [Hid, getV_zero]⟩
  case round =>
    obtain ⟨j, m, hj, rfl, rfl, HM⟩ := hrel
    have hb := getV_bound HB.out (a + j) (k - j)
    rw [← HM.out] at hb
    by_cases hlt : 1 ≤ j
    · have hp := pow256_le (show k - j ≤ 7 by omega)
      have hm1 : m < 72057594037927936 := by omega
      have hm0 := hb.1
      have hx := HBY.out (a + j - 1)
      have hcx := HC.out (a + j - 1) (by omega)
      obtain ⟨x, hx'⟩ : ∃ x, x = l.getD (a + j - 1) 0 := ⟨_, rfl⟩
      rw [← hx'] at hx hcx
      have HX := Lib.hid hx'
      clear hx' hb hp
      have e1 : (a : Int) + ((j : Int) - 1) < (N : Int) := by omega
      have e2 : ((a : Int) + ((j : Int) - 1)).toNat = a + j - 1 := by omega
      go_wp2_with fail
      go_round
      case rel =>
        refine ⟨j - 1, _, by omega, by congr 1; omega, rfl, ?_⟩
        show _ = _
        have h8 := or_low m x 8 hm0 hx.1 (by omega) (by omega) (by omega)
        rw [show m * 2 ^ 8 = m * 256 from rfl] at h8
        rw [h8, show k - (j - 1) = k - j + 1 by omega, getV_head l _ _ (by have := HN.out; omega), show a + (j - 1) = a + j - 1 by omega, ← HX.out, show a + j - 1 + 1 = a + j by omega, ← HM.out]
        omega
      case measure => simp [intOf]; omega
    · go_wp2_with fail
      go_ret2
      obtain rfl : j = 0 := by omega
      exact ⟨by rw [HM.out]; simp, rfl⟩

theorem pGet_no {w : World} {ao : Option Addr} {len cap : Nat} (hl : len ≤ 140737488355300) (a k : Int) (h0 : -9223372036854775808 ≤ a) (h1 : a ≤ 9223372036854775807) (h : ¬ (1 ≤ k ∧ k ≤ 8 ∧ 0 ≤ a ∧ a + k ≤ len)) :
    Calls Try.prog 32 #[.slice ao len cap, .int .i64 a, .int .i64 k] w fun e w' => e = .returned (.tuple #[.int .u64 0, .bool false]) ∧ w = w' := by
  by_cases hk : 1 ≤ k ∧ k ≤ 8
  · by_cases ha : 0 ≤ a
    · have hh : (len : Int) - k < a := by omega
      have hk8 := hk.2
      have hk1 := hk.1
      go_enter Try.func32, Try.ntmps32
      go_wp2_with (go_at_call 34; refine (pIsSize_yes _ _ hk).mono ?_; rintro e w' ⟨rfl, rfl⟩)
      go_ret2
      exact ⟨rfl, rfl⟩
    · have ha' : a < 0 := by omega
      go_enter Try.func32, Try.ntmps32
      go_wp2_with (go_at_call 34; refine (pIsSize_yes _ _ hk).mono ?_; rintro e w' ⟨rfl, rfl⟩)
      go_ret2
      exact ⟨rfl, rfl⟩
  · go_enter Try.func32, Try.ntmps32
    go_wp2_with (go_at_call 34; refine (pIsSize_no _ _ hk).mono ?_; rintro e w' ⟨rfl, rfl⟩)
    go_ret2
    exact ⟨rfl, rfl⟩

theorem pSum_some {w : World} {b off cap : Nat} {l : List Int} (hl : l.length ≤ 140737488355300) (hby : Byt l)
    (hc : ∀ j, j < l.length → w.cell? ⟨b, off + j, none⟩ = some (.int .u8 (l.getD j 0))) :
    Calls Try.prog 35 #[.slice (some ⟨b, off, none⟩) l.length cap] w fun e w' => e = .returned (.int .u32 (sumS l)) ∧ w = w' := by
  obtain ⟨N, hN⟩ : ∃ N, N = l.length := ⟨_, rfl⟩
  rw [← hN] at hl hc ⊢
  have HN := Lib.hid hN
  have HC := Lib.hid hc
  have HBY := Lib.hid hby
  clear hN hc hby
  go_enter Try.func35, Try.ntmps35
  go_wp2_with fail
  go_loop [3, 8] (fun c i => ∃ (j : Nat) (m : Int), j ≤ N ∧ i = .int .i64 j ∧ c = .int .u32 m ∧ 0 ≤ m ∧ m < 4294967296 ∧ Hid (m = sumS (l.take j))) (fun _ i => N - (intOf i).toNat)
  case atStart => exact ⟨0, _, by omega, rfl, rfl, by omega, by omega, rfl⟩
  case round =>
    obtain ⟨j, m, hj, rfl, rfl, hm0, hm1, HM⟩ := hrel
    by_cases hlt : j < N
    · have hx := HBY.out j
      have hcx := HC.out j hlt
      obtain ⟨x, hx'⟩ : ∃ x, x = l.getD j 0 := ⟨_, rfl⟩
      rw [← hx'] at hx hcx
      have HX := Lib.hid hx'
      clear hx'
      go_wp2_with fail
      go_round
      case rel =>
        refine ⟨j + 1, _, by omega, by go_num, rfl, (fnvStep_bound m x).1, (fnvStep_bound m x).2, ?_⟩
        show _ = _
        rw [sumS_take l j (by have := HN.out; omega), ← HM.out, ← HX.out]; rfl
      case measure => simp [intOf]; omega
    · go_wp2_with fail
      go_ret
      exact ⟨ret_int (by rw [HM.out, List.take_of_length_le (by have := HN.out; omega)]), rfl⟩

theorem pSum_zero {w : World} {ao : Option Addr} {cap : Nat} :
    Calls Try.prog 35 #[.slice ao 0 cap] w fun e w' => e = .returned (.int .u32 (sumS [])) ∧ w = w' := by
  go_enter Try.func35, Try.ntmps35
  go_wp2_with fail
  refine wp_loop_rounds 1 ?_
  rw [rounds_succ]
  go_wp2_with fail
  go_ret
  exact ⟨rfl, rfl⟩

theorem pSum_any {w : World} {v : Value} {l : List Int} (hs : BSl w v l) (hl : l.length ≤ 140737488355300) :
    Calls Try.prog 35 #[v] w fun e w' => e = .returned (.int .u32 (sumS l)) ∧ w = w' := by
  by_cases h0 : l.length = 0
  · obtain ⟨ao, cap, rfl, _⟩ := hs.shape
    obtain rfl : l = [] := List.eq_nil_of_length_eq_zero h0
    exact pSum_zero
  · rcases hs.2 with ⟨_, rfl⟩ | ⟨⟨b, off, spot⟩, cap, rfl, _, hc⟩
    · simp at h0
    · obtain rfl : spot = none := (hc 0 (by omega)).2.1
      exact pSum_some hl hs.1 fun j hj => (hc j hj).2.2

theorem rSum_some {w : World} {b off cap : Nat} {l : List Int} (hl : l.length ≤ 140737488355300) (hby : Byt l)
    (hc : ∀ j, j < l.length → w.cell? ⟨b, off + j, none⟩ = some (.int .u8 (l.getD j 0))) :
    Calls Try.prog 29 #[.slice (some ⟨b, off, none⟩) l.length cap] w fun e w' => e = .returned (.int .u32 (sumS l)) ∧ w = w' := by
  obtain ⟨N, hN⟩ : ∃ N, N = l.length := ⟨_, rfl⟩
  rw [← hN] at hl hc ⊢
  have HN := Lib.hid hN
  have HC := Lib.hid hc
  have HBY := Lib.hid hby
  clear hN hc hby
  go_enter Try.func29, Try.ntmps29
  go_wp2_with fail
  go_loop [3, 7] (fun c i => ∃ (j : Nat) (m : Int), j ≤ N ∧ i = .int .i64 j ∧ c = .int .u32 m ∧ 0 ≤ m ∧ m < 4294967296 ∧ Hid (m = sumS (l.take j))) (fun _ i => N - (intOf i).toNat)
  case atStart => exact ⟨0, _, by omega, rfl, rfl, by omega, by omega, rfl⟩
  case round =>
    obtain ⟨j, m, hj, rfl, rfl, hm0, hm1, HM⟩ := hrel
    by_cases hlt : j < N
    · have hx := HBY.out j
      have hcx := HC.out j hlt
      obtain ⟨x, hx'⟩ : ∃ x, x = l.getD j 0 := ⟨_, rfl⟩
      rw [← hx'] at hx hcx
      have HX := Lib.hid hx'
      clear hx'
      go_wp2_with fail
      go_round
      case rel =>
        refine ⟨j + 1, _, by omega, by go_num, rfl, (fnvStep_bound m x).1, (fnvStep_bound m x).2, ?_⟩
        show _ = _
        rw [sumS_take l j (by have := HN.out; omega), ← HM.out, ← HX.out]; rfl
      case measure => simp [intOf]; omega
    · go_wp2_with fail
      go_ret
      exact ⟨ret_int (by rw [HM.out, List.take_of_length_le (by have := HN.out; omega)]), rfl⟩

theorem rSum_zero {w : World} {ao : Option Addr} {cap : Nat} :
    Calls Try.prog 29 #[.slice ao 0 cap] w fun e w' => e = .returned (.int .u32 (sumS [])) ∧ w = w' := by
  go_enter Try.func29, Try.ntmps29
  go_wp2_with fail
  refine wp_loop_rounds 1 ?_
  rw [rounds_succ]
  go_wp2_with fail
  go_ret
  exact ⟨rfl, rfl⟩

theorem rSum_any {w : World} {v : Value} {l : List Int} (hs : BSl w v l) (hl : l.length ≤ 140737488355300) :
    Calls Try.prog 29 #[v] w fun e w' => e = .returned (.int .u32 (sumS l)) ∧ w = w' := by
  by_cases h0 : l.length = 0
  · obtain ⟨ao, cap, rfl, _⟩ := hs.shape
    obtain rfl : l = [] := List.eq_nil_of_length_eq_zero h0
    exact rSum_zero
  · rcases hs.2 with ⟨_, rfl⟩ | ⟨⟨b, off, spot⟩, cap, rfl, _, hc⟩
    · simp at h0
    · obtain rfl : spot = none := (hc 0 (by omega)).2.1
      exact rSum_some hl hs.1 fun j hj => (hc j hj).2.2

/-- The document's Get: the number, and whether it is there. -/
def getN (l : List Int) (a k : Int) : Int := if 1 ≤ k ∧ k ≤ 8 ∧ 0 ≤ a ∧ a + k ≤ l.length then getV l a.toNat k.toNat else 0
def gotB (l : List Int) (a k : Int) : Bool := decide (1 ≤ k ∧ k ≤ 8 ∧ 0 ≤ a ∧ a + k ≤ l.length)
theorem pGet_any {w : World} {v : Value} {l : List Int} (hs : BSl w v l) (hl : l.length ≤ 140737488355300) (a k : Int) (h0 : -9223372036854775808 ≤ a) (h1 : a ≤ 9223372036854775807) :
    Calls Try.prog 32 #[v, .int .i64 a, .int .i64 k] w fun e w' => e = .returned (.tuple #[.int .u64 (getN l a k), .bool (gotB l a k)]) ∧ w = w' := by
  by_cases h : 1 ≤ k ∧ k ≤ 8 ∧ 0 ≤ a ∧ a + k ≤ l.length
  · rcases hs.2 with ⟨_, rfl⟩ | ⟨⟨b, off, spot⟩, cap, rfl, _, hc⟩
    · simp at h; omega
    · obtain rfl : spot = none := (hc 0 (by omega)).2.1
      have := pGet_at (cap := cap) hs.1 hl (fun j hj => (hc j hj).2.2) a.toNat k.toNat (by omega) (by omega) (by omega)
      rw [show ((a.toNat : Nat) : Int) = a by omega, show ((k.toNat : Nat) : Int) = k by omega] at this
      simp only [getN, gotB, if_pos h, decide_eq_true h]
      exact this
  · obtain ⟨ao, cap, rfl, _⟩ := hs.shape
    simp only [getN, gotB, if_neg h, decide_eq_false h]
    exact pGet_no hl a k h0 h1 h
theorem rPut_at {w : World} {v : Value} {l : List Int} (hs : BSl w v l) (hl : l.length ≤ 140737488355300) (n size : Int) (k : Nat) (hk : k ≤ 8) (hk1 : 1 ≤ k) (hsz : size = k) (h0 : 0 ≤ n) (h1 : n < 18446744073709551616) :
    Calls Try.prog 19 #[v, .int .u64 n, .int .i64 size] w (NewB w (l ++ lowB n k)) := by
  subst hsz
  obtain ⟨ao, cap, hv, _⟩ := hs.shape
  have hlen : ([] : List Int).length + l.length ≤ 140737488355328 := by simp; omega
  obtain ⟨N, hN⟩ : ∃ N, N = l.length := ⟨_, rfl⟩
  rw [← hN] at hv hl
  subst hv
  have HS := Lib.hid hs
  have HL := Lib.hid hlen
  have HN := Lib.hid hN
  clear hs hlen hN
  go_enter Try.func19, Try.ntmps19
  go_wp2_with (at_builtin; refine wpList_append_bytes _ rfl _ _ rfl w.heap.size _ [] rfl (ob_empty w) w _ l rfl HS.out (fun p hp => World.cell?_alloc_lt w _ p hp) HL.out (by simp) ?_; intro v2 w2 hob2 hb2 _)
  have hbe : Below w.heap.size w w2 := ((Below.refl _ _).alloc (Nat.le_refl _) _).trans hb2
  rw [List.nil_append] at hob2
  clear hb2
  go_loopw [7, 20] (fun u i wr => ∃ j : Nat, j ≤ k ∧ i = .int .i64 j ∧ Hid (OB wr w.heap.size u (l ++ lowB n j)) ∧ Below w.heap.size w wr)
    (fun _ i _ => k - (intOf i).toNat)
  case atStart => exact ⟨0, by omega, rfl, by simp [Hid, lowB_zero]; exact hob2, hbe⟩
  case round =>
    obtain ⟨j, hj, rfl, HO, hbr⟩ := hrel
    by_cases hlt : j < k
    · have hlen : (l ++ lowB n j).length + 1 ≤ 140737488355328 := by rw [List.length_append, lowB_length, ← HN.out]; omega
      have HLE := Lib.hid hlen
      have hx0 : 0 ≤ n / 2 ^ (8 * j) % 256 ∧ n / 2 ^ (8 * j) % 256 ≤ 255 := by omega
      clear hlen
      go_wp2_with (at_builtin; refine wpList_append_byte wr _ rfl _ _ rfl w.heap.size _ _ rfl HO.out hx0 rfl HLE.out hbr.size ?_; intro v' w3 hob3 hb3)
      go_roundw
      case rel =>
        refine ⟨j + 1, by omega, by go_num, ?_, hbr.trans hb3⟩
        show OB _ _ _ _
        rw [lowB_succ, ← List.append_assoc]; exact hob3
      case measure => simp [intOf]; omega
    · go_wp2_with fail
      go_ret
      obtain rfl : j = k := by omega
      exact ⟨_, rfl, HO.out, hbr⟩

theorem rPut_no {w : World} {v : Value} {l : List Int} (hs : BSl w v l) (hl : l.length ≤ 140737488355300) (n size : Int) (hsz : ¬ (1 ≤ size ∧ size ≤ 8)) :
    Calls Try.prog 19 #[v, .int .u64 n, .int .i64 size] w (NewB w l) := by
  obtain ⟨ao, cap, hv, _⟩ := hs.shape
  have hlen : ([] : List Int).length + l.length ≤ 140737488355328 := by simp; omega
  obtain ⟨N, hN⟩ : ∃ N, N = l.length := ⟨_, rfl⟩
  rw [← hN] at hv hl
  subst hv
  have HS := Lib.hid hs
  have HL := Lib.hid hlen
  have HN := Lib.hid hN
  clear hs hlen hN
  by_cases hk1 : 1 ≤ size
  · have hk8 : 8 < size := by omega
    go_enter Try.func19, Try.ntmps19
    go_wp2_with (at_builtin; refine wpList_append_bytes _ rfl _ _ rfl w.heap.size _ [] rfl (ob_empty w) w _ l rfl HS.out (fun p hp => World.cell?_alloc_lt w _ p hp) HL.out (by simp) ?_; intro v2 w2 hob2 hb2 _)
    go_ret
    exact ⟨_, rfl, hob2, ((Below.refl _ _).alloc (Nat.le_refl _) _).trans hb2⟩
  · go_enter Try.func19, Try.ntmps19
    go_wp2_with (at_builtin; refine wpList_append_bytes _ rfl _ _ rfl w.heap.size _ [] rfl (ob_empty w) w _ l rfl HS.out (fun p hp => World.cell?_alloc_lt w _ p hp) HL.out (by simp) ?_; intro v2 w2 hob2 hb2 _)
    go_ret
    exact ⟨_, rfl, hob2, ((Below.refl _ _).alloc (Nat.le_refl _) _).trans hb2⟩

theorem rPut_any {w : World} {v : Value} {l : List Int} (hs : BSl w v l) (hl : l.length ≤ 140737488355300) (n size : Int) (h0 : 0 ≤ n) (h1 : n < 18446744073709551616) :
    Calls Try.prog 19 #[v, .int .u64 n, .int .i64 size] w (NewB w (putS l n size)) := by
  unfold putS
  by_cases h : 1 ≤ size ∧ size ≤ 8
  · rw [if_pos h]
    exact rPut_at hs hl n size size.toNat (by omega) (by omega) (by omega) h0 h1
  · rw [if_neg h]
    exact rPut_no hs hl n size h

end Go.Proofs.Ytmjndpmpeidhaaa
