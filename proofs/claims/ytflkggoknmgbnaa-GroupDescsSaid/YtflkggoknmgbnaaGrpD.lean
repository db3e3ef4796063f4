/- Contracts: group's Owners, the law's sameOwners. -/
import Derived.Test.YtflkggoknmgbnaaGrpR
import Derived.BigQuiet
namespace Go.Proofs.Ytflkggoknmgbnaa
open Go.RowKit BM
set_option linter.unusedVariables false

theorem pGet2 {w : World} {v : Value} {c : List Int} (hs : BSl w v c) (hc : c.length ≤ 100000) (a : Nat) (ha : a + 2 ≤ c.length) (y : Int) (hy : y = getV c a 2) : Calls Try.prog 37 #[v, .int .i64 (a : Int), .int .i64 2] w fun e w' => e = .returned (.tuple #[.int .u64 y, .bool true]) ∧ w = w' := by
  have hg := pGet_any hs (by omega) (a : Int) 2 (by omega) (by omega)
  have hn : getN c (a : Int) 2 = y := by unfold getN; rw [if_pos (by omega), hy]; rfl
  have hb : gotB c (a : Int) 2 = true := decide_eq_true (by omega)
  rw [hn, hb] at hg
  exact hg
theorem grOwn_len {w : World} (ao : Option Addr) (len cap : Nat) (h : len ≠ 256) : Calls Try.prog 15 #[.slice ao len cap] w fun e w' => e = .returned (.tuple #[.slice none 0 0, .int .i64 18]) ∧ w = w' := by
  have hne : ((len : Int) != 256) = true := by simp; omega
  go_enter Try.func15, Try.ntmps15
  go_wp2
  go_ret2
  exact ⟨rfl, rfl⟩
theorem own_all (l : List Int) : allO (ownK l 64) = frmK (ownK l 64) 64 := by rw [allO, ownK_length]; rfl
theorem grOwn_256 {w : World} {v : Value} {l : List Int} (hs : BSl w v l) (hl : l.length = 256) : Calls Try.prog 15 #[v] w (OwnOut l w) := by
  obtain ⟨ao, cap, rfl, _⟩ := hs.shape
  obtain ⟨M, hMM⟩ : ∃ M : Nat, M = 64 := ⟨_, rfl⟩
  have HMI : Hid ((64 : Int) = (M : Int)) := Lib.hid (by omega)
  have hM1 : M ≤ 1000 := by omega
  have HM := Lib.hid hMM
  have HS := Lib.hid hs
  have HL := Lib.hid hl
  rw [hl] at HS ⊢
  clear hMM hs hl
  go_enter Try.func15, Try.ntmps15
  go_wp2_with (at_make; refine wpList_make_ow _ rfl _ _ rfl _ M rfl rfl HMI.out (by omega) ?_)
  have hz : (w.alloc (.cells (ownC (List.replicate M (0, 0))).toArray 49)).heap[w.heap.size]? = some (.cells (ownC (pref (ownJ l) 0)).toArray 49 (0, 0)) := by
    rw [pref_zero, ← HM.out]; exact heap_alloc_new w _
  have hb2 : Below w.heap.size w (w.alloc (.cells (ownC (List.replicate M (0, 0))).toArray 49)) := below_box _ _
  generalize w.alloc (.cells (ownC (List.replicate M (0, 0))).toArray 49) = w2 at hz hb2 ⊢
  have HZ := Lib.hid hz
  clear hz
  go_loopw [16] (fun i wr => ∃ k : Nat, k ≤ 64 ∧ i = .int .i64 k ∧ Hid (wr.heap[w.heap.size]? = some (.cells (ownC (pref (ownJ l) k)).toArray 49 (0, 0))) ∧ Below w.heap.size w wr) (fun i _ => 64 - (intOf i).toNat)
  case atStart => exact ⟨0, by omega, rfl, HZ, hb2⟩
  case round =>
    obtain ⟨k, hk, rfl, HR, hbr⟩ := hrel
    clear HZ hb2
    by_cases hlt : k < 64
    · have ekM : (k : Int) < (M : Int) := by have := HMI.out; omega
      have ekN : k < M := by have := HM.out; omega
      have ek : (k : Int) < 64 := by omega
      have hsr := HS.out.below hbr
      have T1 := pGet2 hsr (by rw [HL.out]; decide) (4 * k) (by rw [HL.out]; omega) _ rfl
      have T2 := pGet2 hsr (by rw [HL.out]; decide) (4 * k + 2) (by rw [HL.out]; omega) _ rfl
      have b1 := getV2_bd (byt_mem hsr.1) (4 * k)
      have b2 := getV2_bd (byt_mem hsr.1) (4 * k + 2)
      have hps := pref_set (ownJ l) k
      rw [ownJ] at hps
      obtain ⟨x, hx⟩ : ∃ x, x = getV l (4 * k) 2 := ⟨_, rfl⟩
      obtain ⟨y, hy⟩ : ∃ y, y = getV l (4 * k + 2) 2 := ⟨_, rfl⟩
      rw [← hx] at T1 b1 hps
      rw [← hy] at T2 b2 hps
      rw [show ((4 * k : Nat) : Int) = (k : Int) * 4 by push_cast; omega] at T1
      rw [show ((4 * k + 2 : Nat) : Int) = (k : Int) * 4 + 2 by push_cast; omega] at T2
      have H1 := Lib.hid T1
      have H2 := Lib.hid T2
      have HPS := Lib.hid hps
      clear T1 T2 hx hy hsr hps
      obtain ⟨b10, b11⟩ := b1
      obtain ⟨b20, b21⟩ := b2
      go_wp2_with (first
        | (go_at_call 37; (with_reducible refine H1.out.mono ?_); rintro e w3 ⟨rfl, rfl⟩)
        | (go_at_call 37; (with_reducible refine H2.out.mono ?_); rintro e w3 ⟨rfl, rfl⟩)
        | (with_reducible refine wpList_store_ow rfl (.tmp 41) (.tmp 40) rfl w.heap.size k (pref (ownJ l) k) x y rfl rfl HR.out (by rw [pref_length]; exact hlt) ?_; intro w4 hw4 hr4
           rw [HPS.out] at hr4))
      go_roundw
      case rel => exact ⟨k + 1, by omega, by go_num, hr4, hbr.trans (hw4.below (Nat.le_refl _))⟩
      case measure => simp [intOf]; omega
    · obtain rfl : k = 64 := by omega
      have hkM : ¬ (64 : Nat) < M := by have := HM.out; omega
      have hr := HR.out
      rw [pref_full] at hr
      have hob0 := OwR.of_row (B := w.heap.size) (owB_ownK (byt_mem HS.out.1) 64) (Nat.le_refl _) hr (by rw [ownK_length]; decide)
      rw [ownK_length] at hob0
      have hob : OwR wr w.heap.size (.slice (some ⟨w.heap.size, 0, none⟩) M M) (ownK l 64) := by rw [HM.out]; exact hob0
      clear hob0
      have HOB := Lib.hid hob
      have ho := own_all l
      cases hf : frmK (ownK l 64) 64
      all_goals
        rw [hf] at ho
        have HF := Lib.hid hf
        have HA := Lib.hid (grAll_is hob.sl _ ho)
        clear hf ho hr
      all_goals clear hob
      · go_wp2_with (go_at_call 43; refine HA.out.mono ?_; rintro e w3 ⟨rfl, hb3⟩)
        go_ret2
        exact .inr ⟨(fun h => by have h2 := h.2; rw [HF.out] at h2; cases h2), rfl, hbr.trans (hb3.mono hbr.size)⟩
      · go_wp2_with (go_at_call 43; refine HA.out.mono ?_; rintro e w3 ⟨rfl, hb3⟩)
        go_ret2
        exact .inl ⟨⟨HL.out, HF.out⟩, _, rfl, HOB.out.below hb3, hbr.trans (hb3.mono hbr.size)⟩
theorem grOwn_any {w : World} {v : Value} {l : List Int} (hs : BSl w v l) : Calls Try.prog 15 #[v] w (OwnOut l w) := by
  by_cases h : l.length = 256
  · exact grOwn_256 hs h
  · obtain ⟨ao, cap, rfl, _⟩ := hs.shape
    exact (grOwn_len ao _ cap h).mono fun e w' ⟨he, hw⟩ => .inr ⟨fun hp => h hp.1, he, by rw [← hw]; exact Below.refl _ _⟩

theorem OwSl.open' {w : World} {v : Value} {O : List (Int × Int)} (h : OwSl w v O) : ∃ ao cap, v = .slice ao O.length cap ∧ (0 < O.length → ∃ b off, ao = some ⟨b, off, none⟩ ∧ b < w.heap.size ∧
    ∀ j, j < O.length → w.cell? ⟨b, off + j * 2, none⟩ = some (.int .u16 (O.getD j (0, 0)).1) ∧ w.cell? ⟨b, off + j * 2 + 1, none⟩ = some (.int .u16 (O.getD j (0, 0)).2)) := by
  by_cases h0 : 0 < O.length
  · obtain ⟨b, off, cap, rfl, hb, hc⟩ := h.at h0
    exact ⟨_, cap, rfl, fun _ => ⟨b, off, rfl, hb, hc⟩⟩
  · obtain ⟨ao, cap, rfl⟩ := h.shape
    exact ⟨ao, cap, rfl, fun h => absurd h h0⟩
/-- The law's sameOwners: the same owners are told to be so. -/
theorem sameO6_any {w : World} {v1 v2 : Value} {O : List (Int × Int)} (hO : O.length ≤ 1000) (h1 : OwSl w v1 O) (h2 : OwSl w v2 O) :
    Calls Try.prog 17 #[v1, v2] w fun e w' => e = .returned (.bool true) ∧ ∃ m, w' = w.drewN m := by
  obtain ⟨a1, c1, rfl, k1⟩ := h1.open'
  obtain ⟨a2, c2, rfl, k2⟩ := h2.open'
  obtain ⟨n, hn⟩ : ∃ n, n = O.length := ⟨_, rfl⟩
  clear h1 h2
  rw [← hn] at k1 k2 hO ⊢
  have H1 := Lib.hid k1
  have H2 := Lib.hid k2
  clear k1 k2 hn
  go_enter Try.func17, Try.ntmps17
  go_wp2
  go_loopw [13] (fun i wr => ∃ k : Nat, k ≤ n ∧ i = .int .i64 k ∧ ∃ m, wr = w.drewN m) (fun i _ => n - (intOf i).toNat)
  case atStart => exact ⟨0, by omega, rfl, 0, rfl⟩
  case round =>
    obtain ⟨k, hk, rfl, m, rfl⟩ := hrel
    by_cases hlt : k < n
    · obtain ⟨b1, o1, rfl, _, f1⟩ := H1.out (by omega)
      obtain ⟨b2, o2, rfl, _, f2⟩ := H2.out (by omega)
      obtain ⟨c1, c2⟩ := f1 k hlt
      obtain ⟨d1, d2⟩ := f2 k hlt
      clear f1 f2
      obtain ⟨x, hx⟩ : ∃ x, x = (O.getD k (0, 0)).1 := ⟨_, rfl⟩
      obtain ⟨y, hy⟩ : ∃ y, y = (O.getD k (0, 0)).2 := ⟨_, rfl⟩
      rw [← hx] at c1 d1
      rw [← hy] at c2 d2
      clear hx hy
      go_wp2
      go_quiet (fail)
      go_wp2
      go_roundw
      case rel => exact ⟨k + 1, by omega, by go_num, _, rfl⟩
      case measure => simp [intOf]; omega
    · go_wp2
      go_ret
      exact ⟨rfl, m, rfl⟩

end Go.Proofs.Ytflkggoknmgbnaa
