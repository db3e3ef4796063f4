/- Contracts: EncodeMap, DecodeMap of package inode and of the reference. -/
import Derived.Test.YtbikbglkecbgjaaInoA
namespace Go.Proofs.Ytbikbglkecbgjaa
open Go.RowKit
set_option linter.unusedVariables false

theorem pPut_two (x : Int) (h0 : 0 ≤ x) (h1 : x ≤ 65535) (w : World) : Calls Try.prog 32 #[.slice none 0 0, .int .u64 x, .int .i64 2] w (NewB w (lowB x 2)) :=
  pPut_at (bsl_nil w) (by simp) x 2 2 (by omega) (by omega) rfl h0 (by omega)
theorem iEncM_len {w : World} (ao : Option Addr) (len cap : Nat) (h : len ≠ 128) : Calls Try.prog 16 #[.slice ao len cap] w fun e w' => e = .returned (.tuple #[.slice none 0 0, .int .i64 1]) ∧ w = w' := by
  have hne : ((len : Int) != 128) = true := by simp; omega
  go_enter Try.func16, Try.ntmps16
  go_wp2
  go_ret2
  exact ⟨rfl, rfl⟩
theorem iEncM_not {w : World} {v : Value} {l : List Int} (hs : ISl w v l) (hl : l.length = 128) (h : locS l = false) : Calls Try.prog 16 #[v] w fun e w' => e = .returned (.tuple #[.slice none 0 0, .int .i64 1]) ∧ w = w' := by
  have HA := Lib.hid (iLocated_is hs (by omega) false h)
  obtain ⟨ao, cap, rfl⟩ := hs.shape
  rw [hl] at HA ⊢
  clear hs h hl
  go_enter Try.func16, Try.ntmps16
  go_wp2_with (go_at_call 29; refine HA.out.mono ?_; rintro e w' ⟨rfl, rfl⟩)
  go_ret2
  exact ⟨rfl, rfl⟩
theorem iEncM_yes {w : World} {v : Value} {l : List Int} (hs : ISl w v l) (hl : l.length = 128) (h : locS l = true) : Calls Try.prog 16 #[v] w fun e w' => ∃ u, e = .returned (.tuple #[u, .int .i64 0]) ∧ OB w' w.heap.size u (mapS l) ∧ Below w.heap.size w w' := by
  have HA := Lib.hid (iLocated_is hs (by omega) true h)
  obtain ⟨b, off, cap, rfl, hb, hc⟩ := hs.at (by omega)
  have HLO := Lib.hid ((locS_iff l).1 h)
  obtain ⟨M, hMM⟩ : ∃ M : Nat, M = 256 := ⟨_, rfl⟩
  have HMI : Hid ((256 : Int) = (M : Int)) := Lib.hid (by omega)
  have hM1 : M ≤ 1000 := by omega
  rw [hl] at HA hc HLO ⊢
  have HC := Lib.hid hc
  clear hs h hc hl hMM
  go_enter Try.func16, Try.ntmps16
  go_wp2_with (first
    | (go_at_call 29; refine HA.out.mono ?_; rintro e w' ⟨rfl, rfl⟩)
    | (at_make; refine wpList_make_u8c _ rfl _ _ rfl 0 256 0 M rfl rfl rfl HMI.out (Nat.zero_le _) (by omega) ?_))
  have HOB3 := Lib.hid (ob_made w M hM1)
  have hbw3 : Below w.heap.size w (w.alloc (.cells (Array.replicate M (.int .u8 0)) 5)) := below_box _ _
  generalize w.alloc (.cells (Array.replicate M (.int .u8 0)) 5) = w3 at HOB3 hbw3 ⊢
  go_loopw [4, 18] (fun u i wr => ∃ k : Nat, k ≤ 128 ∧ i = .int .i64 k ∧ Hid (OB wr w.heap.size u (mapK l k)) ∧ Below w.heap.size w wr) (fun _ i _ => 128 - (intOf i).toNat)
  case atStart => exact ⟨0, by omega, rfl, HOB3, hbw3⟩
  case round =>
    obtain ⟨k, hk, rfl, HOB, hbr⟩ := hrel
    clear HOB3 hbw3
    by_cases hlt : k < 128
    · have hck := (hbr.cell (p := ⟨b, off + k, none⟩) hb).trans (HC.out k hlt)
      have hbd := inB_iff.1 (HLO.out k hlt)
      have hpk : mapK l (k + 1) = mapK l k ++ lowB (l.getD k 0) 2 := rfl
      obtain ⟨x, hx⟩ : ∃ x, x = l.getD k 0 := ⟨_, rfl⟩
      rw [← hx] at hck hbd hpk
      have ek : (k : Int) < 128 := by omega
      have HPK := Lib.hid hpk
      have HL := Lib.hid (mapK_length l k)
      obtain ⟨x0, x1⟩ := hbd
      clear hx hpk
      go_wp2_with (first
        | (go_at_call 32; (with_reducible refine (pPut_two x x0 (by omega) _).mono ?_); rintro e w4 ⟨v4, rfl, hob4, hb4⟩
           have HB4 := Lib.hid (hbr.trans (hb4.mono hbr.size)))
        | (at_builtin
           refine wpList_append_bytes w4 rfl _ _ rfl w.heap.size _ (mapK l k) rfl (HOB.out.below hb4) w4 v4 (lowB x 2) rfl hob4.bsl (fun _ _ => rfl) (by rw [HL.out, lowB_length]; omega) HB4.out.size ?_
           intro v5 w5 hob5 hb5 _))
      go_roundw
      case rel => exact ⟨k + 1, by omega, by go_num, by show OB _ _ _ (mapK l (k + 1)); rw [HPK.out]; exact hob5, HB4.out.trans hb5⟩
      case measure => simp [intOf]; omega
    · obtain rfl : k = 128 := by omega
      go_wp2
      go_ret2
      exact ⟨_, rfl, HOB.out, hbr⟩

theorem iDecM_len {w : World} (ao : Option Addr) (len cap : Nat) (h : len ≠ 256) : Calls Try.prog 18 #[.slice ao len cap] w fun e w' => e = .returned (.tuple #[.slice none 0 0, .int .i64 18]) ∧ w = w' := by
  have hne : ((len : Int) != 256) = true := by simp; omega
  go_enter Try.func18, Try.ntmps18
  go_wp2
  go_ret2
  exact ⟨rfl, rfl⟩
/-- What DecodeMap hands back. -/
def DecM (b : List Int) (w : World) (e : Ending) (w' : World) : Prop :=
  (hasM b ∧ ∃ u, e = .returned (.tuple #[u, .int .i64 0]) ∧ ISl w' u (rdK b 128) ∧ Below w.heap.size w w') ∨
  (¬ hasM b ∧ e = .returned (.tuple #[.slice none 0 0, .int .i64 18]) ∧ Below w.heap.size w w')
theorem iDecM_256 {w : World} {v : Value} {l : List Int} (hs : BSl w v l) (hl : l.length = 256) : Calls Try.prog 18 #[v] w (DecM l w) := by
  obtain ⟨ao, cap, rfl, _⟩ := hs.shape
  obtain ⟨M, hMM⟩ : ∃ M : Nat, M = 128 := ⟨_, rfl⟩
  have HMI : Hid ((128 : Int) = (M : Int)) := Lib.hid (by omega)
  have hM1 : M ≤ 1000 := by omega
  have HM := Lib.hid hMM
  have HS := Lib.hid hs
  have HL := Lib.hid hl
  rw [hl] at HS ⊢
  clear hMM hs hl
  go_enter Try.func18, Try.ntmps18
  go_wp2_with (at_make; refine wpList_make_int _ rfl _ _ rfl _ M rfl rfl HMI.out (by omega) ?_)
  have hz : (w.alloc (iO (List.replicate M 0) 3)).heap[w.heap.size]? = some (iO (rdTill l M 0) 3) := by
    rw [rdTill_zero]; exact heap_alloc_new w _
  have hb2 : Below w.heap.size w (w.alloc (iO (List.replicate M 0) 3)) := below_box _ _
  have hsz : w.heap.size < (w.alloc (iO (List.replicate M 0) 3)).heap.size := by simp
  generalize w.alloc (iO (List.replicate M 0) 3) = w2 at hz hb2 hsz ⊢
  have HZ := Lib.hid hz
  clear hz
  go_loopw [14] (fun i wr => ∃ k : Nat, k ≤ M ∧ i = .int .i64 k ∧ Hid (wr.heap[w.heap.size]? = some (iO (rdTill l M k) 3)) ∧ Below w.heap.size w wr) (fun i _ => M - (intOf i).toNat)
  case atStart => exact ⟨0, by omega, rfl, HZ, hb2⟩
  case round =>
    obtain ⟨k, hk, rfl, HR, hbr⟩ := hrel
    clear HZ hb2 hsz
    by_cases hlt : k < M
    · have ekM : (k : Int) < (M : Int) := by omega
      have hk128 : k < 128 := by have := HM.out; omega
      have hsr := HS.out.below hbr
      have T1 := pGetW hsr (by rw [HL.out]; decide) (2 * k) 2 ((k : Int) * 2) 2 (by push_cast; omega) rfl (by omega) (by omega) (by rw [HL.out]; omega) _ rfl
      have b1 := getV2_le (byt_mem hsr.1) (2 * k)
      have hps := rdTill_set l M k
      obtain ⟨x, hx⟩ : ∃ x, x = getV l (2 * k) 2 := ⟨_, rfl⟩
      rw [← hx] at T1 b1 hps
      have H1 := Lib.hid T1
      have ck := io_cell HR.out k (by rw [rdTill_length]; exact hlt)
      have fk := io_free HR.out k
      have hw6 := Wrote.setCell wr w.heap.size k (.int .i64 x)
      have hr6 := io_set HR.out k x
      rw [hps] at hr6
      have HR6 := Lib.hid hr6
      have HB6 := Lib.hid (hbr.trans (hw6.below (Nat.le_refl _)))
      obtain ⟨b10, b11⟩ := b1
      clear T1 hx hsr hps hr6 hw6
      go_wp2_with (go_at_call 33; (with_reducible refine H1.out.mono ?_); rintro e w3 ⟨rfl, rfl⟩)
      go_roundw
      case rel => exact ⟨k + 1, by omega, by go_num, HR6.out, HB6.out⟩
      case measure => simp [intOf]; omega
    · have hr := HR.out
      have hkM : k = M := by omega
      rw [hkM, rdTill_full] at hr
      have hob := IR.of_row (B := w.heap.size) (Nat.le_refl _) hr (by rw [rdK_length]; simp only [maxLen]; omega)
      rw [rdK_length] at hob
      have hob2 : ISl wr (.slice (some ⟨w.heap.size, 0, none⟩) M M) (rdK l 128) := by
        have := hob.sl; rw [show rdK l 128 = rdK l M by rw [HM.out]]; exact this
      have HOB := Lib.hid hob2
      have HBR := Lib.hid hbr
      clear hr hob
      cases hf : locS (rdK l 128)
      all_goals
        have HF := Lib.hid hf
        have HA := Lib.hid (iLocated_is hob2 (by rw [rdK_length]; decide) _ hf)
        clear hf hob2
      · go_wp2_with (go_at_call 29; refine HA.out.mono ?_; rintro e w3 ⟨rfl, rfl⟩)
        go_ret2
        exact .inr ⟨(fun h => by have h2 := h.2; rw [HF.out] at h2; cases h2), rfl, hbr⟩
      · go_wp2_with (go_at_call 29; refine HA.out.mono ?_; rintro e w3 ⟨rfl, rfl⟩)
        go_ret2
        exact .inl ⟨⟨HL.out, HF.out⟩, _, rfl, HOB.out, hbr⟩
theorem iDecM_any {w : World} {v : Value} {l : List Int} (hs : BSl w v l) : Calls Try.prog 18 #[v] w (DecM l w) := by
  by_cases h : l.length = 256
  · exact iDecM_256 hs h
  · obtain ⟨ao, cap, rfl, _⟩ := hs.shape
    exact (iDecM_len ao _ cap h).mono fun e w' ⟨he, hw⟩ => .inr ⟨fun hp => h hp.1, he, by rw [← hw]; exact Below.refl _ _⟩
end Go.Proofs.Ytbikbglkecbgjaa
