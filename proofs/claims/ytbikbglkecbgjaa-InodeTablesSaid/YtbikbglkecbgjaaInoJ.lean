/- Contract of package inode: Decode. -/
import Derived.Test.YtbikbglkecbgjaaInoI
namespace Go.Proofs.Ytbikbglkecbgjaa
open Go.RowKit
set_option linter.unusedVariables false

theorem iDec_len {w : World} (ao : Option Addr) (len cap : Nat) (h : len ≠ 256) : Calls Try.prog 9 #[.slice ao len cap] w fun e w' => e = .returned (.tuple #[.slice none 0 0, .int .i64 18]) ∧ w = w' := by
  have hne : ((len : Int) != 256) = true := by simp; omega
  go_enter Try.func9, Try.ntmps9
  go_wp2
  go_ret2
  exact ⟨rfl, rfl⟩
/-- What Decode hands back. -/
def DecT7 (l : List Int) (w : World) (e : Ending) (w' : World) : Prop :=
  (hasT l ∧ ∃ u, e = .returned (.tuple #[u, .int .i64 0]) ∧ NSl w' u (rdT l 8) ∧ Below w.heap.size w w') ∨
  (¬ hasT l ∧ e = .returned (.tuple #[.slice none 0 0, .int .i64 18]) ∧ Below w.heap.size w w')
theorem iEnc_yes {w : World} {v : Value} {O : List (List Int)} (hs : NSl w v O) (h : allF O = true) : Calls Try.prog 6 #[v] w fun e w' => ∃ u, e = .returned (.tuple #[u, .int .i64 0]) ∧ OB w' w.heap.size u (encT O) ∧ Below w.heap.size w w' :=
  (iEnc_any hs).mono fun e w' ho => ho.elim (fun h1 => h1.2) fun h1 => by rw [h] at h1; cases h1.1
theorem iEnc_no {w : World} {v : Value} {O : List (List Int)} (hs : NSl w v O) (h : allF O = false) : Calls Try.prog 6 #[v] w fun e w' => e = .returned (.tuple #[.slice none 0 0, .int .i64 1]) ∧ Below w.heap.size w w' :=
  (iEnc_any hs).mono fun e w' ho => ho.elim (fun h1 => by rw [h] at h1; cases h1.1) fun h1 => h1.2
set_option maxHeartbeats 2000000 in
theorem iDec_256 {w : World} {v : Value} {l : List Int} (hs : BSl w v l) (hl : l.length = 256) : Calls Try.prog 9 #[v] w (DecT7 l w) := by
  obtain ⟨b, off, cap, rfl, hcap, hb⟩ := hs.open' (by omega)
  obtain ⟨M, hMM⟩ : ∃ M : Nat, M = 8 := ⟨_, rfl⟩
  have HMI : Hid ((8 : Int) = (M : Int)) := Lib.hid (by omega)
  have hM1 : M ≤ 1000 := by omega
  have HM := Lib.hid hMM
  have HS := Lib.hid hs
  have HL := Lib.hid hl
  have HMID := Lib.hid (fun W (h : BSl W (.slice (some ⟨b, off, none⟩) l.length cap) l) lo (hm : lo + 32 ≤ l.length) => h.mid lo 32 hm)
  rw [hl] at HS HMID hcap ⊢
  clear hMM hs hl
  go_enter Try.func9, Try.ntmps9
  go_wp2_with (at_make; refine wpList_make_ino _ rfl _ _ rfl _ M rfl rfl HMI.out (by omega) ?_)
  have hz : (w.alloc (.cells (nC (List.replicate M zeroI)).toArray 39)).heap[w.heap.size]? = some (.cells (nC (rdTill7 l M 0)).toArray 39 (0, 0)) := by
    rw [rdTill7_zero]; exact heap_alloc_new w _
  have hb2 : Below w.heap.size w (w.alloc (.cells (nC (List.replicate M zeroI)).toArray 39)) := below_box _ _
  generalize w.alloc (.cells (nC (List.replicate M zeroI)).toArray 39) = w2 at hz hb2 ⊢
  have HZ := Lib.hid hz
  clear hz
  go_loopw [14] (fun i wr => ∃ k : Nat, k ≤ M ∧ i = .int .i64 k ∧ Hid (wr.heap[w.heap.size]? = some (.cells (nC (rdTill7 l M k)).toArray 39 (0, 0))) ∧ Below w.heap.size w wr) (fun i _ => M - (intOf i).toNat)
  case atStart => exact ⟨0, by omega, rfl, HZ, hb2⟩
  case round =>
    obtain ⟨k, hk, rfl, HR, hbr⟩ := hrel
    clear HZ hb2
    by_cases hlt : k < M
    · have ekM : (k : Int) < (M : Int) := by omega
      have hk8 : k < 8 := by have := HM.out; omega
      have hsr := HMID.out _ (HS.out.below hbr) (32 * k) (by omega)
      have hch : (l.drop (32 * k)).take 32 = chunk l k := rfl
      rw [hch] at hsr
      have KR := Lib.hid (iRead_of hsr (chunk_length HL.out k hk8))
      have hps := rdTill7_set l M k
      have hj : rdJ l k = rd7 (chunk l k) := rfl
      rw [hj] at hps
      have hx14 := rd7_length (chunk l k)
      obtain ⟨x, hx⟩ : ∃ x, x = rd7 (chunk l k) := ⟨_, rfl⟩
      rw [← hx] at KR hps hx14
      have HPS := Lib.hid hps
      have HX14 := Lib.hid hx14
      have H14 := Lib.hid (flat14 (rdTill7_14 l M k))
      have HLK : Hid (k < (rdTill7 l M k).length) := Lib.hid (by rw [rdTill7_length]; exact hlt)
      have e32 : 32 * k + 32 - 32 * k = 32 := by omega
      have ee1 : (k : Int) * 32 = ((32 * k : Nat) : Int) := by push_cast; omega
      have ee2 : ((k : Int) + 1) * 32 = ((32 * k + 32 : Nat) : Int) := by push_cast; omega
      have HE32 := Lib.hid e32
      have HE1 := Lib.hid ee1
      have HE2 := Lib.hid ee2
      have hc1 : 32 * k + 32 ≤ cap := by omega
      have hgl : w.heap.size < wr.heap.size := (Array.getElem?_eq_some_iff.1 HR.out).1
      clear hx hps hj hx14 hsr hch e32 ee1 ee2
      go_wp2_with (first
        | (with_reducible refine wpList_slice_lh rfl (.tmp 19) (.tmp 21) (.tmp 24) rfl b off 256 cap rfl ((k : Int) * 32) (((k : Int) + 1) * 32) rfl rfl (32 * k) (32 * k + 32) 32 HE32.out HE1.out HE2.out (by omega) hc1 (by omega) ?_)
        | (go_at_call 23; refine KR.out.mono ?_; rintro e w3 ⟨rfl, hb3⟩
           have hr3 : w3.heap[w.heap.size]? = some (.cells ((rdTill7 l M k).flatMap iC).toArray 39 (0, 0)) := (hb3.block _ hgl).trans HR.out)
        | (with_reducible refine wpList_store_flat (f := iC) (s := 14) rfl 39 (.tmp 27) (.tmp 26) rfl infoN7 w.heap.size k (rdTill7 l M k) x 39 rfl rfl hr3 HLK.out H14.out (by rw [iC_length]; exact HX14.out) (iC_one x) ?_
           intro w4 hw4 hr4
           rw [HPS.out] at hr4))
      go_roundw
      case rel => exact ⟨k + 1, by omega, by go_num, hr4, (hbr.trans (hb3.mono hbr.size)).trans (hw4.below (Nat.le_refl _))⟩
      case measure => simp [intOf]; omega
    · have hr := HR.out
      have hkM : k = M := by omega
      rw [hkM, rdTill7_full] at hr
      have hob := NR.of_row (B := w.heap.size) (rdT_14 l M) (Nat.le_refl _) hr (by rw [rdT_length]; simp only [maxLen]; omega)
      rw [rdT_length] at hob
      have hob2 : NSl wr (.slice (some ⟨w.heap.size, 0, none⟩) M M) (rdT l 8) := by
        have := hob.sl; rw [show rdT l 8 = rdT l M by rw [HM.out]]; exact this
      have HOB := Lib.hid hob2
      have HBR := Lib.hid hbr
      clear hr hob
      cases hf : allF (rdT l 8)
      · have HF := Lib.hid hf
        have KE := Lib.hid (iEnc_no hob2 hf)
        clear hf hob2
        go_wp2_with (go_at_call 6; refine KE.out.mono ?_; rintro e w3 ⟨rfl, hb3⟩)
        go_ret2
        exact .inr ⟨(fun h => by have h2 := h.2.1; rw [HF.out] at h2; cases h2), rfl, hbr.trans (hb3.mono hbr.size)⟩
      · have HF := Lib.hid hf
        have KE := Lib.hid (iEnc_yes hob2 hf)
        obtain ⟨B, hB⟩ : ∃ B, decide (encT (rdT l 8) = l) = B := ⟨_, rfl⟩
        have HB := Lib.hid hB
        have KQ := Lib.hid (fun W u (h1 : BSl W u (encT (rdT l 8))) (h2 : BSl W (.slice (some ⟨b, off, none⟩) 256 cap) l) => bEqual_of h1 h2)
        rw [hB] at KQ
        clear hf hob2 hB
        cases B
        · go_wp2_with (first
            | (go_at_call 6; refine KE.out.mono ?_; rintro e w3 ⟨u3, rfl, hob3, hb3⟩
               have hb03 := hbr.trans (hb3.mono hbr.size))
            | (go_at_call 24; refine (KQ.out _ _ hob3.bsl (HS.out.below hb03)).mono ?_; rintro e w4 ⟨rfl, rfl⟩))
          go_ret2
          exact .inr ⟨(fun h => of_decide_eq_false HB.out h.2.2), rfl, hb03⟩
        · go_wp2_with (first
            | (go_at_call 6; refine KE.out.mono ?_; rintro e w3 ⟨u3, rfl, hob3, hb3⟩
               have hb03 := hbr.trans (hb3.mono hbr.size))
            | (go_at_call 24; refine (KQ.out _ _ hob3.bsl (HS.out.below hb03)).mono ?_; rintro e w4 ⟨rfl, rfl⟩))
          go_ret2
          exact .inl ⟨⟨HL.out, HF.out, of_decide_eq_true HB.out⟩, _, rfl, HOB.out.below hb3, hb03⟩
theorem iDec_any {w : World} {v : Value} {l : List Int} (hs : BSl w v l) : Calls Try.prog 9 #[v] w (DecT7 l w) := by
  by_cases h : l.length = 256
  · exact iDec_256 hs h
  · obtain ⟨ao, cap, rfl, _⟩ := hs.shape
    exact (iDec_len ao _ cap h).mono fun e w' ⟨he, hw⟩ => .inr ⟨fun hp => h hp.1, he, by rw [← hw]; exact Below.refl _ _⟩
end Go.Proofs.Ytbikbglkecbgjaa
