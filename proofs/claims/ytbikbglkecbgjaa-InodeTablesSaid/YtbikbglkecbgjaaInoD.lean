/- Contracts: longest, Formed; the reference's FormedInode; awake of layer 7. -/
import Derived.Test.YtbikbglkecbgjaaInoE
namespace Go.Proofs.Ytbikbglkecbgjaa
open Go.RowKit
set_option linter.unusedVariables false

/-- The greatest size of a kind. -/
def most (kd : Int) : Int := if kd = 3 then 200 else 35328
def zeroI : List Int := [0, 0, 0, 0, 0, 0, 0, 0, 0, 0, 0, 0, 0, 0]
def frmN (kd ln sz mp : Int) (D : List Int) : Bool := decide (1 ≤ kd ∧ kd ≤ 3) && (decide (0 ≤ ln ∧ ln ≤ 200) && (decide (0 ≤ sz ∧ sz ≤ most kd) && (locS D && inB mp)))
/-- Is the inode well formed? -/
def frmI (L : List Int) : Bool := if L.getD 0 0 = 0 then decide (L = zeroI) else frmN (L.getD 0 0) (L.getD 1 0) (L.getD 2 0) (L.getD 13 0) ((L.drop 3).take 10)

theorem iLongest_yes (kd : Int) (h : 1 ≤ kd ∧ kd ≤ 3) (w : World) : Calls Try.prog 27 #[.int .i64 kd] w fun e w' => e = .returned (.tuple #[.int .i64 (most kd), .bool true]) ∧ w = w' := by
  have : kd = 1 ∨ kd = 2 ∨ kd = 3 := by omega
  rcases this with rfl | rfl | rfl
  all_goals
    clear h
    go_enter Try.func27, Try.ntmps27
    go_wp2
    go_ret2
    exact ⟨rfl, rfl⟩
theorem iLongest_no (kd : Int) (h : ¬ (1 ≤ kd ∧ kd ≤ 3)) (w : World) : Calls Try.prog 27 #[.int .i64 kd] w fun e w' => e = .returned (.tuple #[.int .i64 0, .bool false]) ∧ w = w' := by
  have h1 : (kd == 1) = false := by simp; omega
  have h2 : (kd == 2) = false := by simp; omega
  have h3 : (kd == 3) = false := by simp; omega
  clear h
  go_enter Try.func27, Try.ntmps27
  go_wp2
  go_ret2
  exact ⟨rfl, rfl⟩

theorem iForm_zero (kd ln sz d0 d1 d2 d3 d4 d5 d6 d7 d8 d9 mp : Int) (h : kd = 0) (w : World) : Calls Try.prog 12 #[.agg #[.int .i64 kd, .int .i64 ln, .int .i64 sz, .int .i64 d0, .int .i64 d1, .int .i64 d2, .int .i64 d3, .int .i64 d4, .int .i64 d5, .int .i64 d6, .int .i64 d7, .int .i64 d8, .int .i64 d9, .int .i64 mp]] w fun e w' => e = .returned (.bool (decide ([kd, ln, sz, d0, d1, d2, d3, d4, d5, d6, d7, d8, d9, mp] = zeroI))) ∧ Below w.heap.size w w' := by
  have hb := below_box w (.cells #[.int .i64 kd, .int .i64 ln, .int .i64 sz, .int .i64 d0, .int .i64 d1, .int .i64 d2, .int .i64 d3, .int .i64 d4, .int .i64 d5, .int .i64 d6, .int .i64 d7, .int .i64 d8, .int .i64 d9, .int .i64 mp] 39)
  have hr := heap_alloc_new w (.cells #[.int .i64 kd, .int .i64 ln, .int .i64 sz, .int .i64 d0, .int .i64 d1, .int .i64 d2, .int .i64 d3, .int .i64 d4, .int .i64 d5, .int .i64 d6, .int .i64 d7, .int .i64 d8, .int .i64 d9, .int .i64 mp] 39)
  have hrg : (w.alloc (.cells #[.int .i64 kd, .int .i64 ln, .int .i64 sz, .int .i64 d0, .int .i64 d1, .int .i64 d2, .int .i64 d3, .int .i64 d4, .int .i64 d5, .int .i64 d6, .int .i64 d7, .int .i64 d8, .int .i64 d9, .int .i64 mp] 39)).rangeAt w.heap.size 0 (iC [kd, ln, sz, d0, d1, d2, d3, d4, d5, d6, d7, d8, d9, mp]) := io_range hr
  have HRG := Lib.hid hrg
  have u1 := Try.underlying39
  clear hr hrg
  have hk : (kd == 0) = true := by simp [h]
  clear h
  go_enter Try.func12, Try.ntmps12
  go_wp2_with (first
    | (with_reducible refine wpList_load_nums rfl 39 (.tmp 1) rfl w.heap.size 0 rfl [kd, ln, sz, d0, d1, d2, d3, d4, d5, d6, d7, d8, d9, mp] _ HRG.out u1 rfl rfl ?_)
    | (with_reducible refine wpList_eqIno rfl (.tmp 8) (.tmp 9) rfl [kd, ln, sz, d0, d1, d2, d3, d4, d5, d6, d7, d8, d9, mp] zeroI rfl rfl rfl rfl ?_))
  go_ret
  exact ⟨rfl, hb⟩
theorem run_slice_arr10 (W : World) (a : Addr) : (Instr.sliceAt 37 (.pointer (some a)) none none none).run Try.prog W = .ok (.slice (some a) 10 10) W := by
  obtain ⟨i, h2, h3, h4, h5⟩ := info_parts infoI64
  have l10 : Try.prog.arrayLen 37 = 10 := by kernel_rfl
  have e10 : Try.prog.elem 37 = 3 := by kernel_rfl
  obtain ⟨a1, a2, a3⟩ := a
  simp [Instr.sliceAt, run_underlying Try.underlying37, sizeOf, typeInfo, h2, h4, slicedAt, Addr.add, Instr.sureAddr, Instr.sliceBounds, asInt, asIntOf]
theorem iForm_kind (kd ln sz d0 d1 d2 d3 d4 d5 d6 d7 d8 d9 mp : Int) (h0 : kd ≠ 0) (h : ¬ (1 ≤ kd ∧ kd ≤ 3)) (w : World) : Calls Try.prog 12 #[.agg #[.int .i64 kd, .int .i64 ln, .int .i64 sz, .int .i64 d0, .int .i64 d1, .int .i64 d2, .int .i64 d3, .int .i64 d4, .int .i64 d5, .int .i64 d6, .int .i64 d7, .int .i64 d8, .int .i64 d9, .int .i64 mp]] w fun e w' => e = .returned (.bool false) ∧ Below w.heap.size w w' := by
  have hb := below_box w (.cells #[.int .i64 kd, .int .i64 ln, .int .i64 sz, .int .i64 d0, .int .i64 d1, .int .i64 d2, .int .i64 d3, .int .i64 d4, .int .i64 d5, .int .i64 d6, .int .i64 d7, .int .i64 d8, .int .i64 d9, .int .i64 mp] 39)
  have KL := Lib.hid (iLongest_no kd h)
  have hk : (kd == 0) = false := by simp [h0]
  clear h h0
  go_enter Try.func12, Try.ntmps12
  go_wp2_with (first
    | (go_at_call 27; with_reducible refine (KL.out _).mono ?_; rintro e w' ⟨rfl, rfl⟩))
  go_ret
  exact ⟨rfl, hb⟩
theorem iForm_n (kd ln sz d0 d1 d2 d3 d4 d5 d6 d7 d8 d9 mp : Int) (h : 1 ≤ kd ∧ kd ≤ 3) (w : World) : Calls Try.prog 12 #[.agg #[.int .i64 kd, .int .i64 ln, .int .i64 sz, .int .i64 d0, .int .i64 d1, .int .i64 d2, .int .i64 d3, .int .i64 d4, .int .i64 d5, .int .i64 d6, .int .i64 d7, .int .i64 d8, .int .i64 d9, .int .i64 mp]] w fun e w' => e = .returned (.bool (frmN kd ln sz mp [d0, d1, d2, d3, d4, d5, d6, d7, d8, d9])) ∧ Below w.heap.size w w' := by
  have hb := below_box w (.cells #[.int .i64 kd, .int .i64 ln, .int .i64 sz, .int .i64 d0, .int .i64 d1, .int .i64 d2, .int .i64 d3, .int .i64 d4, .int .i64 d5, .int .i64 d6, .int .i64 d7, .int .i64 d8, .int .i64 d9, .int .i64 mp] 39)
  have hr : (w.alloc (.cells #[.int .i64 kd, .int .i64 ln, .int .i64 sz, .int .i64 d0, .int .i64 d1, .int .i64 d2, .int .i64 d3, .int .i64 d4, .int .i64 d5, .int .i64 d6, .int .i64 d7, .int .i64 d8, .int .i64 d9, .int .i64 mp] 39)).heap[w.heap.size]? = some (iO [kd, ln, sz, d0, d1, d2, d3, d4, d5, d6, d7, d8, d9, mp] 39) := heap_alloc_new w _
  have KL := Lib.hid (iLongest_yes kd h)
  have hk : (kd == 0) = false := by simp; omega
  have hsl := run_slice_arr10 (w.alloc (.cells #[.int .i64 kd, .int .i64 ln, .int .i64 sz, .int .i64 d0, .int .i64 d1, .int .i64 d2, .int .i64 d3, .int .i64 d4, .int .i64 d5, .int .i64 d6, .int .i64 d7, .int .i64 d8, .int .i64 d9, .int .i64 mp] 39)) ⟨w.heap.size, 3, none⟩
  unfold frmN
  rw [decide_eq_true h, Bool.true_and]
  obtain ⟨M, hM⟩ : ∃ M, M = most kd := ⟨_, rfl⟩
  rw [← hM] at KL ⊢
  clear hM h
  obtain ⟨B1, h1⟩ : ∃ B, decide (0 ≤ ln ∧ ln ≤ 200) = B := ⟨_, rfl⟩
  obtain ⟨B2, h2⟩ : ∃ B, decide (0 ≤ sz ∧ sz ≤ M) = B := ⟨_, rfl⟩
  obtain ⟨B3, h3⟩ : ∃ B, locS [d0, d1, d2, d3, d4, d5, d6, d7, d8, d9] = B := ⟨_, rfl⟩
  obtain ⟨B4, h4⟩ : ∃ B, inB mp = B := ⟨_, rfl⟩
  rw [h1, h2, h3, h4]
  have hd : ISl (w.alloc (.cells #[.int .i64 kd, .int .i64 ln, .int .i64 sz, .int .i64 d0, .int .i64 d1, .int .i64 d2, .int .i64 d3, .int .i64 d4, .int .i64 d5, .int .i64 d6, .int .i64 d7, .int .i64 d8, .int .i64 d9, .int .i64 mp] 39)) (.slice (some ⟨w.heap.size, 3, none⟩) 10 10) [d0, d1, d2, d3, d4, d5, d6, d7, d8, d9] := .inr ⟨_, _, rfl, fun j hj => by
    refine ⟨by simp, rfl, ?_⟩
    have hj : j < 10 := hj
    have hx := io_cell hr (3 + j) (by simp; omega)
    show (w.alloc _).cell? ⟨w.heap.size, 3 + j, none⟩ = _
    rw [hx, show 3 + j = j + 3 by omega]
    have : j = 0 ∨ j = 1 ∨ j = 2 ∨ j = 3 ∨ j = 4 ∨ j = 5 ∨ j = 6 ∨ j = 7 ∨ j = 8 ∨ j = 9 := by omega
    rcases this with rfl | rfl | rfl | rfl | rfl | rfl | rfl | rfl | rfl | rfl <;> rfl⟩
  have K1 := Lib.hid (iWithin_is ln 200 B1 h1)
  have K2 := Lib.hid (iWithin_is sz M B2 h2)
  have KD := Lib.hid (iLocated_is hd (by simp) B3 h3)
  have K4 := Lib.hid (iIsBlock_is mp B4 h4)
  clear h1 h2 h3 h4 hd hr
  cases B1
  case false =>
    go_enter Try.func12, Try.ntmps12
    go_wp2_with (first
      | (go_at_call 27; with_reducible refine (KL.out _).mono ?_; rintro e w' ⟨rfl, rfl⟩)
      | (go_at_call 28; with_reducible refine (K1.out _).mono ?_; rintro e w' ⟨rfl, rfl⟩)
      | (go_at_call 28; with_reducible refine (K2.out _).mono ?_; rintro e w' ⟨rfl, rfl⟩)
      | (go_at_call 29; refine KD.out.mono ?_; rintro e w' ⟨rfl, rfl⟩)
      | (go_at_call 30; with_reducible refine (K4.out _).mono ?_; rintro e w' ⟨rfl, rfl⟩))
    go_ret
    exact ⟨rfl, hb⟩
  cases B2
  case false =>
    go_enter Try.func12, Try.ntmps12
    go_wp2_with (first
      | (go_at_call 27; with_reducible refine (KL.out _).mono ?_; rintro e w' ⟨rfl, rfl⟩)
      | (go_at_call 28; with_reducible refine (K1.out _).mono ?_; rintro e w' ⟨rfl, rfl⟩)
      | (go_at_call 28; with_reducible refine (K2.out _).mono ?_; rintro e w' ⟨rfl, rfl⟩)
      | (go_at_call 29; refine KD.out.mono ?_; rintro e w' ⟨rfl, rfl⟩)
      | (go_at_call 30; with_reducible refine (K4.out _).mono ?_; rintro e w' ⟨rfl, rfl⟩))
    go_ret
    exact ⟨rfl, hb⟩
  cases B3
  case false =>
    go_enter Try.func12, Try.ntmps12
    go_wp2_with (first
      | (go_at_call 27; with_reducible refine (KL.out _).mono ?_; rintro e w' ⟨rfl, rfl⟩)
      | (go_at_call 28; with_reducible refine (K1.out _).mono ?_; rintro e w' ⟨rfl, rfl⟩)
      | (go_at_call 28; with_reducible refine (K2.out _).mono ?_; rintro e w' ⟨rfl, rfl⟩)
      | (go_at_call 29; refine KD.out.mono ?_; rintro e w' ⟨rfl, rfl⟩)
      | (go_at_call 30; with_reducible refine (K4.out _).mono ?_; rintro e w' ⟨rfl, rfl⟩))
    go_ret
    exact ⟨rfl, hb⟩
  cases B4
  case false =>
    go_enter Try.func12, Try.ntmps12
    go_wp2_with (first
      | (go_at_call 27; with_reducible refine (KL.out _).mono ?_; rintro e w' ⟨rfl, rfl⟩)
      | (go_at_call 28; with_reducible refine (K1.out _).mono ?_; rintro e w' ⟨rfl, rfl⟩)
      | (go_at_call 28; with_reducible refine (K2.out _).mono ?_; rintro e w' ⟨rfl, rfl⟩)
      | (go_at_call 29; refine KD.out.mono ?_; rintro e w' ⟨rfl, rfl⟩)
      | (go_at_call 30; with_reducible refine (K4.out _).mono ?_; rintro e w' ⟨rfl, rfl⟩))
    go_ret
    exact ⟨rfl, hb⟩
  case true =>
    go_enter Try.func12, Try.ntmps12
    go_wp2_with (first
      | (go_at_call 27; with_reducible refine (KL.out _).mono ?_; rintro e w' ⟨rfl, rfl⟩)
      | (go_at_call 28; with_reducible refine (K1.out _).mono ?_; rintro e w' ⟨rfl, rfl⟩)
      | (go_at_call 28; with_reducible refine (K2.out _).mono ?_; rintro e w' ⟨rfl, rfl⟩)
      | (go_at_call 29; refine KD.out.mono ?_; rintro e w' ⟨rfl, rfl⟩)
      | (go_at_call 30; with_reducible refine (K4.out _).mono ?_; rintro e w' ⟨rfl, rfl⟩))
    go_ret
    exact ⟨rfl, hb⟩
theorem iForm_of {L : List Int} (hL : L.length = 14) (w : World) : Calls Try.prog 12 #[.agg (iC L).toArray] w fun e w' => e = .returned (.bool (frmI L)) ∧ Below w.heap.size w w' := by
  match L, hL with
  | [kd, ln, sz, d0, d1, d2, d3, d4, d5, d6, d7, d8, d9, mp], _ =>
    show Calls Try.prog 12 #[.agg #[.int .i64 kd, .int .i64 ln, .int .i64 sz, .int .i64 d0, .int .i64 d1, .int .i64 d2, .int .i64 d3, .int .i64 d4, .int .i64 d5, .int .i64 d6, .int .i64 d7, .int .i64 d8, .int .i64 d9, .int .i64 mp]] w fun e w' => e = .returned (.bool (if kd = 0 then decide ([kd, ln, sz, d0, d1, d2, d3, d4, d5, d6, d7, d8, d9, mp] = zeroI) else frmN kd ln sz mp [d0, d1, d2, d3, d4, d5, d6, d7, d8, d9])) ∧ Below w.heap.size w w'
    by_cases h0 : kd = 0
    · rw [if_pos h0]; exact iForm_zero kd ln sz d0 d1 d2 d3 d4 d5 d6 d7 d8 d9 mp h0 w
    · rw [if_neg h0]
      by_cases h : 1 ≤ kd ∧ kd ≤ 3
      · exact iForm_n kd ln sz d0 d1 d2 d3 d4 d5 d6 d7 d8 d9 mp h w
      · have e : frmN kd ln sz mp [d0, d1, d2, d3, d4, d5, d6, d7, d8, d9] = false := by unfold frmN; rw [decide_eq_false h]; rfl
        rw [e]; exact iForm_kind kd ln sz d0 d1 d2 d3 d4 d5 d6 d7 d8 d9 mp h0 h w
theorem iForm_is {L : List Int} (hL : L.length = 14) (B : Bool) (h : frmI L = B) (w : World) : Calls Try.prog 12 #[.agg (iC L).toArray] w fun e w' => e = .returned (.bool B) ∧ Below w.heap.size w w' := by
  rw [← h]; exact iForm_of hL w

theorem awake7_any (w : World) : Calls Try.prog 5 #[] w fun e w' => e = .returned (.bool true) ∧ Below w.heap.size w w' := by
  have KF : Hid (∀ w, Calls Try.prog 12 #[.agg #[.int .i64 0, .int .i64 0, .int .i64 0, .int .i64 0, .int .i64 0, .int .i64 0, .int .i64 0, .int .i64 0, .int .i64 0, .int .i64 0, .int .i64 0, .int .i64 0, .int .i64 0, .int .i64 0]] w fun e w' => e = .returned (.bool true) ∧ Below w.heap.size w w') := Lib.hid (iForm_is (L := zeroI) rfl true (by decide))
  have KP : Hid (∀ w, Calls Try.prog 15 #[.int .i64 9] w fun e w' => e = .returned (.tuple #[.int .i64 1, .int .i64 1]) ∧ w = w') := Lib.hid (iPlace_yes 9 (by decide) (by decide))
  go_enter Try.func5, Try.ntmps5
  go_wp2_with (first
    | (go_at_call 15; refine (KP.out _).mono ?_; rintro e w' ⟨rfl, rfl⟩)
    | (go_at_call 12; refine (KF.out _).mono ?_; rintro e w2 ⟨rfl, hb2⟩))
  go_ret
  exact ⟨rfl, hb2⟩
end Go.Proofs.Ytbikbglkecbgjaa
