/- Contract of the reference's FormedInode. -/
import Derived.Test.YtbikbglkecbgjaaInoD
namespace Go.Proofs.Ytbikbglkecbgjaa
open Go.RowKit
set_option linter.unusedVariables false

theorem frmN_iff (kd ln sz mp : Int) (D : List Int) : frmN kd ln sz mp D = true ↔ (1 ≤ kd ∧ kd ≤ 3) ∧ (0 ≤ ln ∧ ln ≤ 200) ∧ (0 ≤ sz ∧ sz ≤ 35328 ∧ (kd = 3 → sz ≤ 200)) ∧ locS D = true ∧ inB mp = true := by
  unfold frmN most
  simp only [Bool.and_eq_true, decide_eq_true_eq]
  by_cases h : kd = 3
  · rw [if_pos h]
    constructor
    · rintro ⟨h1, h2, h3, h4, h5⟩; exact ⟨h1, h2, ⟨h3.1, by omega, fun _ => h3.2⟩, h4, h5⟩
    · rintro ⟨h1, h2, h3, h4, h5⟩; exact ⟨h1, h2, ⟨h3.1, h3.2.2 h⟩, h4, h5⟩
  · rw [if_neg h]
    constructor
    · rintro ⟨h1, h2, h3, h4, h5⟩; exact ⟨h1, h2, ⟨h3.1, h3.2, fun e => absurd e h⟩, h4, h5⟩
    · rintro ⟨h1, h2, h3, h4, h5⟩; exact ⟨h1, h2, ⟨h3.1, h3.2.1⟩, h4, h5⟩
theorem rForm_zero (kd ln sz d0 d1 d2 d3 d4 d5 d6 d7 d8 d9 mp : Int) (h : kd = 0) (w : World) : Calls Try.prog 14 #[.agg #[.int .i64 kd, .int .i64 ln, .int .i64 sz, .int .i64 d0, .int .i64 d1, .int .i64 d2, .int .i64 d3, .int .i64 d4, .int .i64 d5, .int .i64 d6, .int .i64 d7, .int .i64 d8, .int .i64 d9, .int .i64 mp]] w fun e w' => e = .returned (.bool (decide ([kd, ln, sz, d0, d1, d2, d3, d4, d5, d6, d7, d8, d9, mp] = zeroI))) ∧ Below w.heap.size w w' := by
  have hb := below_box w (.cells #[.int .i64 kd, .int .i64 ln, .int .i64 sz, .int .i64 d0, .int .i64 d1, .int .i64 d2, .int .i64 d3, .int .i64 d4, .int .i64 d5, .int .i64 d6, .int .i64 d7, .int .i64 d8, .int .i64 d9, .int .i64 mp] 41)
  have hr := heap_alloc_new w (.cells #[.int .i64 kd, .int .i64 ln, .int .i64 sz, .int .i64 d0, .int .i64 d1, .int .i64 d2, .int .i64 d3, .int .i64 d4, .int .i64 d5, .int .i64 d6, .int .i64 d7, .int .i64 d8, .int .i64 d9, .int .i64 mp] 41)
  have hrg : (w.alloc (.cells #[.int .i64 kd, .int .i64 ln, .int .i64 sz, .int .i64 d0, .int .i64 d1, .int .i64 d2, .int .i64 d3, .int .i64 d4, .int .i64 d5, .int .i64 d6, .int .i64 d7, .int .i64 d8, .int .i64 d9, .int .i64 mp] 41)).rangeAt w.heap.size 0 (iC [kd, ln, sz, d0, d1, d2, d3, d4, d5, d6, d7, d8, d9, mp]) := io_range hr
  have HRG := Lib.hid hrg
  have u1 := Try.underlying41
  clear hr hrg
  have hk : (kd == 0) = true := by simp [h]
  clear h
  go_enter Try.func14, Try.ntmps14
  go_wp2_with (first
    | (with_reducible refine wpList_load_nums rfl 41 (.tmp 1) rfl w.heap.size 0 rfl [kd, ln, sz, d0, d1, d2, d3, d4, d5, d6, d7, d8, d9, mp] _ HRG.out u1 rfl rfl ?_)
    | (with_reducible refine wpList_eqRIno rfl (.tmp 7) (.tmp 8) rfl [kd, ln, sz, d0, d1, d2, d3, d4, d5, d6, d7, d8, d9, mp] zeroI rfl rfl rfl rfl ?_))
  go_ret
  exact ⟨rfl, hb⟩
set_option maxHeartbeats 8000000 in
theorem rForm_n (kd ln sz d0 d1 d2 d3 d4 d5 d6 d7 d8 d9 mp : Int) (h0 : kd ≠ 0) (B : Bool) (hB : B = frmN kd ln sz mp [d0, d1, d2, d3, d4, d5, d6, d7, d8, d9]) (w : World) : Calls Try.prog 14 #[.agg #[.int .i64 kd, .int .i64 ln, .int .i64 sz, .int .i64 d0, .int .i64 d1, .int .i64 d2, .int .i64 d3, .int .i64 d4, .int .i64 d5, .int .i64 d6, .int .i64 d7, .int .i64 d8, .int .i64 d9, .int .i64 mp]] w fun e w' => e = .returned (.bool B) ∧ Below w.heap.size w w' := by
  have hb := below_box w (.cells #[.int .i64 kd, .int .i64 ln, .int .i64 sz, .int .i64 d0, .int .i64 d1, .int .i64 d2, .int .i64 d3, .int .i64 d4, .int .i64 d5, .int .i64 d6, .int .i64 d7, .int .i64 d8, .int .i64 d9, .int .i64 mp] 41)
  have hr : (w.alloc (.cells #[.int .i64 kd, .int .i64 ln, .int .i64 sz, .int .i64 d0, .int .i64 d1, .int .i64 d2, .int .i64 d3, .int .i64 d4, .int .i64 d5, .int .i64 d6, .int .i64 d7, .int .i64 d8, .int .i64 d9, .int .i64 mp] 41)).heap[w.heap.size]? = some (iO [kd, ln, sz, d0, d1, d2, d3, d4, d5, d6, d7, d8, d9, mp] 41) := heap_alloc_new w _
  obtain ⟨W1, hW1⟩ : ∃ W1, W1 = w.alloc (.cells #[.int .i64 kd, .int .i64 ln, .int .i64 sz, .int .i64 d0, .int .i64 d1, .int .i64 d2, .int .i64 d3, .int .i64 d4, .int .i64 d5, .int .i64 d6, .int .i64 d7, .int .i64 d8, .int .i64 d9, .int .i64 mp] 41) := ⟨_, rfl⟩
  have hb1 : Below w.heap.size w W1 := by rw [hW1]; exact hb
  rw [← hW1] at hr
  have H2 := Lib.hid hW1.symm
  have hk : (kd == 0) = false := by simp [h0]
  have HD : Hid (∀ j, j < 10 → W1.cell? ⟨w.heap.size, 3 + j, none⟩ = some (.int .i64 ([d0, d1, d2, d3, d4, d5, d6, d7, d8, d9].getD j 0))) := fun j hj => by
    rw [io_cell hr (3 + j) (by simp; omega), show 3 + j = j + 3 by omega]
    have : j = 0 ∨ j = 1 ∨ j = 2 ∨ j = 3 ∨ j = 4 ∨ j = 5 ∨ j = 6 ∨ j = 7 ∨ j = 8 ∨ j = 9 := by omega
    rcases this with rfl | rfl | rfl | rfl | rfl | rfl | rfl | rfl | rfl | rfl <;> rfl
  have hiff := frmN_iff kd ln sz mp [d0, d1, d2, d3, d4, d5, d6, d7, d8, d9]
  rw [← hB] at hiff
  have hfalse : ∀ {P : Prop}, (B = true → P) → ¬ P → B = false := fun h hn => by
    cases hB : B
    · rfl
    · exact absurd (h hB) hn
  have HNO : Hid (¬ ((1 ≤ kd ∧ kd ≤ 3) ∧ (0 ≤ ln ∧ ln ≤ 200) ∧ (0 ≤ sz ∧ sz ≤ 35328 ∧ (kd = 3 → sz ≤ 200))) → B = false) := fun hn => hfalse (fun h => ⟨(hiff.1 h).1, (hiff.1 h).2.1, (hiff.1 h).2.2.1⟩) hn
  have HYE : Hid ((1 ≤ kd ∧ kd ≤ 3 ∧ (0 ≤ ln ∧ ln ≤ 200) ∧ (0 ≤ sz ∧ sz ≤ 35328) ∧ (kd = 3 → sz ≤ 200)) → inB mp = true → locS [d0, d1, d2, d3, d4, d5, d6, d7, d8, d9] = true → B = true) := fun h1 h2 h3 => hiff.2 ⟨⟨h1.1, h1.2.1⟩, h1.2.2.1, ⟨h1.2.2.2.1.1, h1.2.2.2.1.2, h1.2.2.2.2⟩, h3, h2⟩
  obtain ⟨B4, h4⟩ : ∃ b, inB mp = b := ⟨_, rfl⟩
  have HN4 : Hid (B4 = false → B = false) := fun h => hfalse (fun hh => (hiff.1 hh).2.2.2.2) (by rw [h4, h]; decide)
  have HND : Hid (∀ j, j < 10 → inB ([d0, d1, d2, d3, d4, d5, d6, d7, d8, d9].getD j 0) = false → B = false) := fun j hj h => hfalse (fun hh => (hiff.1 hh).2.2.2.1) (by rw [locS_no (l := [d0, d1, d2, d3, d4, d5, d6, d7, d8, d9]) (k := j) (by simpa using hj) h]; decide)
  rw [h4] at HYE
  have K4 := Lib.hid (rPlace_is mp B4 h4)
  clear hiff hfalse hW1 hr hB h4
  by_cases a1 : 0 ≤ kd
  case neg =>
    obtain rfl : B = false := HNO.out (by omega)
    go_enter Try.func14, Try.ntmps14
    go_wp2_with (go_at_call 31; with_reducible refine (K4.out _).mono ?_; rintro e w' ⟨rfl, rfl⟩)
    go_ret
    exact ⟨rfl, hb⟩
  by_cases a2 : kd ≤ 3
  case neg =>
    obtain rfl : B = false := HNO.out (by omega)
    go_enter Try.func14, Try.ntmps14
    go_wp2_with (go_at_call 31; with_reducible refine (K4.out _).mono ?_; rintro e w' ⟨rfl, rfl⟩)
    go_ret
    exact ⟨rfl, hb⟩
  by_cases a3 : 0 ≤ ln
  case neg =>
    obtain rfl : B = false := HNO.out (by omega)
    go_enter Try.func14, Try.ntmps14
    go_wp2_with (go_at_call 31; with_reducible refine (K4.out _).mono ?_; rintro e w' ⟨rfl, rfl⟩)
    go_ret
    exact ⟨rfl, hb⟩
  by_cases a4 : ln ≤ 200
  case neg =>
    obtain rfl : B = false := HNO.out (by omega)
    go_enter Try.func14, Try.ntmps14
    go_wp2_with (go_at_call 31; with_reducible refine (K4.out _).mono ?_; rintro e w' ⟨rfl, rfl⟩)
    go_ret
    exact ⟨rfl, hb⟩
  by_cases a5 : 0 ≤ sz
  case neg =>
    obtain rfl : B = false := HNO.out (by omega)
    go_enter Try.func14, Try.ntmps14
    go_wp2_with (go_at_call 31; with_reducible refine (K4.out _).mono ?_; rintro e w' ⟨rfl, rfl⟩)
    go_ret
    exact ⟨rfl, hb⟩
  by_cases a6 : sz ≤ 35328
  case neg =>
    obtain rfl : B = false := HNO.out (by omega)
    go_enter Try.func14, Try.ntmps14
    go_wp2_with (go_at_call 31; with_reducible refine (K4.out _).mono ?_; rintro e w' ⟨rfl, rfl⟩)
    go_ret
    exact ⟨rfl, hb⟩
  by_cases h3 : kd = 3
  case pos =>
    subst h3
    clear a1 a2 hk
    by_cases a7 : sz ≤ 200
    case neg =>
      obtain rfl : B = false := HNO.out (by omega)
      go_enter Try.func14, Try.ntmps14
      go_wp2_with (go_at_call 31; with_reducible refine (K4.out _).mono ?_; rintro e w' ⟨rfl, rfl⟩)
      go_ret
      exact ⟨rfl, hb⟩
    cases B4
    case false =>
      obtain rfl : B = false := HN4.out rfl
      go_enter Try.func14, Try.ntmps14
      go_wp2_with (go_at_call 31; with_reducible refine (K4.out _).mono ?_; rintro e w' ⟨rfl, rfl⟩)
      go_ret
      exact ⟨rfl, hb⟩
    case true =>
      have hyes := HYE.out ⟨by omega, by omega, by omega, by omega, by omega⟩ rfl
      have HYE2 := Lib.hid hyes
      clear hyes HYE HNO HN4
      go_enter Try.func14, Try.ntmps14
      go_wp2_with (go_at_call 31; with_reducible refine (K4.out _).mono ?_; rintro e w' ⟨rfl, rfl⟩)
      rw [H2.out]
      go_loop [54] (fun i => ∃ j : Nat, j ≤ 10 ∧ i = .int .i64 j ∧ Hid (∀ i, i < j → inB ([d0, d1, d2, d3, d4, d5, d6, d7, d8, d9].getD i 0) = true)) (fun i => 10 - (intOf i).toNat)
      case atStart => exact ⟨0, by omega, rfl, fun i hi => absurd hi (Nat.not_lt_zero _)⟩
      case round =>
        obtain ⟨j, hj, rfl, HJ⟩ := hrel
        by_cases hlt : j < 10
        · have hcx := HD.out j hlt
          have hnd := HND.out j hlt
          obtain ⟨x, hx⟩ : ∃ x, x = [d0, d1, d2, d3, d4, d5, d6, d7, d8, d9].getD j 0 := ⟨_, rfl⟩
          rw [← hx] at hcx hnd
          have HX := Lib.hid hx
          have ej : (j : Int) < 10 := by omega
          obtain ⟨Bx, hbx⟩ : ∃ b, inB x = b := ⟨_, rfl⟩
          have KX := Lib.hid (rPlace_is x Bx hbx)
          have HBX := Lib.hid hbx
          clear hx hbx
          cases Bx
          · obtain rfl : B = false := hnd HBX.out
            go_wp2_with (go_at_call 31; with_reducible refine (KX.out _).mono ?_; rintro e w' ⟨rfl, rfl⟩)
            go_ret
            exact ⟨rfl, hb1⟩
          · clear hnd
            go_wp2_with (go_at_call 31; with_reducible refine (KX.out _).mono ?_; rintro e w' ⟨rfl, rfl⟩)
            go_round
            case rel =>
              refine ⟨j + 1, by omega, by go_num, fun i hi => ?_⟩
              by_cases e : i = j
              · subst e; rw [← HX.out]; exact HBX.out
              · exact HJ.out i (by omega)
            case measure => simp [intOf]; omega
        · obtain rfl : j = 10 := by omega
          obtain rfl : B = true := HYE2.out ((locS_iff _).2 HJ.out)
          go_wp2
          go_ret
          exact ⟨rfl, hb1⟩
  case neg =>
    have hk3 : (kd == 3) = false := by simp [h3]
    cases B4
    case false =>
      obtain rfl : B = false := HN4.out rfl
      go_enter Try.func14, Try.ntmps14
      go_wp2_with (go_at_call 31; with_reducible refine (K4.out _).mono ?_; rintro e w' ⟨rfl, rfl⟩)
      go_ret
      exact ⟨rfl, hb⟩
    case true =>
      have hyes := HYE.out ⟨by omega, by omega, by omega, by omega, by omega⟩ rfl
      have HYE2 := Lib.hid hyes
      clear hyes HYE HNO HN4
      go_enter Try.func14, Try.ntmps14
      go_wp2_with (go_at_call 31; with_reducible refine (K4.out _).mono ?_; rintro e w' ⟨rfl, rfl⟩)
      rw [H2.out]
      go_loop [54] (fun i => ∃ j : Nat, j ≤ 10 ∧ i = .int .i64 j ∧ Hid (∀ i, i < j → inB ([d0, d1, d2, d3, d4, d5, d6, d7, d8, d9].getD i 0) = true)) (fun i => 10 - (intOf i).toNat)
      case atStart => exact ⟨0, by omega, rfl, fun i hi => absurd hi (Nat.not_lt_zero _)⟩
      case round =>
        obtain ⟨j, hj, rfl, HJ⟩ := hrel
        by_cases hlt : j < 10
        · have hcx := HD.out j hlt
          have hnd := HND.out j hlt
          obtain ⟨x, hx⟩ : ∃ x, x = [d0, d1, d2, d3, d4, d5, d6, d7, d8, d9].getD j 0 := ⟨_, rfl⟩
          rw [← hx] at hcx hnd
          have HX := Lib.hid hx
          have ej : (j : Int) < 10 := by omega
          obtain ⟨Bx, hbx⟩ : ∃ b, inB x = b := ⟨_, rfl⟩
          have KX := Lib.hid (rPlace_is x Bx hbx)
          have HBX := Lib.hid hbx
          clear hx hbx
          cases Bx
          · obtain rfl : B = false := hnd HBX.out
            go_wp2_with (go_at_call 31; with_reducible refine (KX.out _).mono ?_; rintro e w' ⟨rfl, rfl⟩)
            go_ret
            exact ⟨rfl, hb1⟩
          · clear hnd
            go_wp2_with (go_at_call 31; with_reducible refine (KX.out _).mono ?_; rintro e w' ⟨rfl, rfl⟩)
            go_round
            case rel =>
              refine ⟨j + 1, by omega, by go_num, fun i hi => ?_⟩
              by_cases e : i = j
              · subst e; rw [← HX.out]; exact HBX.out
              · exact HJ.out i (by omega)
            case measure => simp [intOf]; omega
        · obtain rfl : j = 10 := by omega
          obtain rfl : B = true := HYE2.out ((locS_iff _).2 HJ.out)
          go_wp2
          go_ret
          exact ⟨rfl, hb1⟩
theorem rForm_of {L : List Int} (hL : L.length = 14) (w : World) : Calls Try.prog 14 #[.agg (iC L).toArray] w fun e w' => e = .returned (.bool (frmI L)) ∧ Below w.heap.size w w' := by
  match L, hL with
  | [kd, ln, sz, d0, d1, d2, d3, d4, d5, d6, d7, d8, d9, mp], _ =>
    show Calls Try.prog 14 #[.agg #[.int .i64 kd, .int .i64 ln, .int .i64 sz, .int .i64 d0, .int .i64 d1, .int .i64 d2, .int .i64 d3, .int .i64 d4, .int .i64 d5, .int .i64 d6, .int .i64 d7, .int .i64 d8, .int .i64 d9, .int .i64 mp]] w fun e w' => e = .returned (.bool (if kd = 0 then decide ([kd, ln, sz, d0, d1, d2, d3, d4, d5, d6, d7, d8, d9, mp] = zeroI) else frmN kd ln sz mp [d0, d1, d2, d3, d4, d5, d6, d7, d8, d9])) ∧ Below w.heap.size w w'
    by_cases h0 : kd = 0
    · rw [if_pos h0]; exact rForm_zero kd ln sz d0 d1 d2 d3 d4 d5 d6 d7 d8 d9 mp h0 w
    · rw [if_neg h0]; exact rForm_n kd ln sz d0 d1 d2 d3 d4 d5 d6 d7 d8 d9 mp h0 _ rfl w
theorem rForm_is {L : List Int} (hL : L.length = 14) (B : Bool) (h : frmI L = B) (w : World) : Calls Try.prog 14 #[.agg (iC L).toArray] w fun e w' => e = .returned (.bool B) ∧ Below w.heap.size w w' := by
  rw [← h]; exact rForm_of hL w
end Go.Proofs.Ytbikbglkecbgjaa
