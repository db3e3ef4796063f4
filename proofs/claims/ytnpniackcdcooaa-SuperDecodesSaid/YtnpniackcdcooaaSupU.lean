/- Contracts: Limit; the reference's FormedSuper and Limit. -/
import Derived.Test.YtnpniackcdcooaaSupT
namespace Go.Proofs.Ytnpniackcdcooaa
open Go.RowKit
set_option linter.unusedVariables false

theorem sFormed_is {L : List Int} (hL : L.length = 12) (hT : Top L) (B : Bool) (h : frmS L = B) (w : World) :
    Calls Try.prog 9 #[supV L] w fun e w' => e = .returned (.bool B) ∧ Below w.heap.size w w' := by rw [← h]; exact sFormed_of hL hT w

theorem rLoop_of (b st tg cu io ba t0 t1 t2 t3 t4 t5 : Int) (L : List Int) (hLL : L = [b, st, tg, cu, io, ba, t0, t1, t2, t3, t4, t5]) (hT : Top L) (hb1 : b ≤ 768) (w : World)
    (hF : ∀ w, Calls Try.prog 24 #[.int .i64 b] w fun e w' => e = .returned (.bool true) ∧ w = w')
    (hS : ∀ w, Calls Try.prog 25 #[.agg #[.int .i64 b, .int .i64 st, .int .i64 tg, .int .i64 cu, .int .i64 io, .int .i64 ba, .int .i64 t0, .int .i64 t1, .int .i64 t2, .int .i64 t3, .int .i64 t4, .int .i64 t5]] w fun e w' => e = .returned (.bool true) ∧ Below w.heap.size w w') :
    Calls Try.prog 10 #[.agg #[.int .i64 b, .int .i64 st, .int .i64 tg, .int .i64 cu, .int .i64 io, .int .i64 ba, .int .i64 t0, .int .i64 t1, .int .i64 t2, .int .i64 t3, .int .i64 t4, .int .i64 t5]] w fun e w' => e = .returned (.bool (frmT L)) ∧ Below w.heap.size w w' := by
  have hob := below_box w (supO L 24)
  have hh := heap_alloc_new w (supO L 24)
  obtain ⟨W1, hW1⟩ : ∃ W1, W1 = w.alloc (supO L 24) := ⟨_, rfl⟩
  rw [← hW1] at hob hh
  have hW2 : w.alloc (.cells #[.int .i64 b, .int .i64 st, .int .i64 tg, .int .i64 cu, .int .i64 io, .int .i64 ba, .int .i64 t0, .int .i64 t1, .int .i64 t2, .int .i64 t3, .int .i64 t4, .int .i64 t5] 24) = W1 := by rw [hW1, hLL]; rfl
  have eb : num L 0 = b := by rw [hLL]; rfl
  have hlen : L.length = 12 := by rw [hLL]; rfl
  have H2 := Lib.hid hW2
  have HH := Lib.hid hh
  have HL := Lib.hid hLL
  have HLE := Lib.hid hlen
  have HTO := Lib.hid hT
  have K0 := Lib.hid hF
  have K1 := Lib.hid hS
  clear hF hS hh hW1 hW2 hT hLL hlen
  go_enter Try.func10, Try.ntmps10
  go_wp2_with (first
    | (go_at_call 24; with_reducible refine (K0.out _).mono ?_; rintro e w' ⟨rfl, rfl⟩)
    | (go_at_call 25; rw [H2.out]; refine (K1.out _).mono ?_; rintro e w2 ⟨rfl, hb2⟩))
  have hbe : Below w.heap.size w w2 := hob.trans (hb2.mono hob.size)
  have hh2 : w2.heap[w.heap.size]? = some (supO L 24) := (hb2.block _ (Array.getElem?_eq_some_iff.1 HH.out).1).trans HH.out
  have hcel := fun k hk => sup_cell hh2 k hk
  rw [HLE.out] at hcel
  have HC := Lib.hid hcel
  clear hcel hh2 hb2
  go_loopw [14] (fun i wr => ∃ j : Nat, j ≤ 6 ∧ i = .int .i64 j ∧ Hid (frmTo L j = true) ∧ Below w.heap.size w wr ∧ Hid (∀ k, k < 12 → wr.cell? ⟨w.heap.size, k, none⟩ = some (.int .i64 (num L k)))) (fun i _ => 6 - (intOf i).toNat)
  case atStart => exact ⟨0, by omega, rfl, rfl, hbe, HC⟩
  case round =>
    clear HC hbe
    obtain ⟨j, hj, rfl, HF, hbe, HC⟩ := hrel
    by_cases hlt : j < 6
    · have hcx := HC.out (6 + j) (by omega)
      have hxm := HTO.out (6 + j)
      have hcb := HC.out 0 (by omega)
      rw [eb] at hcb
      obtain ⟨x, hx⟩ : ∃ x, x = num L (6 + j) := ⟨_, rfl⟩
      rw [← hx] at hcx hxm
      have HX := Lib.hid hx
      clear hx
      have hno : ¬ okT L j → frmT L = false := fun h => by
        cases hf : frmT L
        · rfl
        · exact absurd (frm_tab hf j hlt) h
      have HNO := Lib.hid hno
      clear hno
      have ej : (j : Int) < 6 := by omega
      rcases h1 : decide (x < 0) with _ | _
      · have HH1 := Lib.hid (of_decide_eq_false h1)
        rcases h2 : decide (b ≤ x) with _ | _
        · have HH2 := Lib.hid (of_decide_eq_false h2)
          rcases h3 : fixB x with _ | _
          · have K2 := Lib.hid (rFixed_is x hxm false h3)
            have HH3 := Lib.hid h3
            clear h3
            go_wp2
            go_quiet ((go_at_call 26; exact quiet_back (K2.out _)))
            go_wp2
            clear h1 h2 hcb
            go_loopw [39] (fun i wr => ∃ k : Nat, k ≤ j ∧ i = .int .i64 k ∧ Hid (∀ m, m < k → num L (6 + m) ≠ num L (6 + j)) ∧ Below w.heap.size w wr ∧ Hid (∀ k, k < 12 → wr.cell? ⟨w.heap.size, k, none⟩ = some (.int .i64 (num L k)))) (fun i _ => j - (intOf i).toNat)
            case atStart => exact ⟨0, by omega, rfl, fun m hm => absurd hm (Nat.not_lt_zero _), below_drewN' hbe _, fun k hk => HC.out k hk⟩
            case round =>
              clear HC hbe hcx
              obtain ⟨k, hk, rfl, HK, hbe, HC⟩ := hrel
              by_cases hlk : k < j
              · have hck := HC.out (6 + k) (by omega)
                have hcx : wr.cell? ⟨w.heap.size, 6 + j, none⟩ = some (.int .i64 x) := by rw [HX.out]; exact HC.out (6 + j) (by omega)
                obtain ⟨y, hy⟩ : ∃ y, y = num L (6 + k) := ⟨_, rfl⟩
                rw [← hy] at hck
                have HY := Lib.hid hy
                clear hy
                have elk : (k : Int) < (j : Int) := by omega
                have ek : (k : Int) < 6 := by omega
                rcases h3 : (y == x) with _ | _
                · go_wp2
                  go_quiet (fail)
                  go_wp2
                  go_roundw
                  case rel =>
                    refine ⟨k + 1, by omega, by go_num, fun m hm => ?_, below_drewN' hbe _, fun k hk => HC.out k hk⟩
                    by_cases e : m = k
                    · subst e; rw [← HY.out, ← HX.out]; intro e; rw [e] at h3; simp at h3
                    · exact HK.out m (by omega)
                  case measure => simp [intOf]; omega
                · have hr := HNO.out (fun h => h.2.2 k hlk (by rw [← HY.out, ← HX.out]; simpa using h3))
                  go_wp2
                  go_quiet (fail)
                  go_wp2
                  go_ret
                  exact ⟨by first | rfl | (rw [hr]; rfl), below_drewN' hbe _⟩
              · go_wp2
                go_roundw
                case rel =>
                  obtain rfl : k = j := by omega
                  refine ⟨k + 1, by omega, by go_num, ?_, hbe, HC⟩
                  show frmTo L (k + 1) = true
                  exact frmTo_succ HF.out ⟨⟨by rw [← HX.out]; have := HH1.out; omega, by rw [← HX.out, eb]; have := HH2.out; omega⟩, by rw [← HX.out]; exact HH3.out, HK.out⟩
                case measure => simp [intOf]; omega
          · have hr := HNO.out (fun h => by have := h.2.1; rw [← HX.out, h3] at this; cases this)
            have K2 := Lib.hid (rFixed_is x hxm true h3)
            clear h3
            go_wp2
            go_quiet ((go_at_call 26; exact quiet_back (K2.out _)))
            go_wp2
            go_ret
            exact ⟨by first | rfl | (rw [hr]; rfl), below_drewN' hbe _⟩
        · have hr := HNO.out (fun h => by have := h.1.2; rw [← HX.out, eb] at this; have := of_decide_eq_true h2; omega)
          have g2 : b ≤ x := of_decide_eq_true h2
          go_wp2
          go_quiet (fail)
          go_wp2
          go_ret
          exact ⟨by first | rfl | (rw [hr]; rfl), below_drewN' hbe _⟩
      · have hr := HNO.out (fun h => by have := h.1.1; rw [← HX.out] at this; have := of_decide_eq_true h1; omega)
        have g1 : x < 0 := of_decide_eq_true h1
        go_wp2
        go_quiet (fail)
        go_wp2
        go_ret
        exact ⟨by first | rfl | (rw [hr]; rfl), below_drewN' hbe _⟩
    · go_wp2
      go_ret
      obtain rfl : j = 6 := by omega
      exact ⟨by rw [frmT, HF.out]; rfl, hbe⟩

theorem rFormS_of {L : List Int} (hL : L.length = 12) (hT : Top L) (w : World) :
    Calls Try.prog 10 #[supV L] w fun e w' => e = .returned (.bool (frmS L)) ∧ Below w.heap.size w w' := by
  have h0 : frmB (num L 0) = false ∨ frmB (num L 0) = true := by cases frmB (num L 0) <;> simp
  have h1 : frmSt L = false ∨ frmSt L = true := by cases frmSt L <;> simp
  have hm := hT 0
  have hT' := hT
  have KF : ∀ B, frmB (num L 0) = B → _ := fun B h => rFormed_is (num L 0) hm B h
  have KS : ∀ (hb : frmB (num L 0) = true) B, frmSt L = B → _ := fun hb B h => rStates_is hL hT hb B h
  have hr : frmS L = (frmB (num L 0) && (frmSt L && frmT L)) := rfl
  have hob := below_box w (supO L 24)
  obtain ⟨W1, hW1⟩ : ∃ W1, W1 = w.alloc (supO L 24) := ⟨_, rfl⟩
  rw [← hW1] at hob
  match L, hL with
  | [b, st, tg, cu, io, ba, t0, t1, t2, t3, t4, t5], _ =>
    have hW2 : w.alloc (.cells #[.int .i64 b, .int .i64 st, .int .i64 tg, .int .i64 cu, .int .i64 io, .int .i64 ba, .int .i64 t0, .int .i64 t1, .int .i64 t2, .int .i64 t3, .int .i64 t4, .int .i64 t5] 24) = W1 := by
      rw [hW1]; rfl
    have H2 := Lib.hid hW2
    show Calls Try.prog 10 #[.agg #[.int .i64 b, .int .i64 st, .int .i64 tg, .int .i64 cu, .int .i64 io, .int .i64 ba, .int .i64 t0, .int .i64 t1, .int .i64 t2, .int .i64 t3, .int .i64 t4, .int .i64 t5]] w fun e w' => e = .returned (.bool (frmS _)) ∧ Below w.heap.size w w'
    rw [hr]
    change _ ≤ _ at hm
    rcases h0 with h0 | h0
    · rw [h0]
      have K0 : Hid (∀ w, Calls Try.prog 24 #[.int .i64 b] w fun e w' => e = .returned (.bool false) ∧ w = w') := Lib.hid (KF _ h0)
      clear KF KS hr h0 h1 hW1 hW2 hT hm hT'
      go_enter Try.func10, Try.ntmps10
      go_wp2_with (first | (go_at_call 24; with_reducible refine (K0.out _).mono ?_; rintro e w' ⟨rfl, rfl⟩))
      go_ret
      exact ⟨rfl, below_box _ _⟩
    · rw [h0, Bool.true_and]
      have K0 : Hid (∀ w, Calls Try.prog 24 #[.int .i64 b] w fun e w' => e = .returned (.bool true) ∧ w = w') := Lib.hid (KF _ h0)
      rcases h1 with h1 | h1
      · rw [h1, Bool.false_and]
        have K1 : Hid (∀ w, Calls Try.prog 25 #[.agg #[.int .i64 b, .int .i64 st, .int .i64 tg, .int .i64 cu, .int .i64 io, .int .i64 ba, .int .i64 t0, .int .i64 t1, .int .i64 t2, .int .i64 t3, .int .i64 t4, .int .i64 t5]] w fun e w' => e = .returned (.bool false) ∧ Below w.heap.size w w') := Lib.hid (KS h0 _ h1)
        clear KF KS hr h0 h1 hW1 hW2 hT hm hT'
        go_enter Try.func10, Try.ntmps10
        go_wp2_with (first
          | (go_at_call 24; with_reducible refine (K0.out _).mono ?_; rintro e w' ⟨rfl, rfl⟩)
          | (go_at_call 25; rw [H2.out]; refine (K1.out _).mono ?_; rintro e w2 ⟨rfl, hb2⟩))
        go_ret
        exact ⟨rfl, hob.trans (hb2.mono hob.size)⟩
      · rw [h1, Bool.true_and]
        have K1 : Hid (∀ w, Calls Try.prog 25 #[.agg #[.int .i64 b, .int .i64 st, .int .i64 tg, .int .i64 cu, .int .i64 io, .int .i64 ba, .int .i64 t0, .int .i64 t1, .int .i64 t2, .int .i64 t3, .int .i64 t4, .int .i64 t5]] w fun e w' => e = .returned (.bool true) ∧ Below w.heap.size w w') := Lib.hid (KS h0 _ h1)
        exact rLoop_of b st tg cu io ba t0 t1 t2 t3 t4 t5 _ rfl hT' (frm_div h0).2.1 w K0.out K1.out
theorem rFormS_is {L : List Int} (hL : L.length = 12) (hT : Top L) (B : Bool) (h : frmS L = B) (w : World) :
    Calls Try.prog 10 #[supV L] w fun e w' => e = .returned (.bool B) ∧ Below w.heap.size w w' := by rw [← h]; exact rFormS_of hL hT w
end Go.Proofs.Ytnpniackcdcooaa
