/- Contracts: formedTable, and the table in the reference's FormedSuper. -/
import Derived.Test.YtnpniackcdcooaaSupS
namespace Go.Proofs.Ytnpniackcdcooaa
open Go.RowKit
set_option linter.unusedVariables false

/-- The value of a superblock. -/
def supV (L : List Int) : Value := .agg (L.map (Value.int .i64)).toArray
def supO (L : List Int) (T : TypeId) : Obj := .cells (L.map (Value.int .i64)).toArray T (0, 0)
theorem sup_cell {W : World} {g : Nat} {L : List Int} {T : TypeId} (h : W.heap[g]? = some (supO L T)) (k : Nat) (hk : k < L.length) : W.cell? ⟨g, k, none⟩ = some (.int .i64 (num L k)) := by
  rw [cell_of_row _ _ _ _ _ _ h]
  simp [num, List.getD_eq_getElem?_getD, hk]
/-- Each number is one of Go's int. -/
def Top (L : List Int) : Prop := ∀ i, num L i ≤ 9223372036854775807

theorem gFixed_is (n : Int) (hm : n ≤ 9223372036854775807) (B : Bool) (h : fixB n = B) (w : World) : Calls Try.prog 36 #[.int .i64 n] w fun e w' => e = .returned (.bool B) ∧ w = w' := by
  rw [← h]; exact gFixed_any n hm w
theorem rFixed_is (n : Int) (hm : n ≤ 9223372036854775807) (B : Bool) (h : fixB n = B) (w : World) : Calls Try.prog 26 #[.int .i64 n] w fun e w' => e = .returned (.bool B) ∧ w = w' := by
  rw [← h]; exact rFixed_any n hm w

theorem infoInt : (Try.prog.info? 3).map (fun i => (i.zero, i.size, i.bytes)) = some (some (.int .i64 0), 1, 8) := by kernel_rfl
theorem arr6_len : Try.prog.arrayLen 22 = 6 := by kernel_rfl
theorem arr6_elem : Try.prog.elem 22 = 3 := by kernel_rfl
theorem run_slice_arr6 (W : World) (a : Addr) (j : Nat) (hj : j ≤ 6) : (Instr.sliceAt 22 (.pointer (some a)) none (some (.int .i64 (j : Int))) none).run Try.prog W = .ok (.slice (some a) j 6) W := by
  obtain ⟨i, h2, h3, h4, h5⟩ := info_parts infoInt
  rw [run_sliceAt_array_h W 22 a (by rw [arr6_len, arr6_elem]; exact Try.underlying22) .i64 (j : Int) (by omega) (by rw [arr6_len]; omega), arr6_len, arr6_elem]
  obtain ⟨a1, a2, a3⟩ := a
  simp [sizeOf, typeInfo, h2, h4, slicedAt, Addr.add]
theorem sTable_of {L : List Int} (hL : L.length = 12) (hT : Top L) (hb0 : 0 ≤ num L 0) (hb1 : num L 0 ≤ 768) (w : World) :
    Calls Try.prog 23 #[supV L] w fun e w' => e = .returned (.bool (frmT L)) ∧ Below w.heap.size w w' := by
  have hob := below_box w (supO L 26)
  have hh := heap_alloc_new w (supO L 26)
  have hcel := fun k hk => sup_cell hh k hk
  obtain ⟨W1, hW1⟩ : ∃ W1, W1 = w.alloc (supO L 26) := ⟨_, rfl⟩
  rw [← hW1] at hob hcel
  have HC := Lib.hid hcel
  have HW1 := Lib.hid hW1
  have HTO := Lib.hid hT
  clear hcel hh hT
  match L, hL with
  | [b, st, tg, cu, io, ba, t0, t1, t2, t3, t4, t5], _ =>
    obtain ⟨L, hLL⟩ : ∃ L, L = [b, st, tg, cu, io, ba, t0, t1, t2, t3, t4, t5] := ⟨_, rfl⟩
    rw [← hLL] at HC HW1 HTO
    have HL := Lib.hid hLL
    have eb : num L 0 = b := by rw [hLL]; rfl
    have hW2 : w.alloc (.cells #[.int .i64 b, .int .i64 st, .int .i64 tg, .int .i64 cu, .int .i64 io, .int .i64 ba, .int .i64 t0, .int .i64 t1, .int .i64 t2, .int .i64 t3, .int .i64 t4, .int .i64 t5] 26) = W1 := by
      rw [hW1]; rfl
    show Calls Try.prog 23 #[.agg #[.int .i64 b, .int .i64 st, .int .i64 tg, .int .i64 cu, .int .i64 io, .int .i64 ba, .int .i64 t0, .int .i64 t1, .int .i64 t2, .int .i64 t3, .int .i64 t4, .int .i64 t5]] w fun e w' => e = .returned (.bool (frmT [b, st, tg, cu, io, ba, t0, t1, t2, t3, t4, t5])) ∧ Below w.heap.size w w'
    rw [← hLL]
    have H2 := Lib.hid hW2
    change 0 ≤ b at hb0
    change b ≤ 768 at hb1
    clear hLL hW1 hW2
    go_enter Try.func23, Try.ntmps23
    go_wp2
    rw [H2.out]
    have hidx : ∀ j : Nat, j < 6 → (Instr.index 22 (.agg #[Value.int .i64 t0, .int .i64 t1, .int .i64 t2, .int .i64 t3, .int .i64 t4, .int .i64 t5]) (.int .i64 (j : Int))).run Try.prog W1 = .ok (.int .i64 (num L (6 + j))) W1 := by
      intro j hj
      rw [HL.out]
      have : j = 0 ∨ j = 1 ∨ j = 2 ∨ j = 3 ∨ j = 4 ∨ j = 5 := by omega
      rcases this with rfl | rfl | rfl | rfl | rfl | rfl <;> simp [Instr.index, run_underlying Try.underlying22, asIntOf, go_sem, num]
    have HIX := Lib.hid hidx
    have hsl : ∀ j : Nat, j ≤ 6 → _ := fun j => run_slice_arr6 W1 ⟨w.heap.size, 6, none⟩ j
    have HSL := Lib.hid hsl
    clear hsl
    clear hidx
    go_loop [9] (fun i => ∃ j : Nat, j ≤ 6 ∧ i = .int .i64 j ∧ Hid (frmTo L j = true)) (fun i => 6 - (intOf i).toNat)
    case atStart => exact ⟨0, by omega, rfl, rfl⟩
    case round =>
      obtain ⟨j, hj, rfl, HF⟩ := hrel
      by_cases hlt : j < 6
      · have hix := HIX.out j hlt
        have hxm := HTO.out (6 + j)
        have hcb := HC.out 0 (by rw [HL.out]; simp)
        rw [eb] at hcb
        obtain ⟨x, hx⟩ : ∃ x, x = num L (6 + j) := ⟨_, rfl⟩
        rw [← hx] at hix hxm
        have HX := Lib.hid hx
        clear hx
        have hno : ¬ okT L j → frmT L = false := fun h => by
          cases hf : frmT L
          · rfl
          · exact absurd (frm_tab hf j hlt) h
        have HNO := Lib.hid hno
        clear hno
        rcases h1 : decide (0 ≤ x ∧ x ≤ b - 1) with _ | _
        · have hr := HNO.out (fun h => of_decide_eq_false h1 (by rw [HX.out, ← eb]; exact h.1))
          have K1 := Lib.hid (sWithin_is x 0 (b - 1) false h1)
          clear h1
          go_wp2_with (first | (go_at_call 34; with_reducible refine (K1.out _).mono ?_; rintro e w' ⟨rfl, rfl⟩))
          go_ret
          exact ⟨by first | rfl | (rw [hr]; rfl), hob⟩
        · have K1 := Lib.hid (sWithin_is x 0 (b - 1) true h1)
          have HH1 := Lib.hid (of_decide_eq_true h1)
          clear h1
          rcases h2 : fixB x with _ | _
          · have K2 := Lib.hid (gFixed_is x hxm false h2)
            have HH2 := Lib.hid h2
            have hsl := HSL.out j (by omega)
            clear h2
            go_wp2_with (first | (go_at_call 34; with_reducible refine (K1.out _).mono ?_; rintro e w' ⟨rfl, rfl⟩) | (go_at_call 36; with_reducible refine (K2.out _).mono ?_; rintro e w' ⟨rfl, rfl⟩))
            clear hix hsl hcb
            go_loop [27] (fun i => ∃ k : Nat, k ≤ j ∧ i = .int .i64 k ∧ Hid (∀ m, m < k → num L (6 + m) ≠ num L (6 + j))) (fun i => j - (intOf i).toNat)
            case atStart => exact ⟨0, by omega, rfl, fun m hm => absurd hm (Nat.not_lt_zero _)⟩
            case round =>
              obtain ⟨k, hk, rfl, HK⟩ := hrel
              by_cases hlk : k < j
              · have hck := HC.out (6 + k) (by rw [HL.out]; simp; omega)
                obtain ⟨y, hy⟩ : ∃ y, y = num L (6 + k) := ⟨_, rfl⟩
                rw [← hy] at hck
                have HY := Lib.hid hy
                clear hy
                have elk : (k : Int) < (j : Int) := by omega
                rcases h3 : (y == x) with _ | _
                · go_wp2
                  go_round
                  case rel =>
                    refine ⟨k + 1, by omega, by go_num, fun m hm => ?_⟩
                    by_cases e : m = k
                    · subst e; rw [← HY.out, ← HX.out]; intro e; rw [e] at h3; simp at h3
                    · exact HK.out m (by omega)
                  case measure => simp [intOf]; omega
                · have hr := HNO.out (fun h => h.2.2 k hlk (by rw [← HY.out, ← HX.out]; simpa using h3))
                  go_wp2
                  go_ret
                  exact ⟨by first | rfl | (rw [hr]; rfl), hob⟩
              · go_wp2
                go_round
                case rel =>
                  obtain rfl : k = j := by omega
                  refine ⟨k + 1, by omega, by go_num, ?_⟩
                  show frmTo L (k + 1) = true
                  exact frmTo_succ HF.out ⟨by rw [← HX.out, eb]; exact HH1.out, by rw [← HX.out]; exact HH2.out, HK.out⟩
                case measure => simp [intOf]; omega
          · have hr := HNO.out (fun h => by have := h.2.1; rw [← HX.out, h2] at this; cases this)
            have K2 := Lib.hid (gFixed_is x hxm true h2)
            clear h2
            go_wp2_with (first | (go_at_call 34; with_reducible refine (K1.out _).mono ?_; rintro e w' ⟨rfl, rfl⟩) | (go_at_call 36; with_reducible refine (K2.out _).mono ?_; rintro e w' ⟨rfl, rfl⟩))
            go_ret
            exact ⟨by first | rfl | (rw [hr]; rfl), hob⟩
      · go_wp2
        go_ret
        obtain rfl : j = 6 := by omega
        exact ⟨by rw [frmT, HF.out]; rfl, hob⟩

theorem sState_of {L : List Int} (hL : L.length = 12) (hT : Top L) (hb : frmB (num L 0) = true) (w : World) :
    Calls Try.prog 22 #[supV L] w fun e w' => e = .returned (.bool (frmSt L)) ∧ Below w.heap.size w w' := by
  match L, hL with
  | [b, st, tg, cu, io, ba, t0, t1, t2, t3, t4, t5], _ =>
    have hm : tg ≤ 9223372036854775807 := hT 2
    show Calls Try.prog 22 #[.agg #[.int .i64 b, .int .i64 st, .int .i64 tg, .int .i64 cu, .int .i64 io, .int .i64 ba, .int .i64 t0, .int .i64 t1, .int .i64 t2, .int .i64 t3, .int .i64 t4, .int .i64 t5]] w fun e w' => e = .returned (.bool (stS b st tg cu io ba)) ∧ Below w.heap.size w w'
    unfold stS
    by_cases h0 : st = 0
    · rw [if_pos h0, h0]; exact sState0 b tg cu io ba t0 t1 t2 t3 t4 t5 w
    rw [if_neg h0]
    by_cases h1 : st = 1
    · rw [if_pos h1, h1]; exact sState1g b tg cu io ba t0 t1 t2 t3 t4 t5 w hb hm _ _ rfl rfl
    rw [if_neg h1]
    by_cases h2 : st = 2
    · rw [if_pos h2, h2]; exact sState2 b tg cu io ba t0 t1 t2 t3 t4 t5 w hb hm
    rw [if_neg h2]
    by_cases h3 : st = 3
    · rw [if_pos h3, h3]; exact sState3 b tg cu io ba t0 t1 t2 t3 t4 t5 w hb hm
    rw [if_neg h3]
    exact sStateN st b tg cu io ba t0 t1 t2 t3 t4 t5 w h0 h1 h2 h3
theorem rStates_of {L : List Int} (hL : L.length = 12) (hT : Top L) (hb : frmB (num L 0) = true) (w : World) :
    Calls Try.prog 25 #[supV L] w fun e w' => e = .returned (.bool (frmSt L)) ∧ Below w.heap.size w w' := by
  match L, hL with
  | [b, st, tg, cu, io, ba, t0, t1, t2, t3, t4, t5], _ =>
    have hm : tg ≤ 9223372036854775807 := hT 2
    show Calls Try.prog 25 #[.agg #[.int .i64 b, .int .i64 st, .int .i64 tg, .int .i64 cu, .int .i64 io, .int .i64 ba, .int .i64 t0, .int .i64 t1, .int .i64 t2, .int .i64 t3, .int .i64 t4, .int .i64 t5]] w fun e w' => e = .returned (.bool (stS b st tg cu io ba)) ∧ Below w.heap.size w w'
    unfold stS
    by_cases h0 : st = 0
    · rw [if_pos h0, h0]; exact rState0 b tg cu io ba t0 t1 t2 t3 t4 t5 w
    rw [if_neg h0]
    by_cases h1 : st = 1
    · rw [if_pos h1, h1, ← st1r_eq]; exact rState1 b tg cu io ba t0 t1 t2 t3 t4 t5 w hb hm
    rw [if_neg h1]
    by_cases h2 : st = 2
    · rw [if_pos h2, h2]; exact rState2 b tg cu io ba t0 t1 t2 t3 t4 t5 w hb hm
    rw [if_neg h2]
    by_cases h3 : st = 3
    · rw [if_pos h3, h3, ← st3r_eq]; exact rState3 b tg cu io ba t0 t1 t2 t3 t4 t5 w hb hm
    rw [if_neg h3]
    exact rStateN st b tg cu io ba t0 t1 t2 t3 t4 t5 w h0 h1 h2 h3
theorem sState_is {L : List Int} (hL : L.length = 12) (hT : Top L) (hb : frmB (num L 0) = true) (B : Bool) (h : frmSt L = B) (w : World) :
    Calls Try.prog 22 #[supV L] w fun e w' => e = .returned (.bool B) ∧ Below w.heap.size w w' := by rw [← h]; exact sState_of hL hT hb w
theorem rStates_is {L : List Int} (hL : L.length = 12) (hT : Top L) (hb : frmB (num L 0) = true) (B : Bool) (h : frmSt L = B) (w : World) :
    Calls Try.prog 25 #[supV L] w fun e w' => e = .returned (.bool B) ∧ Below w.heap.size w w' := by rw [← h]; exact rStates_of hL hT hb w
theorem sTable_is {L : List Int} (hL : L.length = 12) (hT : Top L) (hb : frmB (num L 0) = true) (B : Bool) (h : frmT L = B) (w : World) :
    Calls Try.prog 23 #[supV L] w fun e w' => e = .returned (.bool B) ∧ Below w.heap.size w w' := by
  rw [← h]; exact sTable_of hL hT (frm_div hb).1 (frm_div hb).2.1 w

/-- The twelve cells of a superblock, one by one. -/
theorem sup_cells {W : World} {g : Nat} {T : TypeId} {b st tg cu io ba t0 t1 t2 t3 t4 t5 : Int} (h : W.heap[g]? = some (supO [b, st, tg, cu, io, ba, t0, t1, t2, t3, t4, t5] T)) :
    (W.cell? ⟨g, 0, none⟩ = some (.int .i64 b) ∧ W.cell? ⟨g, 1, none⟩ = some (.int .i64 st) ∧ W.cell? ⟨g, 2, none⟩ = some (.int .i64 tg) ∧ W.cell? ⟨g, 3, none⟩ = some (.int .i64 cu)) ∧
    (W.cell? ⟨g, 4, none⟩ = some (.int .i64 io) ∧ W.cell? ⟨g, 5, none⟩ = some (.int .i64 ba) ∧ W.cell? ⟨g, 6, none⟩ = some (.int .i64 t0) ∧ W.cell? ⟨g, 7, none⟩ = some (.int .i64 t1)) ∧
    W.cell? ⟨g, 8, none⟩ = some (.int .i64 t2) ∧ W.cell? ⟨g, 9, none⟩ = some (.int .i64 t3) ∧ W.cell? ⟨g, 10, none⟩ = some (.int .i64 t4) ∧ W.cell? ⟨g, 11, none⟩ = some (.int .i64 t5) := by
  refine ⟨⟨?_, ?_, ?_, ?_⟩, ⟨?_, ?_, ?_, ?_⟩, ?_, ?_, ?_, ?_⟩ <;> (rw [cell_of_row _ _ _ _ _ _ h]; rfl)

theorem sFormed_of {L : List Int} (hL : L.length = 12) (hT : Top L) (w : World) :
    Calls Try.prog 9 #[supV L] w fun e w' => e = .returned (.bool (frmS L)) ∧ Below w.heap.size w w' := by
  have h0 : frmB (num L 0) = false ∨ frmB (num L 0) = true := by cases frmB (num L 0) <;> simp
  have h1 : frmSt L = false ∨ frmSt L = true := by cases frmSt L <;> simp
  have h2 : ∃ B, frmT L = B := ⟨_, rfl⟩
  have hL' := hL
  have hm := hT 0
  have KF : ∀ B, frmB (num L 0) = B → _ := fun B h => gFormed_is (num L 0) hm B h
  have KS : ∀ (hb : frmB (num L 0) = true) B, frmSt L = B → _ := fun hb B h => sState_is hL hT hb B h
  have KT : ∀ (hb : frmB (num L 0) = true) B, frmT L = B → _ := fun hb B h => sTable_is hL hT hb B h
  have hr : frmS L = (frmB (num L 0) && (frmSt L && frmT L)) := rfl
  have hob := below_box w (supO L 26)
  have hh := heap_alloc_new w (supO L 26)
  obtain ⟨W1, hW1⟩ : ∃ W1, W1 = w.alloc (supO L 26) := ⟨_, rfl⟩
  rw [← hW1] at hob hh
  match L, hL with
  | [b, st, tg, cu, io, ba, t0, t1, t2, t3, t4, t5], _ =>
    have hW2 : w.alloc (.cells #[.int .i64 b, .int .i64 st, .int .i64 tg, .int .i64 cu, .int .i64 io, .int .i64 ba, .int .i64 t0, .int .i64 t1, .int .i64 t2, .int .i64 t3, .int .i64 t4, .int .i64 t5] 26) = W1 := by
      rw [hW1]; rfl
    have H2 := Lib.hid hW2
    have HH := Lib.hid hh
    show Calls Try.prog 9 #[.agg #[.int .i64 b, .int .i64 st, .int .i64 tg, .int .i64 cu, .int .i64 io, .int .i64 ba, .int .i64 t0, .int .i64 t1, .int .i64 t2, .int .i64 t3, .int .i64 t4, .int .i64 t5]] w fun e w' => e = .returned (.bool (frmS _)) ∧ Below w.heap.size w w'
    rw [hr]
    change _ ≤ _ at hm
    rcases h0 with h0 | h0
    · rw [h0]
      have K0 : Hid (∀ w, Calls Try.prog 21 #[.int .i64 b] w fun e w' => e = .returned (.bool false) ∧ w = w') := Lib.hid (KF _ h0)
      clear KF KS KT hr h0 h1 h2 hh hW1 hW2 hT hm hL'
      go_enter Try.func9, Try.ntmps9
      go_wp2_with (first | (go_at_call 21; with_reducible refine (K0.out _).mono ?_; rintro e w' ⟨rfl, rfl⟩))
      go_ret
      exact ⟨rfl, below_box _ _⟩
    · rw [h0, Bool.true_and]
      have K0 : Hid (∀ w, Calls Try.prog 21 #[.int .i64 b] w fun e w' => e = .returned (.bool true) ∧ w = w') := Lib.hid (KF _ h0)
      rcases h1 with h1 | h1
      · rw [h1, Bool.false_and]
        have K1 : Hid (∀ w, Calls Try.prog 22 #[.agg #[.int .i64 b, .int .i64 st, .int .i64 tg, .int .i64 cu, .int .i64 io, .int .i64 ba, .int .i64 t0, .int .i64 t1, .int .i64 t2, .int .i64 t3, .int .i64 t4, .int .i64 t5]] w fun e w' => e = .returned (.bool false) ∧ Below w.heap.size w w') := Lib.hid (KS h0 _ h1)
        clear KF KS KT hr h0 h1 h2 hh hW1 hW2 hT hm hL'
        go_enter Try.func9, Try.ntmps9
        go_wp2_with (first
          | (go_at_call 21; with_reducible refine (K0.out _).mono ?_; rintro e w' ⟨rfl, rfl⟩)
          | (go_at_call 22; rw [H2.out]; refine (K1.out _).mono ?_; rintro e w2 ⟨rfl, hb2⟩))
        go_ret
        exact ⟨rfl, hob.trans (hb2.mono hob.size)⟩
      · rw [h1, Bool.true_and]
        obtain ⟨B, h2⟩ := h2
        rw [h2]
        have K1 : Hid (∀ w, Calls Try.prog 22 #[.agg #[.int .i64 b, .int .i64 st, .int .i64 tg, .int .i64 cu, .int .i64 io, .int .i64 ba, .int .i64 t0, .int .i64 t1, .int .i64 t2, .int .i64 t3, .int .i64 t4, .int .i64 t5]] w fun e w' => e = .returned (.bool true) ∧ Below w.heap.size w w') := Lib.hid (KS h0 _ h1)
        have K2 : Hid (∀ w, Calls Try.prog 23 #[.agg #[.int .i64 b, .int .i64 st, .int .i64 tg, .int .i64 cu, .int .i64 io, .int .i64 ba, .int .i64 t0, .int .i64 t1, .int .i64 t2, .int .i64 t3, .int .i64 t4, .int .i64 t5]] w fun e w' => e = .returned (.bool B) ∧ Below w.heap.size w w') := Lib.hid (KT h0 _ h2)
        clear KF KS KT hr h0 h1 h2 hh hW1 hW2 hT hm hL'
        go_enter Try.func9, Try.ntmps9
        go_wp2_with (first
          | (go_at_call 21; with_reducible refine (K0.out _).mono ?_; rintro e w' ⟨rfl, rfl⟩)
          | (go_at_call 22; rw [H2.out]; refine (K1.out _).mono ?_; rintro e w2 ⟨rfl, hb2⟩
             have hc := sup_cells ((hb2.block _ (Array.getElem?_eq_some_iff.1 HH.out).1).trans HH.out))
          | (go_at_call 23; refine (K2.out _).mono ?_; rintro e w3 ⟨rfl, hb3⟩))
        go_ret
        exact ⟨rfl, (hob.trans (hb2.mono hob.size)).trans (hb3.mono (Nat.le_trans hob.size hb2.size))⟩
end Go.Proofs.Ytnpniackcdcooaa
