/- Contract of the reference's EncodeSuper. -/
import Derived.Test.YtnpniackcdcooaaSupE
namespace Go.Proofs.Ytnpniackcdcooaa
open Go.RowKit
set_option linter.unusedVariables false

theorem rput2 {L : List Int} (j : Nat) (hj : j < 12) (h1 : j ≠ 1) (x : Int) (hx : x = num L j) (hx0 : 0 ≤ x ∧ x < 65536) (W : World) (u : Value) (hs : BSl W u (conS L j)) :
    Calls Try.prog 15 #[u, .int .u64 x, .int .i64 2] W (NewB W (conS L (j + 1))) := rput_con j hj x hx hx0 2 (if_neg h1).symm W u hs
theorem con_state {L : List Int} (x : Int) (hx : x = num L 1) (h0 : 0 ≤ x ∧ x < 256) : conS L 1 ++ [x] = conS L 2 := by
  rw [show conS L 2 = conS L 1 ++ lowB (num L 1) (wid 1) from rfl, ← hx, show wid 1 = 1 from rfl, lowB_succ, lowB_zero]
  simp
  omega

theorem rEnc_yes (b st tg cu io ba t0 t1 t2 t3 t4 t5 : Int) (L : List Int) (hLL : L = [b, st, tg, cu, io, ba, t0, t1, t2, t3, t4, t5]) (hf : frmS L = true) (w : World)
    (hF : ∀ w, Calls Try.prog 10 #[.agg #[.int .i64 b, .int .i64 st, .int .i64 tg, .int .i64 cu, .int .i64 io, .int .i64 ba, .int .i64 t0, .int .i64 t1, .int .i64 t2, .int .i64 t3, .int .i64 t4, .int .i64 t5]] w fun e w' => e = .returned (.bool true) ∧ Below w.heap.size w w') :
    Calls Try.prog 8 #[.agg #[.int .i64 b, .int .i64 st, .int .i64 tg, .int .i64 cu, .int .i64 io, .int .i64 ba, .int .i64 t0, .int .i64 t1, .int .i64 t2, .int .i64 t3, .int .i64 t4, .int .i64 t5]] w fun e w' => ∃ v, e = .returned (.tuple #[v, .int .i64 0]) ∧ OB w' w.heap.size v (encS L) ∧ Below w.heap.size w w' := by
  have hob := below_box w (supO L 24)
  have hh := heap_alloc_new w (supO L 24)
  obtain ⟨W1, hW1⟩ : ∃ W1, W1 = w.alloc (supO L 24) := ⟨_, rfl⟩
  rw [← hW1] at hob hh
  have hW2 : w.alloc (.cells #[.int .i64 b, .int .i64 st, .int .i64 tg, .int .i64 cu, .int .i64 io, .int .i64 ba, .int .i64 t0, .int .i64 t1, .int .i64 t2, .int .i64 t3, .int .i64 t4, .int .i64 t5] 24) = W1 := by rw [hW1, hLL]; rfl
  have hlen : L.length = 12 := by rw [hLL]; rfl
  have hsz : w.heap.size < W1.heap.size := by rw [hW1]; simp
  have kc := fun (w : World) (C : Array Value) (n c : Nat) => Lib.run_convert_bytes_const (P := Try.prog) w 27 5 C n c Try.underlying27 Try.underlying5
  have e0 : b = num L 0 := by rw [hLL]; rfl
  have e1 : st = num L 1 := by rw [hLL]; rfl
  have e2 : tg = num L 2 := by rw [hLL]; rfl
  have e3 : cu = num L 3 := by rw [hLL]; rfl
  have e4 : io = num L 4 := by rw [hLL]; rfl
  have e5 : ba = num L 5 := by rw [hLL]; rfl
  have f0 := num_fit hf 0 (by decide)
  have f1 : 0 ≤ num L 1 ∧ num L 1 < 256 := frm_num hf 1 (by decide)
  rw [← e0] at f0
  rw [← e1] at f1
  have H2 := Lib.hid hW2
  have HH := Lib.hid hh
  have HLE := Lib.hid hlen
  have HFR := Lib.hid hf
  have K0 := Lib.hid hF
  have E0 := Lib.hid e0
  have E1 := Lib.hid e1
  have E25 := Lib.hid (And.intro e2 (And.intro e3 (And.intro e4 e5)))
  have hc := fun (W : World) (h : W.heap[w.heap.size]? = some (supO L 24)) => by rw [hLL] at h; exact sup_cells h
  have HCC := Lib.hid hc
  clear hF hh hW1 hW2 hLL hlen hf e0 e1 e2 e3 e4 e5 hc
  go_enter Try.func8, Try.ntmps8
  go_wp2_with (first
    | (go_at_call 10; rw [H2.out]; refine (K0.out _).mono ?_; rintro e w2 ⟨rfl, hb2⟩; have hbe : Below w.heap.size w w2 := hob.trans (hb2.mono hob.size)
       have hz2 : w.heap.size < w2.heap.size := Nat.lt_of_lt_of_le hsz hb2.size
       have hr2 : w2.heap[w.heap.size]? = some (supO L 24) := (hb2.block _ hsz).trans HH.out
       have hc2 := HCC.out _ hr2)
    | (go_at_call 15
       have hbm := bsl_magic w2
       have hb3 := below_box w2 (.cells #[.int .u8 97, .int .u8 115, .int .u8 104, .int .u8 108, .int .u8 97, .int .u8 114, .int .u8 32, .int .u8 49] 5 (8, 9))
       generalize w2.alloc (.cells #[.int .u8 97, .int .u8 115, .int .u8 104, .int .u8 108, .int .u8 97, .int .u8 114, .int .u8 32, .int .u8 49] 5 (8, 9)) = w3 at hbm hb3 ⊢
       refine (rput2 0 (by decide) (by decide) b E0.out f0 _ _ hbm).mono ?_
       rintro e w4 ⟨v4, rfl, hob4, hb4⟩
       have hb24 : Below w2.heap.size w2 w4 := hb3.trans (hb4.mono hb3.size)
       have hr4 : w4.heap[w.heap.size]? = some (supO L 24) := (hb24.block _ hz2).trans hr2
       have hc4 := HCC.out _ hr4)
    | (at_builtin
       refine wpList_append_byte w4 st rfl (.tmp 17) (.tmp 21) rfl w3.heap.size _ (conS L 1) rfl hob4 ⟨f1.1, by omega⟩ rfl (by rw [conS_length]; decide) hb4.size ?_
       intro v5 w5 hob5 hb5
       rw [con_state st E1.out f1] at hob5
       have hb45 : Below w2.heap.size w4 w5 := hb5.mono hb3.size
       have hb25 : Below w2.heap.size w2 w5 := hb24.trans hb45
       have hr5 : w5.heap[w.heap.size]? = some (supO L 24) := (hb25.block _ hz2).trans hr2
       have hc5 := HCC.out _ hr5))
  have hb6 := below_box w5 (.cells #[.int .i64 tg, .int .i64 cu, .int .i64 io, .int .i64 ba] 3)
  have hh6 := heap_alloc_new w5 (.cells #[.int .i64 tg, .int .i64 cu, .int .i64 io, .int .i64 ba] 3)
  generalize w5.alloc (.cells #[.int .i64 tg, .int .i64 cu, .int .i64 io, .int .i64 ba] 3) = w6 at hb6 hh6 ⊢
  obtain ⟨gi, hgi⟩ : ∃ gi, gi = w5.heap.size := ⟨_, rfl⟩
  rw [← hgi] at hh6 ⊢
  have hz5 : w.heap.size < w5.heap.size := Nat.lt_of_lt_of_le hz2 hb25.size
  have hr6 : w6.heap[w.heap.size]? = some (supO L 24) := (hb6.block _ hz5).trans hr5
  have hgl : gi < w6.heap.size := (Array.getElem?_eq_some_iff.1 hh6).1
  have hci : ∀ j, j < 4 → w6.cell? ⟨gi, j, none⟩ = some (.int .i64 (num L (2 + j))) := fun j hj => by
    have := E25.out
    rw [cell_of_row _ _ _ _ _ _ hh6]
    have h4 : j = 0 ∨ j = 1 ∨ j = 2 ∨ j = 3 := by omega
    rcases h4 with rfl | rfl | rfl | rfl
    · rw [← this.1]; rfl
    · rw [← this.2.1]; rfl
    · rw [← this.2.2.1]; rfl
    · rw [← this.2.2.2]; rfl
  have hcx := fun k hk => sup_cell hr6 k hk
  rw [HLE.out] at hcx
  have HCI := Lib.hid hci
  have HCX := Lib.hid hcx
  have HB6 := Lib.hid ((hbe.trans (hb25.mono hbe.size)).trans (hb6.mono (Nat.le_of_lt hz5)))
  have hzw : w.heap.size < w6.heap.size := Nat.lt_of_lt_of_le hz5 hb6.size
  have HM := Lib.hid (hob5.bsl.below hb6)
  clear hb6 hh6 hgi hr6 hci hcx hob5 hb5 hb45 hb25 hr5 hc5 hz5 hc4 hr4 hb24 hb4 hob4 hb3 hbm hc2 hr2 hz2 hbe hb2 hob hsz kc
  go_loopw [4, 34] (fun u i wr => ∃ j : Nat, j ≤ 4 ∧ i = .int .i64 j ∧ Hid (BSl wr u (conS L (2 + j))) ∧ Hid (Below w6.heap.size w6 wr)) (fun _ i _ => 4 - (intOf i).toNat)
  case atStart => exact ⟨0, by omega, rfl, HM, Below.refl _ _⟩
  case round =>
    obtain ⟨j, hj, rfl, HBS, HBR⟩ := hrel
    clear HM
    by_cases hlt : j < 4
    · have hx0 := num_fit HFR.out (2 + j) (by omega)
      obtain ⟨x, hx⟩ : ∃ x, x = num L (2 + j) := ⟨_, rfl⟩
      have hcx : wr.cell? ⟨gi, j, none⟩ = some (.int .i64 x) := by rw [HBR.out.cell hgl, hx]; exact HCI.out j hlt
      rw [← hx] at hx0
      have HPU := Lib.hid (rput2 (L := L) (2 + j) (by omega) (by omega) x hx hx0)
      have ej : (j : Int) < 4 := by omega
      clear hx
      go_wp2_with (go_at_call 15; refine (HPU.out _ _ HBS.out).mono ?_; rintro e w7 ⟨v7, rfl, hob7, hb7⟩)
      go_roundw
      case rel => exact ⟨j + 1, by omega, by go_num, hob7.bsl, HBR.out.trans (hb7.mono HBR.out.size)⟩
      case measure => simp [intOf]; omega
    · obtain rfl : j = 4 := by omega
      go_wp2
      obtain ⟨w8, hw8⟩ : ∃ w8, w8 = wr := ⟨_, rfl⟩
      rw [← hw8] at HBS HBR ⊢
      clear hw8
      go_loopw [4, 45] (fun u i wr => ∃ j : Nat, j ≤ 6 ∧ i = .int .i64 j ∧ Hid (BSl wr u (conS L (6 + j))) ∧ Hid (Below w6.heap.size w6 wr)) (fun _ i _ => 6 - (intOf i).toNat)
      case atStart => exact ⟨0, by omega, rfl, HBS, HBR⟩
      case round =>
        clear HBS HBR
        obtain ⟨j, hj, rfl, HBS, HBR⟩ := hrel
        by_cases hlt : j < 6
        · have hx0 := num_fit HFR.out (6 + j) (by omega)
          obtain ⟨x, hx⟩ : ∃ x, x = num L (6 + j) := ⟨_, rfl⟩
          have hcx : wr.cell? ⟨w.heap.size, 6 + j, none⟩ = some (.int .i64 x) := by rw [HBR.out.cell hzw, hx]; exact HCX.out (6 + j) (by omega)
          rw [← hx] at hx0
          have HPU := Lib.hid (rput2 (L := L) (6 + j) (by omega) (by omega) x hx hx0)
          have ej : (j : Int) < 6 := by omega
          clear hx
          go_wp2_with (go_at_call 15; refine (HPU.out _ _ HBS.out).mono ?_; rintro e w7 ⟨v7, rfl, hob7, hb7⟩)
          go_roundw
          case rel =>
            refine ⟨_, _, _, _, _, _, _, _, _, _, _, _, _, ?_, rfl⟩
            exact ⟨j + 1, by omega, by go_num, hob7.bsl, HBR.out.trans (hb7.mono HBR.out.size)⟩
          case measure => simp [intOf]; omega
        · obtain rfl : j = 6 := by omega
          have HSE := Lib.hid (rSeal_yes HBS.out (by rw [conS_length]; decide))
          go_wp2_with (go_at_call 20; refine HSE.out.mono ?_; rintro e w9 ⟨v9, rfl, hob9, hb9⟩)
          go_ret2
          have hB := HB6.out.trans (HBR.out.mono HB6.out.size)
          exact ⟨v9, rfl, hob9.more hB.size, hB.trans (hb9.mono hB.size)⟩

theorem rEnc_of {L : List Int} (hL : L.length = 12) (hT : Top L) (w : World) : Calls Try.prog 8 #[supV L] w (EncOut L w) := by
  have h0 : frmS L = false ∨ frmS L = true := by cases frmS L <;> simp
  have KF : ∀ B, frmS L = B → _ := fun B h => rFormS_is hL hT B h
  have hob := below_box w (supO L 24)
  obtain ⟨W1, hW1⟩ : ∃ W1, W1 = w.alloc (supO L 24) := ⟨_, rfl⟩
  rw [← hW1] at hob
  match L, hL with
  | [b, st, tg, cu, io, ba, t0, t1, t2, t3, t4, t5], _ =>
    have hW2 : w.alloc (.cells #[.int .i64 b, .int .i64 st, .int .i64 tg, .int .i64 cu, .int .i64 io, .int .i64 ba, .int .i64 t0, .int .i64 t1, .int .i64 t2, .int .i64 t3, .int .i64 t4, .int .i64 t5] 24) = W1 := by rw [hW1]; rfl
    have H2 := Lib.hid hW2
    show Calls Try.prog 8 #[.agg #[.int .i64 b, .int .i64 st, .int .i64 tg, .int .i64 cu, .int .i64 io, .int .i64 ba, .int .i64 t0, .int .i64 t1, .int .i64 t2, .int .i64 t3, .int .i64 t4, .int .i64 t5]] w (EncOut _ w)
    rcases h0 with h0 | h0
    · refine Calls.mono ?_ fun e w' h => .inr ⟨h0, h⟩
      have K0 : Hid (∀ w, Calls Try.prog 10 #[.agg #[.int .i64 b, .int .i64 st, .int .i64 tg, .int .i64 cu, .int .i64 io, .int .i64 ba, .int .i64 t0, .int .i64 t1, .int .i64 t2, .int .i64 t3, .int .i64 t4, .int .i64 t5]] w fun e w' => e = .returned (.bool false) ∧ Below w.heap.size w w') := Lib.hid (KF _ h0)
      clear KF h0 hW1 hW2 hT
      go_enter Try.func8, Try.ntmps8
      go_wp2_with (first | (go_at_call 10; rw [H2.out]; refine (K0.out _).mono ?_; rintro e w2 ⟨rfl, hb2⟩))
      go_ret2
      exact ⟨rfl, hob.trans (hb2.mono hob.size)⟩
    · refine Calls.mono ?_ fun e w' h => .inl ⟨h0, h⟩
      exact rEnc_yes b st tg cu io ba t0 t1 t2 t3 t4 t5 _ rfl h0 w (KF _ h0)
end Go.Proofs.Ytnpniackcdcooaa
