/- Contracts of package bits: Set, Run, First, Count. -/
import Derived.Test.YtnifekbdjgklmaaBitsB
import Derived.Lib.Hide
namespace Go.Proofs.Ytnifekbdjgklmaa
open Go.RowKit BM

theorem or_tab : ∀ k, k < 8 → ∀ n, n < 256 → (n ||| 2 ^ k) = if n / 2 ^ k % 2 = 1 then n else n + 2 ^ k := by decide +kernel
theorem andnot_tab : ∀ k, k < 8 → ∀ n, n < 256 → (n &&& (255 - 2 ^ k)) = if n / 2 ^ k % 2 = 1 then n - 2 ^ k else n := by decide +kernel
theorem bitAt_nat (n k : Nat) : bitAt (n : Int) k = decide (n / 2 ^ k % 2 = 1) := by
  unfold bitAt
  have e : (n : Int) / 2 ^ k % 2 = ((n / 2 ^ k % 2 : Nat) : Int) := by push_cast; rfl
  rw [e]
  rw [decide_eq_decide]
  omega
theorem mask_at (k : Nat) (hk : k < 8) : IntKind.u64.wrap (2 ^ k) % 256 = ((2 ^ k : Nat) : Int) := by
  have h : k = 0 ∨ k = 1 ∨ k = 2 ∨ k = 3 ∨ k = 4 ∨ k = 5 ∨ k = 6 ∨ k = 7 := by omega
  rcases h with rfl | rfl | rfl | rfl | rfl | rfl | rfl | rfl <;> decide
theorem pow_lt8 (k : Nat) (hk : k < 8) : 1 ≤ 2 ^ k ∧ 2 ^ k ≤ 128 :=
  ⟨Nat.one_le_two_pow, by have := Nat.pow_le_pow_right (n := 2) (by omega) (show k ≤ 7 by omega); simpa using this⟩

theorem or_bit (x : Int) (k : Nat) (hk : k < 8) (h0 : 0 ≤ x) (h1 : x ≤ 255) : bits BinOp.or IntKind.u8 x (IntKind.u64.wrap (2 ^ k) % 256) = if bitAt x k then x else x + 2 ^ k := by
  obtain ⟨n, rfl⟩ : ∃ n : Nat, x = n := ⟨x.toNat, by omega⟩
  have hp := pow_lt8 k hk
  have ht := or_tab k hk n (by omega)
  rw [mask_at k hk, u8_or_nat n (2 ^ k) (by omega) (by omega), ht, bitAt_nat]
  by_cases hb : n / 2 ^ k % 2 = 1
  · rw [if_pos hb, if_pos (by simpa using hb)]
  · rw [if_neg hb, if_neg (by simpa using hb)]; push_cast; rfl
theorem andnot_bit (x : Int) (k : Nat) (hk : k < 8) (h0 : 0 ≤ x) (h1 : x ≤ 255) : bits BinOp.andNot IntKind.u8 x (IntKind.u64.wrap (2 ^ k) % 256) = if bitAt x k then x - 2 ^ k else x := by
  obtain ⟨n, rfl⟩ : ∃ n : Nat, x = n := ⟨x.toNat, by omega⟩
  have hp := pow_lt8 k hk
  have ht := andnot_tab k hk n (by omega)
  rw [mask_at k hk, u8_andNot_nat n (2 ^ k) (by omega) (by omega), ht, bitAt_nat]
  by_cases hb : n / 2 ^ k % 2 = 1
  · rw [if_pos hb, if_pos (by simpa using hb)]
    have : 2 ^ k ≤ n := by
      rcases Nat.lt_or_ge n (2 ^ k) with h | h
      · rw [Nat.div_eq_of_lt h] at hb; omega
      · exact h
    rw [Int.natCast_sub this]; push_cast; rfl
  · rw [if_neg hb, if_neg (by simpa using hb)]

theorem bSet_cells (p g len : Nat) (n x : Int) (i : Nat) (on : Bool) (w : World) (h1 : n ≤ 4096) (hi : (i : Int) < n) (hl : i / 8 < len)
    (hc : w.cell? ⟨p, 0, none⟩ = some (.int .i64 n)) (hs : w.cell? ⟨p, 1, none⟩ = some (.slice (some ⟨g, 0, none⟩) len len))
    (hx : w.cell? ⟨g, i / 8, none⟩ = some (.int .u8 x)) (hf : w.frozen? ⟨g, i / 8, none⟩ = false) :
    Calls Try.prog 9 #[.pointer (some ⟨p, 0, none⟩), .int .i64 i, .bool on] w fun e w' => e = .returned (.int .i64 0) ∧
      w' = w.setCell ⟨g, i / 8, none⟩ (.int .u8 (if on then bits BinOp.or IntKind.u8 x (IntKind.u64.wrap (2 ^ (i % 8)) % 256) else bits BinOp.andNot IntKind.u8 x (IntKind.u64.wrap (2 ^ (i % 8)) % 256))) := by
  have hll : (i : Int) / 8 < len := by omega
  cases on
  all_goals
    go_enter Try.func9, Try.ntmps9
    go_wp2_with (first
      | (go_at_call 23; refine (bHas_in p n i _ hc (by omega) hi).mono ?_; rintro e w' ⟨rfl, rfl⟩)
      | (go_at_call 24; refine (bShift_any i _ (by omega) (by omega)).mono ?_; rintro e w' ⟨rfl, rfl⟩))
    go_ret
    exact ⟨rfl, by simp⟩

theorem bSet_no (p : Nat) (n i : Int) (on : Bool) (w : World) (hi : ¬ (0 ≤ i ∧ i < n)) (hc : w.cell? ⟨p, 0, none⟩ = some (.int .i64 n)) :
    Calls Try.prog 9 #[.pointer (some ⟨p, 0, none⟩), .int .i64 i, .bool on] w fun e w' => e = .returned (.int .i64 1) ∧ w = w' := by
  go_enter Try.func9, Try.ntmps9
  go_wp2_with (go_at_call 23; refine (bHas_out p n i _ hc hi).mono ?_; rintro e w' ⟨rfl, rfl⟩)
  go_ret
  exact ⟨rfl, rfl⟩

/-- Nothing but block g has been written. -/
def Wrote (w w' : World) (g : Nat) : Prop := w'.os = w.os ∧ w'.tape = w.tape ∧ w'.output = w.output ∧ w'.heap.size = w.heap.size ∧ ∀ k, k ≠ g → w'.heap[k]? = w.heap[k]?
theorem Wrote.refl (w : World) (g : Nat) : Wrote w w g := ⟨rfl, rfl, rfl, rfl, fun _ _ => rfl⟩
theorem Wrote.setCell (w : World) (g o : Nat) (u : Value) : Wrote w (w.setCell ⟨g, o, none⟩ u) g :=
  ⟨rfl, rfl, rfl, by simp [World.setCell], fun k hk => heap_setCell_other w ⟨g, o, none⟩ k u hk⟩
theorem Wrote.below {w w' : World} {g B : Nat} (h : Wrote w w' g) (hB : B ≤ g) : Below B w w' :=
  ⟨h.1, h.2.1, h.2.2.1, by rw [h.2.2.2.1]; exact Nat.le_refl _, fun k hk => h.2.2.2.2 k (by omega)⟩

theorem bSet_any {w : World} {p g : Nat} {L : List Bool} (h : BRow w p g L) (i : Int) (on : Bool) :
    Calls Try.prog 9 #[.pointer (some ⟨p, 0, none⟩), .int .i64 i, .bool on] w fun e w' =>
      e = .returned (.int .i64 (if 0 ≤ i ∧ i < L.length then 0 else 1)) ∧ BRow w' p g (if 0 ≤ i ∧ i < L.length then L.set i.toNat on else L) ∧ Wrote w w' g := by
  have hn := h.1
  have hh := h
  obtain ⟨l, hr, hc, hs, hx, hf, hg⟩ := h.cells
  by_cases hi : 0 ≤ i ∧ i < L.length
  · rw [if_pos hi, if_pos hi]
    obtain ⟨k, rfl⟩ : ∃ k : Nat, i = k := ⟨i.toNat, by omega⟩
    have hl := hr.len
    have hb := hr.byte (k / 8)
    have hk8 : k % 8 < 8 := Nat.mod_lt _ (by omega)
    refine (bSet_cells p g l.length L.length (l.getD (k / 8) 0) k on w (by omega) hi.2 (by omega) hc hs (hx _ (by omega)) (hf _)).mono fun e w' ⟨he, hw⟩ => ⟨he, ?_, ?_⟩
    · rw [or_bit _ _ hk8 hb.1 hb.2, andnot_bit _ _ hk8 hb.1 hb.2] at hw
      have hrs := rep_set hr k on (by omega) _ rfl
      obtain ⟨_, l', hr', hp, hg'⟩ := hh
      have el : l' = l := rep_ext hr' hr
      subst el
      refine ⟨by simpa using hn, _, hrs, ?_, ?_⟩
      · rw [hw, heap_setCell_other _ _ _ _ (show p ≠ g from fun e => by rw [e, hg] at hp; simp at hp)]
        simpa using hp
      · rw [hw, heap_setCell_same _ _ _ _ _ _ hg]
        congr 1
        apply congrArg (fun c => Obj.cells c 5 (0, 0))
        rw [List.map_set]
        apply Array.ext'
        simp
    · rw [hw]; exact Wrote.setCell _ _ _ _
  · rw [if_neg hi, if_neg hi]
    exact (bSet_no p _ i on w hi hc).mono fun e w' ⟨he, hw⟩ => ⟨he, by rw [← hw]; exact hh, by rw [← hw]; exact Wrote.refl _ _⟩

theorem bGet_val {w : World} {p g : Nat} {L : List Bool} (h : BRow w p g L) (i : Nat) (n : Nat) (b : Bool) (hb : L.getD i false = b) :
    Calls Try.prog 11 #[.pointer (some ⟨p, 0, none⟩), .int .i64 i] (w.drewN n) fun e w' => e = .returned (.bool b) ∧ ∃ m, w' = w.drewN m :=
  (bGet_any (h.drewN n) i).mono fun e w' ⟨he, m, hw⟩ => ⟨by rw [he, getB_nat, hb], n + m, by rw [hw, World.drewN_drewN]⟩

theorem ret_int {k : IntKind} {a b : Int} (h : a = b) : Ending.returned (.int k a) = .returned (.int k b) := by rw [h]

theorem bRun_any {w : World} {p g : Nat} {L : List Bool} (h : BRow w p g L) (n : Int) :
    Calls Try.prog 15 #[.pointer (some ⟨p, 0, none⟩), .int .i64 n] w fun e w' => e = .returned (.int .i64 (runS L n)) ∧ ∃ m, w' = w.drewN m := by
  have hn := h.1
  obtain ⟨l, hr, hc, hs, hx, hf, hg⟩ := h.cells
  clear hr hs hx hf hg
  by_cases h1 : n < 1
  · go_enter Try.func15, Try.ntmps15
    go_wp2_with fail
    go_ret
    exact ⟨by simp [runS, h1], 0, rfl⟩
  · have hS : runS L n = runGo n L 0 0 := by rw [runS, if_neg h1]
    obtain ⟨R, hR⟩ : ∃ R, R = runS L n := ⟨_, rfl⟩
    rw [← hR]
    have HR : Hid (runGo n L 0 0 = R) := by rw [hR, hS]; exact rfl
    clear hS hR
    go_enter Try.func15, Try.ntmps15
    go_wp2_with fail
    go_loopw [5, 15] (fun z i wr => ∃ k z0 : Nat, k ≤ L.length ∧ z0 ≤ k ∧ (z0 : Int) < n ∧ i = .int .i64 k ∧ z = .int .i64 z0 ∧ Hid (runGo n (L.drop k) z0 k = R) ∧ ∃ m, wr = w.drewN m)
      (fun _ i _ => L.length - (intOf i).toNat)
    case atStart => exact ⟨0, 0, by omega, by omega, by omega, rfl, rfl, HR, 0, rfl⟩
    case round =>
      obtain ⟨k, z0, hk, hzk, hz, rfl, rfl, hR, m, rfl⟩ := hrel
      by_cases hlt : k < L.length
      · have hstep := runGo_drop hlt n z0
        rw [hR.out] at hstep
        cases hb : L.getD k false
        · rw [hb, if_neg (by decide)] at hstep
          have HB := Lib.hid hb
          clear hb
          by_cases he : (z0 : Int) + 1 = n
          · rw [if_pos (by omega)] at hstep
            have HS := Lib.hid hstep
            have _hle : n ≤ (z0 : Int) + 1 := by omega
            have heq : ((z0 : Int) + 1 == n) = true := by simpa using he
            clear he hstep
            go_wp2_with (go_at_call 11; refine (bGet_val h k _ false HB.out).mono ?_; rintro e w' ⟨rfl, m2, rfl⟩)
            go_ret
            exact ⟨ret_int HS.out.symm, m2, rfl⟩
          · rw [if_neg (by omega)] at hstep
            have HS := Lib.hid hstep
            have heq : ((z0 : Int) + 1 == n) = false := by simpa using he
            clear hstep
            go_wp2_with (go_at_call 11; refine (bGet_val h k _ false HB.out).mono ?_; rintro e w' ⟨rfl, m2, rfl⟩)
            go_roundw
            case rel => exact ⟨k + 1, z0 + 1, by omega, by omega, by omega, by go_num, by go_num, HS.out.symm, m2, rfl⟩
            case measure => simp [intOf]; omega
        · rw [hb, if_pos rfl] at hstep
          have HS := Lib.hid hstep
          have HB := Lib.hid hb
          clear hstep hb
          go_wp2_with (go_at_call 11; refine (bGet_val h k _ true HB.out).mono ?_; rintro e w' ⟨rfl, m2, rfl⟩)
          go_roundw
          case rel => exact ⟨k + 1, 0, by omega, by omega, by omega, by go_num, rfl, HS.out.symm, m2, rfl⟩
          case measure => simp [intOf]; omega
      · have HE : Hid (runGo n (L.drop k) z0 k = -1) := by rw [List.drop_eq_nil_of_le (by omega)]; exact rfl
        go_wp2_with fail
        go_ret
        exact ⟨ret_int (by rw [← hR.out, HE.out]), m, rfl⟩

theorem bZeroFrom_any {w : World} {p g : Nat} {L : List Bool} (h : BRow w p g L) (s : Nat) (hs0 : s ≤ L.length) :
    Calls Try.prog 25 #[.pointer (some ⟨p, 0, none⟩), .int .i64 s] w fun e w' => e = .returned (.int .i64 (firstZ L s)) ∧ ∃ m, w' = w.drewN m := by
  have hn := h.1
  obtain ⟨l, hr, hc, hs, hx, hf, hg⟩ := h.cells
  clear hr hs hx hf hg
  go_enter Try.func25, Try.ntmps25
  go_wp2_with fail
  go_loopw [1] (fun i wr => ∃ k : Nat, s ≤ k ∧ k ≤ L.length ∧ i = .int .i64 k ∧ Hid (∀ j, s ≤ j → j < k → L.getD j false = true) ∧ ∃ m, wr = w.drewN m)
    (fun i _ => L.length - (intOf i).toNat)
  case atStart => exact ⟨s, by omega, by omega, rfl, fun j h1 h2 => by omega, 0, rfl⟩
  case round =>
    obtain ⟨k, hsk, hk, rfl, hall, m, rfl⟩ := hrel
    by_cases hlt : k < L.length
    · cases hb : L.getD k false
      · have HB := Lib.hid hb
        clear hb
        go_wp2_with (go_at_call 11; refine (bGet_val h k _ false HB.out).mono ?_; rintro e w' ⟨rfl, m2, rfl⟩)
        go_ret
        exact ⟨ret_int (firstZ_some hsk hlt HB.out hall.out).symm, m2, rfl⟩
      · have HB := Lib.hid hb
        clear hb
        go_wp2_with (go_at_call 11; refine (bGet_val h k _ true HB.out).mono ?_; rintro e w' ⟨rfl, m2, rfl⟩)
        go_roundw
        case rel =>
          refine ⟨k + 1, by omega, by omega, by go_num, fun j h1 h2 => ?_, m2, rfl⟩
          by_cases e : j = k
          · rw [e]; exact HB.out
          · exact hall.out j h1 (by omega)
        case measure => simp [intOf]; omega
    · go_wp2_with fail
      go_ret
      exact ⟨ret_int (firstZ_none fun j h1 h2 => hall.out j h1 (by omega)).symm, m, rfl⟩

theorem bZeroFrom_val {w : World} {p g : Nat} {L : List Bool} (h : BRow w p g L) (s : Nat) (hs0 : s ≤ L.length) (F : Int) (hF : F = firstZ L s) :
    Calls Try.prog 25 #[.pointer (some ⟨p, 0, none⟩), .int .i64 s] w fun e w' => e = .returned (.int .i64 F) ∧ ∃ m, w' = w.drewN m := by
  rw [hF]; exact bZeroFrom_any h s hs0
theorem bZeroFrom_val0 {w : World} {p g : Nat} {L : List Bool} (h : BRow w p g L) (n : Nat) (F : Int) (hF : F = firstZ L 0) :
    Calls Try.prog 25 #[.pointer (some ⟨p, 0, none⟩), .int .i64 0] (w.drewN n) fun e w' => e = .returned (.int .i64 F) ∧ ∃ m, w' = w.drewN m := by
  rw [hF]; exact (bZeroFrom_any (h.drewN n) 0 (by omega)).mono fun e w' ⟨he, m, hw⟩ => ⟨he, n + m, by rw [hw, World.drewN_drewN]⟩

theorem bZeroFrom_w0 {w : World} {p g : Nat} {L : List Bool} (h : BRow w p g L) (F : Int) (hF : F = firstZ L 0) :
    Calls Try.prog 25 #[.pointer (some ⟨p, 0, none⟩), .int .i64 0] w fun e w' => e = .returned (.int .i64 F) ∧ ∃ m, w' = w.drewN m := by
  rw [hF]; exact bZeroFrom_any h 0 (by omega)

theorem bFirst_any {w : World} {p g : Nat} {L : List Bool} (h : BRow w p g L) (goal : Int) :
    Calls Try.prog 13 #[.pointer (some ⟨p, 0, none⟩), .int .i64 goal] w fun e w' => e = .returned (.int .i64 (firstS L goal)) ∧ ∃ m, w' = w.drewN m := by
  have hn := h.1
  obtain ⟨l, hr, hc, hs, hx, hf, hg⟩ := h.cells
  clear hr hs hx hf hg
  obtain ⟨R, hR⟩ : ∃ R, R = firstS L goal := ⟨_, rfl⟩
  rw [← hR]
  by_cases hi : 0 ≤ goal ∧ goal < L.length
  · obtain ⟨k, rfl⟩ : ∃ k : Nat, goal = k := ⟨goal.toNat, by omega⟩
    rw [firstS, if_pos hi, Int.toNat_natCast] at hR
    obtain ⟨F, hF⟩ : ∃ F, F = firstZ L k := ⟨_, rfl⟩
    rw [← hF] at hR
    by_cases hp : 0 ≤ F
    · rw [if_pos hp] at hR
      have HR := Lib.hid hR
      have HF := Lib.hid hF
      clear hR hF
      go_enter Try.func13, Try.ntmps13
      go_wp2_with (first
        | (go_at_call 23; refine (bHas_in p _ k _ hc (by omega) hi.2).mono ?_; rintro e w' ⟨rfl, rfl⟩)
        | (go_at_call 25; refine (bZeroFrom_val h k (by omega) F HF.out).mono ?_; rintro e w' ⟨rfl, m2, rfl⟩))
      go_ret
      exact ⟨ret_int HR.out.symm, m2, rfl⟩
    · rw [if_neg hp] at hR
      have HR := Lib.hid hR
      have HF := Lib.hid hF
      clear hR hF
      go_enter Try.func13, Try.ntmps13
      go_wp2_with (first
        | (go_at_call 23; refine (bHas_in p _ k _ hc (by omega) hi.2).mono ?_; rintro e w' ⟨rfl, rfl⟩)
        | (go_at_call 25; (with_reducible refine (bZeroFrom_val h k (by omega) F HF.out).mono ?_); rintro e w' ⟨rfl, m2, rfl⟩)
        | (go_at_call 25; (with_reducible refine (bZeroFrom_val0 h _ R HR.out).mono ?_); rintro e w' ⟨rfl, m3, rfl⟩))
      go_ret
      exact ⟨rfl, _, rfl⟩
  · rw [firstS, if_neg hi] at hR
    have HR := Lib.hid hR
    clear hR
    go_enter Try.func13, Try.ntmps13
    go_wp2_with (first
      | (go_at_call 23; refine (bHas_out p _ goal _ hc hi).mono ?_; rintro e w' ⟨rfl, rfl⟩)
      | (go_at_call 25; (with_reducible refine (bZeroFrom_w0 h R HR.out).mono ?_); rintro e w' ⟨rfl, m3, rfl⟩))
    go_ret
    exact ⟨rfl, _, rfl⟩

theorem bCount_any {w : World} {p g : Nat} {L : List Bool} (h : BRow w p g L) :
    Calls Try.prog 27 #[.pointer (some ⟨p, 0, none⟩)] w fun e w' => e = .returned (.int .i64 (countB L)) ∧ ∃ m, w' = w.drewN m := by
  have hn := h.1
  go_enter Try.func27, Try.ntmps27
  go_wp2_with (go_at_call 21; refine (bLen_row h).mono ?_; rintro e w' ⟨rfl, rfl⟩)
  go_loopw [3, 7] (fun c i wr => ∃ k : Nat, k ≤ L.length ∧ i = .int .i64 k ∧ c = .int .i64 (countB (L.take k)) ∧ ∃ m, wr = w.drewN m)
    (fun _ i _ => L.length - (intOf i).toNat)
  case atStart => exact ⟨0, by omega, rfl, rfl, 0, rfl⟩
  case round =>
    obtain ⟨k, hk, rfl, rfl, m, rfl⟩ := hrel
    have hle := countB_take_le L k
    obtain ⟨C, hC⟩ : ∃ C, C = countB (L.take k) := ⟨_, rfl⟩
    rw [← hC] at hle ⊢
    by_cases hlt : k < L.length
    · have hstep := countB_take hlt
      cases hb : L.getD k false
      · rw [hb, if_neg (by decide), ← hC] at hstep
        have HB := Lib.hid hb
        have HS := Lib.hid hstep
        clear hb hstep hC
        go_wp2_with (go_at_call 11; refine (bGet_val h k _ false HB.out).mono ?_; rintro e w' ⟨rfl, m2, rfl⟩)
        go_roundw
        case rel => exact ⟨k + 1, by omega, by go_num, by rw [HS.out]; go_num, m2, rfl⟩
        case measure => simp [intOf]; omega
      · rw [hb, if_pos rfl, ← hC] at hstep
        have HB := Lib.hid hb
        have HS := Lib.hid hstep
        clear hb hstep hC
        go_wp2_with (go_at_call 11; refine (bGet_val h k _ true HB.out).mono ?_; rintro e w' ⟨rfl, m2, rfl⟩)
        go_roundw
        case rel => exact ⟨k + 1, by omega, by go_num, by rw [HS.out]; go_num, m2, rfl⟩
        case measure => simp [intOf]; omega
    · have HC := Lib.hid hC
      clear hC
      go_wp2_with fail
      go_ret
      exact ⟨ret_int (by rw [HC.out, List.take_of_length_le (by omega)]), m, rfl⟩

end Go.Proofs.Ytnifekbdjgklmaa
