/- Contracts of package bits that make or write memory: New, Set, Of; and the readers' loops. -/
import Derived.Laws.CopyOwn
import Derived.Lib.Hide
import Derived.Test.YtkbeencjklgcnaaGreatRows
import Derived.WalkKit
import Derived.WalkSpells
import Derived.WalkLawsBesides
import Derived.BigQuiet
import Derived.Deep.QuietTactic
import Derived.Deep.MidRow
import Derived.Deep.WholeRow
import Derived.Test.YtkbeencjklgcnaaGreatMg1
namespace Go.Proofs.YtkbeencjklgcnaaGreat
set_option maxRecDepth 100000
open Go.RowKit BM

theorem bSize_nat (n : Int) (k N : Nat) (w : World) (hn : n = k) (h1 : k ≤ 4096) (hN : N = (k + 7) / 8) :
    Calls Tryz.prog 111 #[.int .i64 n] w fun e w' => e = .returned (.int .i64 N) ∧ w = w' :=
  (bSize_any n w (by omega) (by omega)).mono fun e w' ⟨he, hw⟩ => ⟨by rw [he, show (n + 7) / 8 = ((N : Nat) : Int) by omega], hw⟩

theorem bNew_at (n : Int) (k : Nat) (hk : k ≤ 4096) (w : World) (hn : if n < 0 then k = 0 else if 4096 < n then k = 4096 else n = k) :
    Calls Tryz.prog 77 #[.int .i64 n] w fun e w' => e = .returned (.pointer (some ⟨w.heap.size + 1, 0, none⟩)) ∧ BRow w' (w.heap.size + 1) w.heap.size (List.replicate k false) ∧ Below w.heap.size w w' ∧ w'.heap.size = w.heap.size + 2 := by
  obtain ⟨N, hN⟩ : ∃ N : Nat, N = (k + 7) / 8 := ⟨_, rfl⟩
  have fin : ∀ (c : Int) w', (c = k) → w' = (w.alloc (.cells (Array.replicate N (.int .u8 0)) 5)).alloc (.cells #[.int .i64 c, .slice (some ⟨w.heap.size, 0, none⟩) N N] 125) →
      BRow w' (w.heap.size + 1) w.heap.size (List.replicate k false) ∧ Below w.heap.size w w' ∧ w'.heap.size = w.heap.size + 2 := by
    rintro c w' rfl rfl
    refine ⟨⟨by simpa using hk, _, rep_new k, ?_, ?_⟩, ((Below.refl _ _).alloc (Nat.le_refl _) _).alloc (by simp) _, by simp⟩
    · rw [heap_alloc2_new]; simp [hN]
    · rw [heap_alloc2_old]; simp [hN]
  have hnn : N ≤ 4096 := by omega
  have HN : Hid (N = (k + 7) / 8) := hN
  clear hN
  by_cases h1 : n < 0
  · rw [if_pos h1] at hn
    have HK : Hid (k = 0) := hn
    clear hn
    go_enter Tryz.func77, Tryz.ntmps77
    go_wp2_with (first
      | (go_at_call 111; refine (bSize_nat _ k N _ (by rw [HK.out]; rfl) hk HN.out).mono ?_; rintro e w' ⟨rfl, rfl⟩)
      | (at_make; refine wpList_make_u8 _ rfl _ _ rfl _ N rfl rfl rfl (by omega) ?_))
    go_ret
    exact ⟨rfl, fin _ _ (by first | exact HK.out | (rw [HK.out]; rfl)) rfl⟩
  · rw [if_neg h1] at hn
    by_cases h2 : 4096 < n
    · rw [if_pos h2] at hn
      have HK : Hid (k = 4096) := hn
      clear hn
      go_enter Tryz.func77, Tryz.ntmps77
      go_wp2_with (first
        | (go_at_call 111; refine (bSize_nat _ k N _ (by rw [HK.out]; rfl) hk HN.out).mono ?_; rintro e w' ⟨rfl, rfl⟩)
        | (at_make; refine wpList_make_u8 _ rfl _ _ rfl _ N rfl rfl rfl (by omega) ?_))
      go_ret
      exact ⟨rfl, fin _ _ (by first | exact HK.out | (rw [HK.out]; rfl)) rfl⟩
    · rw [if_neg h2] at hn
      have HK : Hid (n = k) := hn
      clear hn
      go_enter Tryz.func77, Tryz.ntmps77
      go_wp2_with (first
        | (go_at_call 111; refine (bSize_nat _ k N _ HK.out hk HN.out).mono ?_; rintro e w' ⟨rfl, rfl⟩)
        | (at_make; refine wpList_make_u8 _ rfl _ _ rfl _ N rfl rfl rfl (by omega) ?_))
      go_ret
      exact ⟨rfl, fin _ _ (by first | exact HK.out | (rw [HK.out]; rfl)) rfl⟩

/-- How many bits New makes. -/
def clampN (n : Int) : Nat := if n < 0 then 0 else if 4096 < n then 4096 else n.toNat

theorem clampN_le (n : Int) : clampN n ≤ 4096 := by unfold clampN; by_cases h1 : n < 0 <;> by_cases h2 : 4096 < n <;> simp [h1, h2]; omega

theorem bNew_any (n : Int) (w : World) :
    Calls Tryz.prog 77 #[.int .i64 n] w fun e w' => e = .returned (.pointer (some ⟨w.heap.size + 1, 0, none⟩)) ∧ BRow w' (w.heap.size + 1) w.heap.size (List.replicate (clampN n) false) ∧ Below w.heap.size w w' ∧ w'.heap.size = w.heap.size + 2 :=
  bNew_at n _ (clampN_le n) w (by unfold clampN; by_cases h1 : n < 0 <;> by_cases h2 : 4096 < n <;> simp [h1, h2] <;> omega)

end Go.Proofs.YtkbeencjklgcnaaGreat

/- Contracts of package bits: Set, Run, First, Count. -/
namespace Go.Proofs.YtkbeencjklgcnaaGreat
set_option maxRecDepth 100000
open Go.RowKit BM

theorem or_tab : ∀ k, k < 8 → ∀ n, n < 256 → (n ||| 2 ^ k) = if n / 2 ^ k % 2 = 1 then n else n + 2 ^ k := by decide +kernel
theorem andnot_tab : ∀ k, k < 8 → ∀ n, n < 256 → (n &&& (255 - 2 ^ k)) = if n / 2 ^ k % 2 = 1 then n - 2 ^ k else n := by decide +kernel
theorem bitAt_nat (n k : Nat) : bitAt (n : Int) k = decide (n / 2 ^ k % 2 = 1) := by
  unfold bitAt
  have e : (n : Int) / 2 ^ k % 2 = ((n / 2 ^ k % 2 : Nat) : Int) := by push_cast; rfl
  rw [e]
  rw [decide_eq_decide]
  omega
theorem mask_at (k : Nat) (hk : k < 8) : IntKind.u64.wrap (2 ^ k) % 256 = ((2 ^ k : Nat) : Int) := by
  have h : k = 0 ∨ k = 1 ∨ k = 2 ∨ k = 3 ∨ k = 4 ∨ k = 5 ∨ k = 6 ∨ k = 7 := by omega
  rcases h with rfl | rfl | rfl | rfl | rfl | rfl | rfl | rfl <;> decide
theorem pow_lt8 (k : Nat) (hk : k < 8) : 1 ≤ 2 ^ k ∧ 2 ^ k ≤ 128 :=
  ⟨Nat.one_le_two_pow, by have := Nat.pow_le_pow_right (n := 2) (by omega) (show k ≤ 7 by omega); simpa using this⟩

theorem or_bit (x : Int) (k : Nat) (hk : k < 8) (h0 : 0 ≤ x) (h1 : x ≤ 255) : bits BinOp.or IntKind.u8 x (IntKind.u64.wrap (2 ^ k) % 256) = if bitAt x k then x else x + 2 ^ k := by
  obtain ⟨n, rfl⟩ : ∃ n : Nat, x = n := ⟨x.toNat, by omega⟩
  have hp := pow_lt8 k hk
  have ht := or_tab k hk n (by omega)
  rw [mask_at k hk, u8_or_nat n (2 ^ k) (by omega) (by omega), ht, bitAt_nat]
  by_cases hb : n / 2 ^ k % 2 = 1
  · rw [if_pos hb, if_pos (by simpa using hb)]
  · rw [if_neg hb, if_neg (by simpa using hb)]; push_cast; rfl
theorem andnot_bit (x : Int) (k : Nat) (hk : k < 8) (h0 : 0 ≤ x) (h1 : x ≤ 255) : bits BinOp.andNot IntKind.u8 x (IntKind.u64.wrap (2 ^ k) % 256) = if bitAt x k then x - 2 ^ k else x := by
  obtain ⟨n, rfl⟩ : ∃ n : Nat, x = n := ⟨x.toNat, by omega⟩
  have hp := pow_lt8 k hk
  have ht := andnot_tab k hk n (by omega)
  rw [mask_at k hk, u8_andNot_nat n (2 ^ k) (by omega) (by omega), ht, bitAt_nat]
  by_cases hb : n / 2 ^ k % 2 = 1
  · rw [if_pos hb, if_pos (by simpa using hb)]
    have : 2 ^ k ≤ n := by
      rcases Nat.lt_or_ge n (2 ^ k) with h | h
      · rw [Nat.div_eq_of_lt h] at hb; omega
      · exact h
    rw [Int.natCast_sub this]; push_cast; rfl
  · rw [if_neg hb, if_neg (by simpa using hb)]

theorem bSet_cells (p g len : Nat) (n x : Int) (i : Nat) (on : Bool) (w : World) (h1 : n ≤ 4096) (hi : (i : Int) < n) (hl : i / 8 < len)
    (hc : w.cell? ⟨p, 0, none⟩ = some (.int .i64 n)) (hs : w.cell? ⟨p, 1, none⟩ = some (.slice (some ⟨g, 0, none⟩) len len))
    (hx : w.cell? ⟨g, i / 8, none⟩ = some (.int .u8 x)) (hf : w.frozen? ⟨g, i / 8, none⟩ = false) :
    Calls Tryz.prog 78 #[.pointer (some ⟨p, 0, none⟩), .int .i64 i, .bool on] w fun e w' => e = .returned (.int .i64 0) ∧
      w' = w.setCell ⟨g, i / 8, none⟩ (.int .u8 (if on then bits BinOp.or IntKind.u8 x (IntKind.u64.wrap (2 ^ (i % 8)) % 256) else bits BinOp.andNot IntKind.u8 x (IntKind.u64.wrap (2 ^ (i % 8)) % 256))) := by
  have hll : (i : Int) / 8 < len := by omega
  cases on
  all_goals
    go_enter Tryz.func78, Tryz.ntmps78
    go_wp2_with (first
      | (go_at_call 81; refine (bHas_in p n i _ hc (by omega) hi).mono ?_; rintro e w' ⟨rfl, rfl⟩)
      | (go_at_call 112; refine (bShift_any i _ (by omega) (by omega)).mono ?_; rintro e w' ⟨rfl, rfl⟩))
    go_ret
    exact ⟨rfl, by simp⟩

theorem bSet_no (p : Nat) (n i : Int) (on : Bool) (w : World) (hi : ¬ (0 ≤ i ∧ i < n)) (hc : w.cell? ⟨p, 0, none⟩ = some (.int .i64 n)) :
    Calls Tryz.prog 78 #[.pointer (some ⟨p, 0, none⟩), .int .i64 i, .bool on] w fun e w' => e = .returned (.int .i64 1) ∧ w = w' := by
  go_enter Tryz.func78, Tryz.ntmps78
  go_wp2_with (go_at_call 81; refine (bHas_out p n i _ hc hi).mono ?_; rintro e w' ⟨rfl, rfl⟩)
  go_ret
  exact ⟨rfl, rfl⟩

theorem bSet_any {w : World} {p g : Nat} {L : List Bool} (h : BRow w p g L) (i : Int) (on : Bool) :
    Calls Tryz.prog 78 #[.pointer (some ⟨p, 0, none⟩), .int .i64 i, .bool on] w fun e w' =>
      e = .returned (.int .i64 (if 0 ≤ i ∧ i < L.length then 0 else 1)) ∧ BRow w' p g (if 0 ≤ i ∧ i < L.length then L.set i.toNat on else L) ∧ Wrote w w' g := by
  have hn := h.1
  have hh := h
  obtain ⟨l, hr, hc, hs, hx, hf, hg⟩ := h.cells
  by_cases hi : 0 ≤ i ∧ i < L.length
  · rw [if_pos hi, if_pos hi]
    obtain ⟨k, rfl⟩ : ∃ k : Nat, i = k := ⟨i.toNat, by omega⟩
    have hl := hr.len
    have hb := hr.byte (k / 8)
    have hk8 : k % 8 < 8 := Nat.mod_lt _ (by omega)
    refine (bSet_cells p g l.length L.length (l.getD (k / 8) 0) k on w (by omega) hi.2 (by omega) hc hs (hx _ (by omega)) (hf _)).mono fun e w' ⟨he, hw⟩ => ⟨he, ?_, ?_⟩
    · rw [or_bit _ _ hk8 hb.1 hb.2, andnot_bit _ _ hk8 hb.1 hb.2] at hw
      have hrs := rep_set hr k on (by omega) _ rfl
      obtain ⟨_, l', hr', hp, hg'⟩ := hh
      have el : l' = l := rep_ext hr' hr
      subst el
      refine ⟨by simpa using hn, _, hrs, ?_, ?_⟩
      · rw [hw, heap_setCell_other _ _ _ _ (show p ≠ g from fun e => by rw [e, hg] at hp; simp at hp)]
        simpa using hp
      · rw [hw, heap_setCell_same _ _ _ _ _ _ hg]
        congr 1
        apply congrArg (fun c => Obj.cells c 5 (0, 0))
        rw [List.map_set]
        apply Array.ext'
        simp
    · rw [hw]; exact Wrote.setCell _ _ _ _
  · rw [if_neg hi, if_neg hi]
    exact (bSet_no p _ i on w hi hc).mono fun e w' ⟨he, hw⟩ => ⟨he, by rw [← hw]; exact hh, by rw [← hw]; exact Wrote.refl _ _⟩

theorem bGet_val {w : World} {p g : Nat} {L : List Bool} (h : BRow w p g L) (i : Nat) (n : Nat) (b : Bool) (hb : L.getD i false = b) :
    Calls Tryz.prog 80 #[.pointer (some ⟨p, 0, none⟩), .int .i64 i] (w.drewN n) fun e w' => e = .returned (.bool b) ∧ ∃ m, w' = w.drewN m :=
  (bGet_any (h.drewN n) i).mono fun e w' ⟨he, m, hw⟩ => ⟨by rw [he, getB_nat, hb], n + m, by rw [hw, World.drewN_drewN]⟩

theorem bRun_any {w : World} {p g : Nat} {L : List Bool} (h : BRow w p g L) (n : Int) :
    Calls Tryz.prog 49 #[.pointer (some ⟨p, 0, none⟩), .int .i64 n] w fun e w' => e = .returned (.int .i64 (runS L n)) ∧ ∃ m, w' = w.drewN m := by
  have hn := h.1
  obtain ⟨l, hr, hc, hs, hx, hf, hg⟩ := h.cells
  clear hr hs hx hf hg
  by_cases h1 : n < 1
  · go_enter Tryz.func49, Tryz.ntmps49
    go_wp2_with fail
    go_ret
    exact ⟨by simp [runS, h1], 0, rfl⟩
  · have hS : runS L n = runGo n L 0 0 := by rw [runS, if_neg h1]
    obtain ⟨R, hR⟩ : ∃ R, R = runS L n := ⟨_, rfl⟩
    rw [← hR]
    have HR : Hid (runGo n L 0 0 = R) := by rw [hR, hS]; exact rfl
    clear hS hR
    go_enter Tryz.func49, Tryz.ntmps49
    go_wp2_with fail
    go_loopw [5, 15] (fun z i wr => ∃ k z0 : Nat, k ≤ L.length ∧ z0 ≤ k ∧ (z0 : Int) < n ∧ i = .int .i64 k ∧ z = .int .i64 z0 ∧ Hid (runGo n (L.drop k) z0 k = R) ∧ ∃ m, wr = w.drewN m)
      (fun _ i _ => L.length - (intOf i).toNat)
    case atStart => exact ⟨0, 0, by omega, by omega, by omega, rfl, rfl, HR, 0, rfl⟩
    case round =>
      obtain ⟨k, z0, hk, hzk, hz, rfl, rfl, hR, m, rfl⟩ := hrel
      by_cases hlt : k < L.length
      · have hstep := runGo_drop hlt n z0
        rw [hR.out] at hstep
        cases hb : L.getD k false
        · rw [hb, if_neg (by decide)] at hstep
          have HB := Lib.hid hb
          clear hb
          by_cases he : (z0 : Int) + 1 = n
          · rw [if_pos (by omega)] at hstep
            have HS := Lib.hid hstep
            have _hle : n ≤ (z0 : Int) + 1 := by omega
            have heq : ((z0 : Int) + 1 == n) = true := by simpa using he
            clear he hstep
            go_wp2_with (go_at_call 80; refine (bGet_val h k _ false HB.out).mono ?_; rintro e w' ⟨rfl, m2, rfl⟩)
            go_ret
            exact ⟨ret_int HS.out.symm, m2, rfl⟩
          · rw [if_neg (by omega)] at hstep
            have HS := Lib.hid hstep
            have heq : ((z0 : Int) + 1 == n) = false := by simpa using he
            clear hstep
            go_wp2_with (go_at_call 80; refine (bGet_val h k _ false HB.out).mono ?_; rintro e w' ⟨rfl, m2, rfl⟩)
            go_roundw
            case rel => exact ⟨k + 1, z0 + 1, by omega, by omega, by omega, by go_num, by go_num, HS.out.symm, m2, rfl⟩
            case measure => simp [intOf]; omega
        · rw [hb, if_pos rfl] at hstep
          have HS := Lib.hid hstep
          have HB := Lib.hid hb
          clear hstep hb
          go_wp2_with (go_at_call 80; refine (bGet_val h k _ true HB.out).mono ?_; rintro e w' ⟨rfl, m2, rfl⟩)
          go_roundw
          case rel => exact ⟨k + 1, 0, by omega, by omega, by omega, by go_num, rfl, HS.out.symm, m2, rfl⟩
          case measure => simp [intOf]; omega
      · have HE : Hid (runGo n (L.drop k) z0 k = -1) := by rw [List.drop_eq_nil_of_le (by omega)]; exact rfl
        go_wp2_with fail
        go_ret
        exact ⟨ret_int (by rw [← hR.out, HE.out]), m, rfl⟩

theorem bZeroFrom_any {w : World} {p g : Nat} {L : List Bool} (h : BRow w p g L) (s : Nat) (hs0 : s ≤ L.length) :
    Calls Tryz.prog 82 #[.pointer (some ⟨p, 0, none⟩), .int .i64 s] w fun e w' => e = .returned (.int .i64 (firstZ L s)) ∧ ∃ m, w' = w.drewN m := by
  have hn := h.1
  obtain ⟨l, hr, hc, hs, hx, hf, hg⟩ := h.cells
  clear hr hs hx hf hg
  go_enter Tryz.func82, Tryz.ntmps82
  go_wp2_with fail
  go_loopw [1] (fun i wr => ∃ k : Nat, s ≤ k ∧ k ≤ L.length ∧ i = .int .i64 k ∧ Hid (∀ j, s ≤ j → j < k → L.getD j false = true) ∧ ∃ m, wr = w.drewN m)
    (fun i _ => L.length - (intOf i).toNat)
  case atStart => exact ⟨s, by omega, by omega, rfl, fun j h1 h2 => by omega, 0, rfl⟩
  case round =>
    obtain ⟨k, hsk, hk, rfl, hall, m, rfl⟩ := hrel
    by_cases hlt : k < L.length
    · cases hb : L.getD k false
      · have HB := Lib.hid hb
        clear hb
        go_wp2_with (go_at_call 80; refine (bGet_val h k _ false HB.out).mono ?_; rintro e w' ⟨rfl, m2, rfl⟩)
        go_ret
        exact ⟨ret_int (firstZ_some hsk hlt HB.out hall.out).symm, m2, rfl⟩
      · have HB := Lib.hid hb
        clear hb
        go_wp2_with (go_at_call 80; refine (bGet_val h k _ true HB.out).mono ?_; rintro e w' ⟨rfl, m2, rfl⟩)
        go_roundw
        case rel =>
          refine ⟨k + 1, by omega, by omega, by go_num, fun j h1 h2 => ?_, m2, rfl⟩
          by_cases e : j = k
          · rw [e]; exact HB.out
          · exact hall.out j h1 (by omega)
        case measure => simp [intOf]; omega
    · go_wp2_with fail
      go_ret
      exact ⟨ret_int (firstZ_none fun j h1 h2 => hall.out j h1 (by omega)).symm, m, rfl⟩

theorem bZeroFrom_val {w : World} {p g : Nat} {L : List Bool} (h : BRow w p g L) (s : Nat) (hs0 : s ≤ L.length) (F : Int) (hF : F = firstZ L s) :
    Calls Tryz.prog 82 #[.pointer (some ⟨p, 0, none⟩), .int .i64 s] w fun e w' => e = .returned (.int .i64 F) ∧ ∃ m, w' = w.drewN m := by
  rw [hF]; exact bZeroFrom_any h s hs0
theorem bZeroFrom_val0 {w : World} {p g : Nat} {L : List Bool} (h : BRow w p g L) (n : Nat) (F : Int) (hF : F = firstZ L 0) :
    Calls Tryz.prog 82 #[.pointer (some ⟨p, 0, none⟩), .int .i64 0] (w.drewN n) fun e w' => e = .returned (.int .i64 F) ∧ ∃ m, w' = w.drewN m := by
  rw [hF]; exact (bZeroFrom_any (h.drewN n) 0 (by omega)).mono fun e w' ⟨he, m, hw⟩ => ⟨he, n + m, by rw [hw, World.drewN_drewN]⟩

theorem bZeroFrom_w0 {w : World} {p g : Nat} {L : List Bool} (h : BRow w p g L) (F : Int) (hF : F = firstZ L 0) :
    Calls Tryz.prog 82 #[.pointer (some ⟨p, 0, none⟩), .int .i64 0] w fun e w' => e = .returned (.int .i64 F) ∧ ∃ m, w' = w.drewN m := by
  rw [hF]; exact bZeroFrom_any h 0 (by omega)

theorem bFirst_any {w : World} {p g : Nat} {L : List Bool} (h : BRow w p g L) (goal : Int) :
    Calls Tryz.prog 48 #[.pointer (some ⟨p, 0, none⟩), .int .i64 goal] w fun e w' => e = .returned (.int .i64 (firstS L goal)) ∧ ∃ m, w' = w.drewN m := by
  have hn := h.1
  obtain ⟨l, hr, hc, hs, hx, hf, hg⟩ := h.cells
  clear hr hs hx hf hg
  obtain ⟨R, hR⟩ : ∃ R, R = firstS L goal := ⟨_, rfl⟩
  rw [← hR]
  by_cases hi : 0 ≤ goal ∧ goal < L.length
  · obtain ⟨k, rfl⟩ : ∃ k : Nat, goal = k := ⟨goal.toNat, by omega⟩
    rw [firstS, if_pos hi, Int.toNat_natCast] at hR
    obtain ⟨F, hF⟩ : ∃ F, F = firstZ L k := ⟨_, rfl⟩
    rw [← hF] at hR
    by_cases hp : 0 ≤ F
    · rw [if_pos hp] at hR
      have HR := Lib.hid hR
      have HF := Lib.hid hF
      clear hR hF
      go_enter Tryz.func48, Tryz.ntmps48
      go_wp2_with (first
        | (go_at_call 81; refine (bHas_in p _ k _ hc (by omega) hi.2).mono ?_; rintro e w' ⟨rfl, rfl⟩)
        | (go_at_call 82; refine (bZeroFrom_val h k (by omega) F HF.out).mono ?_; rintro e w' ⟨rfl, m2, rfl⟩))
      go_ret
      exact ⟨ret_int HR.out.symm, m2, rfl⟩
    · rw [if_neg hp] at hR
      have HR := Lib.hid hR
      have HF := Lib.hid hF
      clear hR hF
      go_enter Tryz.func48, Tryz.ntmps48
      go_wp2_with (first
        | (go_at_call 81; refine (bHas_in p _ k _ hc (by omega) hi.2).mono ?_; rintro e w' ⟨rfl, rfl⟩)
        | (go_at_call 82; (with_reducible refine (bZeroFrom_val h k (by omega) F HF.out).mono ?_); rintro e w' ⟨rfl, m2, rfl⟩)
        | (go_at_call 82; (with_reducible refine (bZeroFrom_val0 h _ R HR.out).mono ?_); rintro e w' ⟨rfl, m3, rfl⟩))
      go_ret
      exact ⟨rfl, _, rfl⟩
  · rw [firstS, if_neg hi] at hR
    have HR := Lib.hid hR
    clear hR
    go_enter Tryz.func48, Tryz.ntmps48
    go_wp2_with (first
      | (go_at_call 81; refine (bHas_out p _ goal _ hc hi).mono ?_; rintro e w' ⟨rfl, rfl⟩)
      | (go_at_call 82; (with_reducible refine (bZeroFrom_w0 h R HR.out).mono ?_); rintro e w' ⟨rfl, m3, rfl⟩))
    go_ret
    exact ⟨rfl, _, rfl⟩

theorem bCount_any {w : World} {p g : Nat} {L : List Bool} (h : BRow w p g L) :
    Calls Tryz.prog 46 #[.pointer (some ⟨p, 0, none⟩)] w fun e w' => e = .returned (.int .i64 (countB L)) ∧ ∃ m, w' = w.drewN m := by
  have hn := h.1
  go_enter Tryz.func46, Tryz.ntmps46
  go_wp2_with (go_at_call 79; refine (bLen_row h).mono ?_; rintro e w' ⟨rfl, rfl⟩)
  go_loopw [3, 7] (fun c i wr => ∃ k : Nat, k ≤ L.length ∧ i = .int .i64 k ∧ c = .int .i64 (countB (L.take k)) ∧ ∃ m, wr = w.drewN m)
    (fun _ i _ => L.length - (intOf i).toNat)
  case atStart => exact ⟨0, by omega, rfl, rfl, 0, rfl⟩
  case round =>
    obtain ⟨k, hk, rfl, rfl, m, rfl⟩ := hrel
    have hle := countB_take_le L k
    obtain ⟨C, hC⟩ : ∃ C, C = countB (L.take k) := ⟨_, rfl⟩
    rw [← hC] at hle ⊢
    by_cases hlt : k < L.length
    · have hstep := countB_take hlt
      cases hb : L.getD k false
      · rw [hb, if_neg (by decide), ← hC] at hstep
        have HB := Lib.hid hb
        have HS := Lib.hid hstep
        clear hb hstep hC
        go_wp2_with (go_at_call 80; refine (bGet_val h k _ false HB.out).mono ?_; rintro e w' ⟨rfl, m2, rfl⟩)
        go_roundw
        case rel => exact ⟨k + 1, by omega, by go_num, by rw [HS.out]; go_num, m2, rfl⟩
        case measure => simp [intOf]; omega
      · rw [hb, if_pos rfl, ← hC] at hstep
        have HB := Lib.hid hb
        have HS := Lib.hid hstep
        clear hb hstep hC
        go_wp2_with (go_at_call 80; refine (bGet_val h k _ true HB.out).mono ?_; rintro e w' ⟨rfl, m2, rfl⟩)
        go_roundw
        case rel => exact ⟨k + 1, by omega, by go_num, by rw [HS.out]; go_num, m2, rfl⟩
        case measure => simp [intOf]; omega
    · have HC := Lib.hid hC
      clear hC
      go_wp2_with fail
      go_ret
      exact ⟨ret_int (by rw [HC.out, List.take_of_length_le (by omega)]), m, rfl⟩

end Go.Proofs.YtkbeencjklgcnaaGreat

/- Contract of bits.Of: a row for good bytes, an error for others. -/
namespace Go.Proofs.YtkbeencjklgcnaaGreat
set_option maxRecDepth 100000
open Go.RowKit BM

namespace BM
/-- The bytes l are those of some row of n bits. -/
def BGood (n : Nat) (l : List Int) : Prop := l.length = (n + 7) / 8 ∧ ∀ j, n ≤ j → bitAt (l.getD (j / 8) 0) (j % 8) = false
def bitsOf (n : Nat) (l : List Int) : List Bool := (List.range n).map fun j => bitAt (l.getD (j / 8) 0) (j % 8)
theorem length_bitsOf (n : Nat) (l : List Int) : (bitsOf n l).length = n := by simp [bitsOf]
theorem getD_bitsOf (n : Nat) (l : List Int) (j : Nat) (h : j < n) : (bitsOf n l).getD j false = bitAt (l.getD (j / 8) 0) (j % 8) := by
  unfold bitsOf
  rw [List.getD_eq_getElem?_getD, List.getElem?_map, List.getElem?_range h]; rfl
theorem rep_bitsOf {n : Nat} {l : List Int} (hg : BGood n l) (hb : ∀ j, 0 ≤ l.getD j 0 ∧ l.getD j 0 ≤ 255) : Rep l (bitsOf n l) := by
  refine ⟨by rw [length_bitsOf, hg.1], hb, fun j => ?_⟩
  by_cases h : j < n
  · rw [getD_bitsOf n l j h]
  · rw [hg.2 j (by omega), List.getD_eq_getElem?_getD, List.getElem?_eq_none (by rw [length_bitsOf]; omega)]; rfl

theorem high_tab : ∀ u, u < 8 → ∀ n, n < 256 → (n / 2 ^ u = 0 ↔ ∀ k, k < 8 → u ≤ k → n / 2 ^ k % 2 = 0) := by decide +kernel
theorem high_bits (x : Int) (u : Nat) (hu : u < 8) (h0 : 0 ≤ x) (h1 : x ≤ 255) : x / 2 ^ u = 0 ↔ ∀ k, k < 8 → u ≤ k → bitAt x k = false := by
  obtain ⟨n, rfl⟩ : ∃ n : Nat, x = n := ⟨x.toNat, by omega⟩
  have ht := high_tab u hu n (by omega)
  have e : (n : Int) / 2 ^ u = ((n / 2 ^ u : Nat) : Int) := by push_cast; rfl
  rw [e]
  constructor
  · intro h k hk huk
    have := ht.1 (by omega) k hk huk
    rw [bitAt_nat]; simp; omega
  · intro h
    have : n / 2 ^ u = 0 := ht.2 fun k hk huk => by
      have := h k hk huk
      rw [bitAt_nat] at this
      simp at this; omega
    rw [this]; rfl

theorem good_iff (n : Nat) (l : List Int) (hl : l.length = (n + 7) / 8) (hb : ∀ j, 0 ≤ l.getD j 0 ∧ l.getD j 0 ≤ 255) :
    BGood n l ↔ (n % 8 = 0 ∨ l.getD (l.length - 1) 0 / 2 ^ (n % 8) = 0) := by
  constructor
  · intro hg
    by_cases h : n % 8 = 0
    · exact .inl h
    · refine .inr ((high_bits _ _ (Nat.mod_lt _ (by omega)) (hb _).1 (hb _).2).2 fun k hk huk => ?_)
      have := hg.2 (8 * (l.length - 1) + k) (by omega)
      rw [show (8 * (l.length - 1) + k) / 8 = l.length - 1 by omega, show (8 * (l.length - 1) + k) % 8 = k by omega] at this
      exact this
  · intro h
    refine ⟨hl, fun j hj => ?_⟩
    by_cases hj2 : j / 8 < l.length
    · rcases h with h | h
      · omega
      · have := (high_bits _ _ (Nat.mod_lt _ (by omega)) (hb _).1 (hb _).2).1 h (j % 8) (Nat.mod_lt _ (by omega)) (by omega)
        rw [show j / 8 = l.length - 1 by omega]; exact this
    · rw [List.getD_eq_getElem?_getD, List.getElem?_eq_none (by omega)]; exact bitAt_zero _
end BM

end Go.Proofs.YtkbeencjklgcnaaGreat

/- Plain facts of the layout: sizes, groups, fixed and open blocks. -/
namespace Go.Proofs.YtkbeencjklgcnaaGreat
set_option maxRecDepth 100000
open Go.RowKit

theorem ret_i {k : IntKind} {a b : Int} (h : a = b) : Ending.returned (.int k a) = .returned (.int k b) := by rw [h]
/-- May a file system have b blocks? -/
def frmB (b : Int) : Bool := decide (1 ≤ b ∧ b ≤ 768 ∧ b % 64 = 0)
def grsI (b : Int) : Int := if frmB b = true then b / 64 else 0
def grpI (n : Int) : Int := if n < 0 then -1 else n / 64
def dscI (g : Int) : Int := if 0 ≤ g ∧ g < 12 then (if g = 0 then 1 else g * 64) else -1
def ownI (g : Int) : Int := if 0 ≤ g ∧ g < 12 then dscI g + 1 else -1
def fixB (n : Int) : Bool := decide ((0 ≤ n ∧ n < 43) ∨ n = 63 ∨ (64 ≤ n ∧ n < 768 ∧ n % 64 < 2))
def opnI (b : Int) : Int := if frmB b = true then 62 * (b / 64) - 42 else 0
def romI (b : Int) : Int := if frmB b = true then 62 * (b / 64) - 48 else 0

theorem frm_yes {b : Int} (h : frmB b = true) : ∃ k : Nat, 1 ≤ k ∧ k ≤ 12 ∧ b = 64 * (k : Int) := by
  have := of_decide_eq_true h
  exact ⟨(b / 64).toNat, by omega, by omega, by omega⟩
theorem frm_mk (k : Nat) (h1 : 1 ≤ k) (h2 : k ≤ 12) : frmB (64 * (k : Int)) = true := decide_eq_true (by omega)
theorem frm_no {b : Int} (h : frmB b = false) : ¬ (1 ≤ b ∧ b ≤ 768 ∧ b % 64 = 0) := of_decide_eq_false h

/-- How many of the first n blocks are open, and fixed. -/
def cntO : Nat → Nat
  | 0 => 0
  | n + 1 => if fixB (n : Int) = true then cntO n else cntO n + 1
def cntF : Nat → Nat
  | 0 => 0
  | n + 1 => if fixB (n : Int) = true then cntF n + 1 else cntF n
theorem cnt_all (n : Nat) : cntO n + cntF n = n := by
  induction n with
  | zero => rfl
  | succ n ih => unfold cntO cntF; by_cases h : fixB (n : Int) = true <;> simp only [h, if_pos, if_false, Bool.false_eq_true] <;> omega
theorem cntO_le (n : Nat) : cntO n ≤ n := by have := cnt_all n; omega
theorem cntF_le (n : Nat) : cntF n ≤ n := by have := cnt_all n; omega
/-- Within the first group. -/
theorem cntO_first : ∀ n : Nat, n ≤ 43 → cntO n = 0 := by
  intro n
  induction n with
  | zero => intro _; rfl
  | succ n ih => intro h; unfold cntO; rw [if_pos (by unfold fixB; exact decide_eq_true (by omega)), ih (by omega)]
theorem cntO_second : ∀ n : Nat, 43 ≤ n → n ≤ 63 → cntO n = n - 43 := by
  intro n
  induction n with
  | zero => intro h; omega
  | succ n ih =>
    intro h1 h2
    by_cases e : n = 42
    · subst e; rw [cntO_first 43 (by omega)]
    · unfold cntO; rw [if_neg (by unfold fixB; simp only [decide_eq_true_eq]; omega), ih (by omega) (by omega)]; omega
theorem cntO_64 : cntO 64 = 20 := by
  unfold cntO; rw [if_pos (by decide), cntO_second 63 (by omega) (by omega)]
theorem cntO_in (k : Nat) (h1 : 1 ≤ k) (h2 : k < 12) (c : Nat) (hc : cntO (64 * k) = c) : ∀ j : Nat, j ≤ 64 → cntO (64 * k + j) = c + (j - 2) := by
  intro j
  induction j with
  | zero => intro _; simpa using hc
  | succ j ih =>
    intro h
    show cntO (64 * k + j + 1) = _
    by_cases hj : j < 2
    · unfold cntO; rw [if_pos (by unfold fixB; exact decide_eq_true (by omega)), ih (by omega)]; omega
    · unfold cntO; rw [if_neg (by unfold fixB; simp only [decide_eq_true_eq]; omega), ih (by omega)]; omega
theorem cntO_mul : ∀ k : Nat, 1 ≤ k → k ≤ 12 → cntO (64 * k) + 42 = 62 * k := by
  intro k
  induction k with
  | zero => intro h; omega
  | succ k ih =>
    intro h1 h2
    by_cases e : k = 0
    · subst e; rw [show 64 * (0 + 1) = 64 from rfl, cntO_64]
    · have := ih (by omega) (by omega)
      rw [show 64 * (k + 1) = 64 * k + 64 by omega, cntO_in k (by omega) (by omega) _ rfl 64 (by omega)]; omega
theorem cntO_opn (k : Nat) (h1 : 1 ≤ k) (h2 : k ≤ 12) : (cntO (64 * k) : Int) = opnI (64 * (k : Int)) := by
  have := cntO_mul k h1 h2
  unfold opnI
  rw [if_pos (frm_mk k h1 h2)]; omega
end Go.Proofs.YtkbeencjklgcnaaGreat

/- Plain facts on owners and descriptors. -/
namespace Go.Proofs.YtkbeencjklgcnaaGreat
set_option maxRecDepth 100000
open Go.RowKit BM
set_option linter.unusedVariables false

/-- Is an owner (Ino, At) well formed? -/
def frmO (i a : Int) : Bool :=
  if i = 0 ∨ i = 65535 then decide (a = 0) else if i = 65534 then decide (a < 6) else decide (i < 48) && (decide (a < 138) || decide (a = 65535))
/-- The owners of a list: each number has two bytes. -/
def OwB (O : List (Int × Int)) : Prop := ∀ j, (0 ≤ (O.getD j (0, 0)).1 ∧ (O.getD j (0, 0)).1 ≤ 65535) ∧ (0 ≤ (O.getD j (0, 0)).2 ∧ (O.getD j (0, 0)).2 ≤ 65535)
def frmJ (O : List (Int × Int)) (j : Nat) : Bool := frmO (O.getD j (0, 0)).1 (O.getD j (0, 0)).2
/-- The first k owners are well formed. -/
def frmK (O : List (Int × Int)) : Nat → Bool
  | 0 => true
  | k + 1 => frmK O k && frmJ O k
/-- A list that has a page. -/
def allO (O : List (Int × Int)) : Bool := decide (O.length = 64) && frmK O O.length
theorem frmK_iff (O : List (Int × Int)) (k : Nat) : frmK O k = true ↔ ∀ j, j < k → frmJ O j = true := by
  induction k with
  | zero => exact ⟨fun _ j h => by omega, fun _ => rfl⟩
  | succ k ih =>
    rw [frmK, Bool.and_eq_true, ih]
    constructor
    · rintro ⟨h1, h2⟩ j hj
      by_cases e : j = k
      · rw [e]; exact h2
      · exact h1 j (by omega)
    · exact fun h => ⟨fun j hj => h j (by omega), h k (by omega)⟩
theorem frmK_no {O : List (Int × Int)} {k n : Nat} (h : frmJ O k = false) (hk : k < n) : frmK O n = false := by
  cases hb : frmK O n
  · rfl
  · have := (frmK_iff O n).1 hb k hk
    rw [h] at this; cases this

/-- The bytes of the first k owners' page. -/
def pageK (O : List (Int × Int)) : Nat → List Int
  | 0 => []
  | k + 1 => pageK O k ++ lowB (O.getD k (0, 0)).1 2 ++ lowB (O.getD k (0, 0)).2 2
theorem pageK_length (O : List (Int × Int)) (k : Nat) : (pageK O k).length = 4 * k := by
  induction k with
  | zero => rfl
  | succ k ih => rw [pageK, List.length_append, List.length_append, ih, lowB_length, lowB_length]; omega
def pageS (O : List (Int × Int)) : List Int := pageK O O.length
/-- The owners whose page is l. -/
def ownJ (l : List Int) (j : Nat) : Int × Int := (getV l (4 * j) 2, getV l (4 * j + 2) 2)
def ownK (l : List Int) (k : Nat) : List (Int × Int) := (List.range k).map (ownJ l)
theorem ownK_length (l : List Int) (k : Nat) : (ownK l k).length = k := by simp [ownK]
theorem ownK_getD (l : List Int) (k j : Nat) (h : j < k) : (ownK l k).getD j (0, 0) = ownJ l j := by
  simp [ownK, List.getD_eq_getElem?_getD, h]
theorem ownK_succ (l : List Int) (k : Nat) : ownK l (k + 1) = ownK l k ++ [ownJ l k] := by simp [ownK, List.range_succ]
theorem getV2_bd {l : List Int} (h : ∀ x ∈ l, 0 ≤ x ∧ x ≤ 255) (a : Nat) : 0 ≤ getV l a 2 ∧ getV l a 2 ≤ 65535 := by
  have := getV_bound h a 2
  have e : (256 : Int) ^ 2 = 65536 := rfl
  omega

theorem owB_of {O : List (Int × Int)} (h : ∀ j, j < O.length → (0 ≤ (O.getD j (0, 0)).1 ∧ (O.getD j (0, 0)).1 ≤ 65535) ∧ (0 ≤ (O.getD j (0, 0)).2 ∧ (O.getD j (0, 0)).2 ≤ 65535)) : OwB O := fun j => by
  by_cases hj : j < O.length
  · exact h j hj
  · rw [List.getD_eq_getElem?_getD, List.getElem?_eq_none (by omega)]; decide
theorem owB_ownK {l : List Int} (h : ∀ x ∈ l, 0 ≤ x ∧ x ≤ 255) (k : Nat) : OwB (ownK l k) := owB_of fun j hj => by
  rw [ownK_length] at hj
  rw [ownK_getD l k j hj]
  exact ⟨getV2_bd h _, getV2_bd h _⟩

/-- Which blocks have an owner. -/
def usedJ (O : List (Int × Int)) (j : Nat) : Bool := decide ((O.getD j (0, 0)).1 ≠ 0)
def usedK (O : List (Int × Int)) (k : Nat) : List Bool := (List.range k).map (usedJ O)
theorem usedK_length (O : List (Int × Int)) (k : Nat) : (usedK O k).length = k := by simp [usedK]
theorem usedK_getD (O : List (Int × Int)) (k j : Nat) (h : j < k) : (usedK O k).getD j false = usedJ O j := by
  simp [usedK, List.getD_eq_getElem?_getD, h]
theorem usedK_succ (O : List (Int × Int)) (k : Nat) : usedK O (k + 1) = usedK O k ++ [usedJ O k] := by simp [usedK, List.range_succ]

/-- The owners of a new group. -/
def freshJ (g : Int) (j : Nat) : Int × Int := (if fixB (64 * g + (j : Int)) = true then 65535 else 0, 0)
def freshK (g : Int) (k : Nat) : List (Int × Int) := (List.range k).map (freshJ g)
theorem freshK_length (g : Int) (k : Nat) : (freshK g k).length = k := by simp [freshK]
theorem freshK_getD (g : Int) (k j : Nat) (h : j < k) : (freshK g k).getD j (0, 0) = freshJ g j := by
  simp [freshK, List.getD_eq_getElem?_getD, h]
theorem freshK_succ (g : Int) (k : Nat) : freshK g (k + 1) = freshK g k ++ [freshJ g k] := by simp [freshK, List.range_succ]
theorem owB_fresh (g : Int) (k : Nat) : OwB (freshK g k) := owB_of fun j hj => by
  rw [freshK_length] at hj
  rw [freshK_getD g k j hj, freshJ]
  split <;> decide
theorem fresh_frm (g : Int) (k j : Nat) : frmJ (freshK g k) j = true := by
  unfold frmJ
  by_cases h : j < k
  · rw [freshK_getD g k j h, freshJ]
    split <;> decide
  · rw [List.getD_eq_getElem?_getD, List.getElem?_eq_none (by rw [freshK_length]; omega)]; decide
theorem fresh_all (g : Int) : allO (freshK g 64) = true := by
  rw [allO, freshK_length, Bool.and_eq_true]
  exact ⟨by decide, (frmK_iff _ _).2 fun j _ => fresh_frm g 64 j⟩

/-- The bytes of a row of bits. -/
def bitN (b : Bool) : Int := if b then 1 else 0
def byteJ (L : List Bool) (j : Nat) : Int := bitN (L.getD (8 * j) false) + 2 * bitN (L.getD (8 * j + 1) false) + 4 * bitN (L.getD (8 * j + 2) false) + 8 * bitN (L.getD (8 * j + 3) false) +
  16 * bitN (L.getD (8 * j + 4) false) + 32 * bitN (L.getD (8 * j + 5) false) + 64 * bitN (L.getD (8 * j + 6) false) + 128 * bitN (L.getD (8 * j + 7) false)
def bytesB (L : List Bool) : List Int := (List.range ((L.length + 7) / 8)).map (byteJ L)
theorem bitN_01 (b : Bool) : 0 ≤ bitN b ∧ bitN b ≤ 1 := by cases b <;> decide
theorem bitN_dec (b : Bool) (x : Int) (h : x = bitN b) : decide (x = 1) = b := by subst h; cases b <;> rfl
theorem byte_bits (v0 v1 v2 v3 v4 v5 v6 v7 : Int) (h0 : 0 ≤ v0 ∧ v0 ≤ 1) (h1 : 0 ≤ v1 ∧ v1 ≤ 1) (h2 : 0 ≤ v2 ∧ v2 ≤ 1) (h3 : 0 ≤ v3 ∧ v3 ≤ 1) (h4 : 0 ≤ v4 ∧ v4 ≤ 1) (h5 : 0 ≤ v5 ∧ v5 ≤ 1) (h6 : 0 ≤ v6 ∧ v6 ≤ 1) (h7 : 0 ≤ v7 ∧ v7 ≤ 1) (x : Int)
    (hx : x = v0 + 2 * v1 + 4 * v2 + 8 * v3 + 16 * v4 + 32 * v5 + 64 * v6 + 128 * v7) :
    x / 2 ^ 0 % 2 = v0 ∧ x / 2 ^ 1 % 2 = v1 ∧ x / 2 ^ 2 % 2 = v2 ∧ x / 2 ^ 3 % 2 = v3 ∧ x / 2 ^ 4 % 2 = v4 ∧ x / 2 ^ 5 % 2 = v5 ∧ x / 2 ^ 6 % 2 = v6 ∧ x / 2 ^ 7 % 2 = v7 := by
  refine ⟨?_, ?_, ?_, ?_, ?_, ?_, ?_, ?_⟩ <;> omega
theorem byteJ_bit (L : List Bool) (j k : Nat) (hk : k < 8) : bitAt (byteJ L j) k = L.getD (8 * j + k) false := by
  obtain ⟨e0, e1, e2, e3, e4, e5, e6, e7⟩ := byte_bits _ _ _ _ _ _ _ _ (bitN_01 (L.getD (8 * j) false)) (bitN_01 (L.getD (8 * j + 1) false)) (bitN_01 (L.getD (8 * j + 2) false)) (bitN_01 (L.getD (8 * j + 3) false))
    (bitN_01 (L.getD (8 * j + 4) false)) (bitN_01 (L.getD (8 * j + 5) false)) (bitN_01 (L.getD (8 * j + 6) false)) (bitN_01 (L.getD (8 * j + 7) false)) (byteJ L j) rfl
  have e : k = 0 ∨ k = 1 ∨ k = 2 ∨ k = 3 ∨ k = 4 ∨ k = 5 ∨ k = 6 ∨ k = 7 := by omega
  unfold bitAt
  rcases e with rfl | rfl | rfl | rfl | rfl | rfl | rfl | rfl
  · exact bitN_dec _ _ e0
  · exact bitN_dec _ _ e1
  · exact bitN_dec _ _ e2
  · exact bitN_dec _ _ e3
  · exact bitN_dec _ _ e4
  · exact bitN_dec _ _ e5
  · exact bitN_dec _ _ e6
  · exact bitN_dec _ _ e7
theorem byteJ_bd (L : List Bool) (j : Nat) : 0 ≤ byteJ L j ∧ byteJ L j ≤ 255 := by
  have h0 := bitN_01 (L.getD (8 * j) false)
  have h1 := bitN_01 (L.getD (8 * j + 1) false)
  have h2 := bitN_01 (L.getD (8 * j + 2) false)
  have h3 := bitN_01 (L.getD (8 * j + 3) false)
  have h4 := bitN_01 (L.getD (8 * j + 4) false)
  have h5 := bitN_01 (L.getD (8 * j + 5) false)
  have h6 := bitN_01 (L.getD (8 * j + 6) false)
  have h7 := bitN_01 (L.getD (8 * j + 7) false)
  unfold byteJ
  omega
theorem bytesB_length (L : List Bool) : (bytesB L).length = (L.length + 7) / 8 := by simp [bytesB]
theorem bytesB_getD (L : List Bool) (j : Nat) : (bytesB L).getD j 0 = if j < (L.length + 7) / 8 then byteJ L j else 0 := by
  unfold bytesB
  rw [List.getD_eq_getElem?_getD, List.getElem?_map]
  by_cases h : j < (L.length + 7) / 8
  · rw [if_pos h, List.getElem?_range h]; rfl
  · rw [if_neg h, List.getElem?_eq_none (by simp; omega)]; rfl
theorem rep_bytesB (L : List Bool) : Rep (bytesB L) L := by
  refine ⟨bytesB_length L, fun j => ?_, fun j => ?_⟩
  · rw [bytesB_getD]; split
    · exact byteJ_bd L j
    · decide
  · rw [bytesB_getD]
    by_cases h : j / 8 < (L.length + 7) / 8
    · rw [if_pos h, byteJ_bit L _ _ (Nat.mod_lt _ (by omega))]
      congr 1; omega
    · rw [if_neg h, bitAt_zero, List.getD_eq_getElem?_getD, List.getElem?_eq_none (by omega)]; rfl
theorem byt_bytesB (L : List Bool) : ∀ x ∈ bytesB L, 0 ≤ x ∧ x ≤ 255 := fun x hx => by
  obtain ⟨j, _, rfl⟩ := List.mem_map.1 hx
  exact byteJ_bd L j

/-- A descriptor's content; its block. -/
def descC (g : Int) (L : List Bool) : List Int := [100, 101, 115, 99] ++ lowB g 2 ++ lowB (countB L) 2 ++ bytesB L
def descS (g : Int) (L : List Bool) : List Int := sealS (descC g L)
theorem descC_length (g : Int) (L : List Bool) (h : L.length = 64) : (descC g L).length = 16 := by
  simp [descC, lowB_length, bytesB_length, h]
/-- Which descriptor has the block l; is there one? -/
def decG (l : List Int) : Int := getV (l.take 252) 4 2
def decL (l : List Int) : List Bool := bitsOf 64 (((l.take 252).drop 8).take 8)
def hasD (l : List Int) : Prop := sealed l ∧ decG l < 12 ∧ descS (decG l) (decL l) = l
theorem decL_length (l : List Int) : (decL l).length = 64 := length_bitsOf _ _
theorem take_drop_mid {α : Type} (A B C : List α) (a b : Nat) (ha : A.length = a) (hb : B.length = b) : ((A ++ B ++ C).drop a).take b = B := by
  rw [List.append_assoc, List.drop_left' ha, List.take_left' hb]
theorem dec_of (g : Int) (L : List Bool) (hg0 : 0 ≤ g) (hg : g < 12) (hL : L.length = 64) : decG (descS g L) = g ∧ decL (descS g L) = L := by
  have hc := descC_length g L hL
  have hf := fillS_length (descC g L) (by omega)
  have e1 : (descS g L).take 252 = fillS (descC g L) := by rw [descS, sealS, ← hf, List.take_left']; rfl
  have hb := bytesB_length L
  rw [hL] at hb
  obtain ⟨Z, hZ⟩ : ∃ Z, fillS (descC g L) = descC g L ++ Z := ⟨_, rfl⟩
  rw [decG, decL, e1, hZ, descC]
  constructor
  · have h1 : ([100, 101, 115, 99] ++ lowB g 2 ++ lowB (↑(countB L)) 2 ++ bytesB L ++ Z : List Int) = [100, 101, 115, 99] ++ lowB g 2 ++ (lowB (↑(countB L)) 2 ++ bytesB L ++ Z) := by simp
    rw [h1, getV, take_drop_mid _ _ _ 4 2 rfl (lowB_length _ _), leB_lowB g 2 hg0]
    exact Int.emod_eq_of_lt hg0 (by omega)
  · have h1 : ([100, 101, 115, 99] ++ lowB g 2 ++ lowB (↑(countB L)) 2 ++ bytesB L ++ Z : List Int) = ([100, 101, 115, 99] ++ lowB g 2 ++ lowB (↑(countB L)) 2) ++ bytesB L ++ Z := by simp
    rw [h1, take_drop_mid _ _ _ 8 8 (by simp [lowB_length]) hb]
    have hr := rep_bytesB L
    apply List.ext_getElem (by rw [length_bitsOf, hL])
    intro j h2 h3
    have h4 := hr.bit j
    have h5 := getD_bitsOf 64 (bytesB L) j (by omega)
    rw [h4] at h5
    simpa [List.getD_eq_getElem?_getD, h2, h3] using h5
theorem has_of (g : Int) (L : List Bool) (hg0 : 0 ≤ g) (hg : g < 12) (hL : L.length = 64) : hasD (descS g L) := by
  obtain ⟨h1, h2⟩ := dec_of g L hg0 hg hL
  refine ⟨sealed_sealS _ (by rw [descC_length g L hL]; omega), by rw [h1]; exact hg, by rw [h1, h2]⟩
end Go.Proofs.YtkbeencjklgcnaaGreat

/- Contract of bits.Of: a row for good bytes, an error for others. -/
namespace Go.Proofs.YtkbeencjklgcnaaGreat
set_option maxRecDepth 100000
open Go.RowKit BM

/-- The row that New makes for a number in range. -/
theorem bNew_nat (n N : Nat) (h : n ≤ 4096) (w : World) (hN : N = (n + 7) / 8) :
    Calls Tryz.prog 77 #[.int .i64 n] w fun e w' => e = .returned (.pointer (some ⟨w.heap.size + 1, 0, none⟩)) ∧ Below w.heap.size w w' ∧ Hid (w'.heap.size = w.heap.size + 2) ∧
      Hid (w'.heap[w.heap.size + 1]? = some (.cells #[.int .i64 n, .slice (some ⟨w.heap.size, 0, none⟩) N N] 125 (0, 0))) ∧
      w'.cell? ⟨w.heap.size + 1, 1, none⟩ = some (.slice (some ⟨w.heap.size, 0, none⟩) N N) ∧
      Hid (w'.heap[w.heap.size]? = some (.cells ((List.replicate N (0 : Int)).map (Value.int .u8)).toArray 5 (0, 0))) := by
  refine (bNew_at n n h w (by rw [if_neg (by omega), if_neg (by omega)])).mono fun e w' ⟨he, hr, hb, hz⟩ => ⟨he, hb, hz, ?_⟩
  obtain ⟨_, l, hrep, hp, hg⟩ := hr
  have el := rep_ext hrep (rep_new n)
  subst el
  simp only [List.length_replicate, ← hN] at hp hg
  refine ⟨hp, ?_, hg⟩
  rw [cell_of_row _ _ _ _ _ _ hp]; rfl

theorem copy_src {w w1 : World} {ao : Option Addr} {N cap : Nat} {l : List Int} {g : Nat} (hs : BSl w (.slice ao N cap) l) (hb : Below w.heap.size w w1) :
    0 < (l.map (Value.int .u8)).length → some (⟨g, 0, none⟩ : Addr) = some ⟨g, 0, none⟩ ∧ ∃ ad, ao = some ad ∧ ∀ j v, (l.map (Value.int .u8))[j]? = some v → w1.cell? (ad.add j) = some v := by
  intro hpos
  refine ⟨rfl, ?_⟩
  rcases hs.2 with ⟨_, hl⟩ | ⟨a, c, hv, _, hc⟩
  · rw [hl] at hpos; simp at hpos
  · obtain ⟨rfl, _⟩ : ao = some a ∧ N = l.length := by simpa using ⟨(Value.slice.inj hv).1, (Value.slice.inj hv).2.1⟩
    refine ⟨a, rfl, fun j v hj => ?_⟩
    have hjl : j < l.length := by simpa using (List.getElem?_eq_some_iff.1 hj).1
    obtain ⟨h1, h2, h3⟩ := hc j hjl
    obtain ⟨b, off, spot⟩ := a
    obtain rfl : spot = none := h2
    rw [Addr.add_lit, hb.cell (by exact h1), h3]
    rw [← hj]
    simp [List.getD_eq_getElem?_getD, hjl]

/-- Of, whatever it is given. -/
def ofOut (n : Int) (l : List Int) (w : World) (e : Ending) (w' : World) : Prop :=
  (¬ (0 ≤ n ∧ n ≤ 4096) ∧ e = .returned (.tuple #[.pointer none, .int .i64 1]) ∧ w = w') ∨
  (0 ≤ n ∧ n ≤ 4096 ∧ ¬ BGood n.toNat l ∧ e = .returned (.tuple #[.pointer none, .int .i64 18]) ∧ w = w') ∨
  (0 ≤ n ∧ n ≤ 4096 ∧ BGood n.toNat l ∧ ∃ p g, e = .returned (.tuple #[.pointer (some ⟨p, 0, none⟩), .int .i64 0]) ∧ BRow w' p g (bitsOf n.toNat l) ∧ Below w.heap.size w w' ∧ w.heap.size ≤ p ∧ w.heap.size ≤ g)

end Go.Proofs.YtkbeencjklgcnaaGreat

/- Contracts of package geom: each call computes the plain function, and leaves memory as it was. -/
namespace Go.Proofs.YtkbeencjklgcnaaGreat
set_option maxRecDepth 100000
open Go.RowKit
set_option linter.unusedVariables false

theorem gFormed_any (b : Int) (hm : b ≤ 9223372036854775807) (w : World) : Calls Tryz.prog 38 #[.int .i64 b] w fun e w' => e = .returned (.bool (frmB b)) ∧ w = w' := by
  by_cases h1 : 0 < b
  · by_cases h2 : b % 64 = 0
    · by_cases h3 : b / 64 ≤ 12
      · have hr : frmB b = true := decide_eq_true (by omega)
        rw [hr]
        have h0 : 0 ≤ b := by omega
        have h2' : (b % 64 == 0) = true := by simp [h2]
        clear hr h2
        go_enter Tryz.func38, Tryz.ntmps38
        go_wp2
        go_ret
        exact ⟨rfl, rfl⟩
      · have hr : frmB b = false := decide_eq_false (by omega)
        rw [hr]
        have h0 : 0 ≤ b := by omega
        have h2' : (b % 64 == 0) = true := by simp [h2]
        clear hr h2
        go_enter Tryz.func38, Tryz.ntmps38
        go_wp2
        go_ret
        exact ⟨rfl, rfl⟩
    · have hr : frmB b = false := decide_eq_false (by omega)
      rw [hr]
      have h0 : 0 ≤ b := by omega
      have h2' : (b % 64 == 0) = false := by simp [h2]
      clear hr
      go_enter Tryz.func38, Tryz.ntmps38
      go_wp2
      go_ret
      exact ⟨rfl, rfl⟩
  · have hr : frmB b = false := decide_eq_false (by omega)
    rw [hr]
    clear hr
    go_enter Tryz.func38, Tryz.ntmps38
    go_wp2
    go_ret
    exact ⟨rfl, rfl⟩
theorem gFormed_yes (k : Nat) (h1 : 1 ≤ k) (h2 : k ≤ 12) (w : World) : Calls Tryz.prog 38 #[.int .i64 (64 * (k : Int))] w fun e w' => e = .returned (.bool true) ∧ w = w' := by
  have := gFormed_any (64 * (k : Int)) (by omega) w
  rw [frm_mk k h1 h2] at this; exact this
theorem gFormed_no (b : Int) (hm : b ≤ 9223372036854775807) (h : frmB b = false) (w : World) : Calls Tryz.prog 38 #[.int .i64 b] w fun e w' => e = .returned (.bool false) ∧ w = w' := by
  have := gFormed_any b hm w
  rw [h] at this; exact this
theorem gGroups_yes (k : Nat) (h1 : 1 ≤ k) (h2 : k ≤ 12) (w : World) : Calls Tryz.prog 73 #[.int .i64 (64 * (k : Int))] w fun e w' => e = .returned (.int .i64 k) ∧ w = w' := by
  go_enter Tryz.func73, Tryz.ntmps73
  go_wp2_with (go_at_call 38; refine (gFormed_yes k h1 h2 _).mono ?_; rintro e w' ⟨rfl, rfl⟩)
  go_ret
  exact ⟨ret_i (by omega), rfl⟩
theorem gGroups_any (b : Int) (hm : b ≤ 9223372036854775807) (w : World) : Calls Tryz.prog 73 #[.int .i64 b] w fun e w' => e = .returned (.int .i64 (grsI b)) ∧ w = w' := by
  cases hb : frmB b
  · have hr : grsI b = 0 := by unfold grsI; rw [if_neg (by simp [hb])]
    rw [hr]
    have HB := Lib.hid hb
    clear hb hr
    go_enter Tryz.func73, Tryz.ntmps73
    go_wp2_with (go_at_call 38; refine (gFormed_no b hm HB.out _).mono ?_; rintro e w' ⟨rfl, rfl⟩)
    go_ret
    exact ⟨rfl, rfl⟩
  · obtain ⟨k, h1, h2, rfl⟩ := frm_yes hb
    have hr : grsI (64 * (k : Int)) = k := by unfold grsI; rw [if_pos hb]; omega
    rw [hr]
    exact gGroups_yes k h1 h2 w
theorem gGroup_any (n : Int) (hm : n ≤ 9223372036854775807) (w : World) : Calls Tryz.prog 36 #[.int .i64 n] w fun e w' => e = .returned (.int .i64 (grpI n)) ∧ w = w' := by
  by_cases h : n < 0
  · have hr : grpI n = -1 := if_pos h
    rw [hr]; clear hr
    go_enter Tryz.func36, Tryz.ntmps36
    go_wp2
    go_ret
    exact ⟨rfl, rfl⟩
  · have hr : grpI n = n / 64 := if_neg h
    rw [hr]; clear hr
    have h0 : 0 ≤ n := by omega
    go_enter Tryz.func36, Tryz.ntmps36
    go_wp2
    go_ret
    exact ⟨rfl, rfl⟩
theorem gPossible_yes (g : Int) (h1 : 0 ≤ g) (h2 : g < 12) (w : World) : Calls Tryz.prog 104 #[.int .i64 g] w fun e w' => e = .returned (.bool true) ∧ w = w' := by
  go_enter Tryz.func104, Tryz.ntmps104
  go_wp2
  go_ret
  exact ⟨rfl, rfl⟩
theorem gPossible_no (g : Int) (h : ¬ (0 ≤ g ∧ g < 12)) (w : World) : Calls Tryz.prog 104 #[.int .i64 g] w fun e w' => e = .returned (.bool false) ∧ w = w' := by
  by_cases h0 : 0 ≤ g
  · have h1 : ¬ g < 12 := fun h2 => h ⟨h0, h2⟩
    go_enter Tryz.func104, Tryz.ntmps104
    go_wp2
    go_ret
    exact ⟨rfl, rfl⟩
  · go_enter Tryz.func104, Tryz.ntmps104
    go_wp2
    go_ret
    exact ⟨rfl, rfl⟩
theorem gDesc_any (g : Int) (w : World) : Calls Tryz.prog 66 #[.int .i64 g] w fun e w' => e = .returned (.int .i64 (dscI g)) ∧ w = w' := by
  by_cases h : 0 ≤ g ∧ g < 12
  · obtain ⟨h1, h2⟩ := h
    by_cases h3 : g = 0
    · subst h3
      rw [show dscI 0 = 1 from rfl]
      go_enter Tryz.func66, Tryz.ntmps66
      go_wp2_with (go_at_call 104; refine (gPossible_yes 0 (by decide) (by decide) _).mono ?_; rintro e w' ⟨rfl, rfl⟩)
      go_ret
      exact ⟨rfl, rfl⟩
    · have hr : dscI g = g * 64 := by unfold dscI; rw [if_pos ⟨h1, h2⟩, if_neg h3]
      rw [hr]
      have h3' : (g == 0) = false := by simp [h3]
      clear hr h3
      go_enter Tryz.func66, Tryz.ntmps66
      go_wp2_with (go_at_call 104; refine (gPossible_yes g h1 h2 _).mono ?_; rintro e w' ⟨rfl, rfl⟩)
      go_ret
      exact ⟨rfl, rfl⟩
  · have hr : dscI g = -1 := if_neg h
    rw [hr]
    have H := Lib.hid h
    clear hr h
    go_enter Tryz.func66, Tryz.ntmps66
    go_wp2_with (go_at_call 104; refine (gPossible_no g H.out _).mono ?_; rintro e w' ⟨rfl, rfl⟩)
    go_ret
    exact ⟨rfl, rfl⟩
theorem dsc_bd (g : Int) (h1 : 0 ≤ g) (h2 : g < 12) : 0 ≤ dscI g ∧ dscI g ≤ 704 := by
  unfold dscI; rw [if_pos ⟨h1, h2⟩]; split <;> omega
theorem gOwners_any (g : Int) (w : World) : Calls Tryz.prog 67 #[.int .i64 g] w fun e w' => e = .returned (.int .i64 (ownI g)) ∧ w = w' := by
  by_cases h : 0 ≤ g ∧ g < 12
  · have hr : ownI g = dscI g + 1 := if_pos h
    rw [hr]
    obtain ⟨h1, h2⟩ := h
    obtain ⟨d1, d2⟩ := dsc_bd g h1 h2
    clear hr
    go_enter Tryz.func67, Tryz.ntmps67
    go_wp2_with (first
      | (go_at_call 104; refine (gPossible_yes g h1 h2 _).mono ?_; rintro e w' ⟨rfl, rfl⟩)
      | (go_at_call 66; refine (gDesc_any g _).mono ?_; rintro e w' ⟨rfl, rfl⟩))
    go_ret
    exact ⟨rfl, rfl⟩
  · have hr : ownI g = -1 := if_neg h
    rw [hr]
    have H := Lib.hid h
    clear hr h
    go_enter Tryz.func67, Tryz.ntmps67
    go_wp2_with (go_at_call 104; refine (gPossible_no g H.out _).mono ?_; rintro e w' ⟨rfl, rfl⟩)
    go_ret
    exact ⟨rfl, rfl⟩
theorem gCopy_any (w : World) : Calls Tryz.prog 114 #[] w fun e w' => e = .returned (.int .i64 63) ∧ w = w' := by
  go_enter Tryz.func114, Tryz.ntmps114
  go_wp2
  go_ret
  exact ⟨rfl, rfl⟩
def jrnB (n : Int) : Bool := decide (3 ≤ n ∧ n < 43)
theorem gJournal_any (n : Int) (w : World) : Calls Tryz.prog 113 #[.int .i64 n] w fun e w' => e = .returned (.bool (jrnB n)) ∧ w = w' := by
  by_cases h0 : 3 ≤ n
  · by_cases h1 : n < 43
    · rw [show jrnB n = true from decide_eq_true ⟨h0, h1⟩]
      go_enter Tryz.func113, Tryz.ntmps113
      go_wp2
      go_ret
      exact ⟨rfl, rfl⟩
    · rw [show jrnB n = false from decide_eq_false (by omega)]
      go_enter Tryz.func113, Tryz.ntmps113
      go_wp2
      go_ret
      exact ⟨rfl, rfl⟩
  · rw [show jrnB n = false from decide_eq_false (by omega)]
    go_enter Tryz.func113, Tryz.ntmps113
    go_wp2
    go_ret
    exact ⟨rfl, rfl⟩
theorem gOpen_yes (k : Nat) (h1 : 1 ≤ k) (h2 : k ≤ 12) (w : World) : Calls Tryz.prog 41 #[.int .i64 (64 * (k : Int))] w fun e w' => e = .returned (.int .i64 (62 * (k : Int) - 42)) ∧ w = w' := by
  go_enter Tryz.func41, Tryz.ntmps41
  go_wp2_with (first
    | (go_at_call 38; refine (gFormed_yes k h1 h2 _).mono ?_; rintro e w' ⟨rfl, rfl⟩)
    | (go_at_call 73; refine (gGroups_yes k h1 h2 _).mono ?_; rintro e w' ⟨rfl, rfl⟩))
  go_ret
  exact ⟨ret_i (by omega), rfl⟩
theorem opn_mk (k : Nat) (h1 : 1 ≤ k) (h2 : k ≤ 12) : opnI (64 * (k : Int)) = 62 * (k : Int) - 42 := by
  unfold opnI; rw [if_pos (frm_mk k h1 h2)]; omega
theorem rom_mk (k : Nat) (h1 : 1 ≤ k) (h2 : k ≤ 12) : romI (64 * (k : Int)) = 62 * (k : Int) - 48 := by
  unfold romI; rw [if_pos (frm_mk k h1 h2)]; omega
theorem gOpen_any (b : Int) (hm : b ≤ 9223372036854775807) (w : World) : Calls Tryz.prog 41 #[.int .i64 b] w fun e w' => e = .returned (.int .i64 (opnI b)) ∧ w = w' := by
  cases hb : frmB b
  · have hr : opnI b = 0 := by unfold opnI; rw [if_neg (by simp [hb])]
    rw [hr]
    have HB := Lib.hid hb
    clear hb hr
    go_enter Tryz.func41, Tryz.ntmps41
    go_wp2_with (go_at_call 38; refine (gFormed_no b hm HB.out _).mono ?_; rintro e w' ⟨rfl, rfl⟩)
    go_ret
    exact ⟨rfl, rfl⟩
  · obtain ⟨k, h1, h2, rfl⟩ := frm_yes hb
    rw [opn_mk k h1 h2]
    exact gOpen_yes k h1 h2 w
/-- Fixed: out of all groups; else the four tests decide. -/
theorem gFixed_no (n : Int) (hm : n ≤ 9223372036854775807) (h : ¬ (0 ≤ grpI n ∧ grpI n < 12)) (w : World) : Calls Tryz.prog 83 #[.int .i64 n] w fun e w' => e = .returned (.bool (fixB n)) ∧ w = w' := by
  have hr : fixB n = false := by
    unfold fixB; refine decide_eq_false ?_
    unfold grpI at h; split at h <;> omega
  rw [hr]
  have H := Lib.hid h
  clear hr h
  go_enter Tryz.func83, Tryz.ntmps83
  go_wp2_with (first
    | (go_at_call 36; refine (gGroup_any n hm _).mono ?_; rintro e w' ⟨rfl, rfl⟩)
    | (go_at_call 104; refine (gPossible_no _ H.out _).mono ?_; rintro e w' ⟨rfl, rfl⟩))
  go_ret
  exact ⟨rfl, rfl⟩
theorem fix_is (n : Int) (h1 : 0 ≤ grpI n) (h2 : grpI n < 12) : fixB n = (((((n == 0) || (n == dscI (grpI n))) || (n == ownI (grpI n))) || jrnB n) || (n == 63)) := by
  have hn : 0 ≤ n := by unfold grpI at h1; split at h1 <;> omega
  have hg : grpI n = n / 64 := by unfold grpI; rw [if_neg (by omega)]
  rw [hg] at h1 h2 ⊢
  rw [Bool.eq_iff_iff]
  unfold fixB jrnB ownI dscI
  have hc : 0 ≤ n / 64 ∧ n / 64 < 12 := ⟨h1, h2⟩
  simp only [if_pos hc, decide_eq_true_eq, Bool.or_eq_true, beq_iff_eq]
  by_cases h0 : n / 64 = 0
  · simp only [if_pos h0]; omega
  · simp only [if_neg h0]; omega
theorem gFixed_yes (n : Int) (hm : n ≤ 9223372036854775807) (h1 : 0 ≤ grpI n) (h2 : grpI n < 12) (w : World) : Calls Tryz.prog 83 #[.int .i64 n] w fun e w' => e = .returned (.bool (fixB n)) ∧ w = w' := by
  rw [fix_is n h1 h2]
  obtain ⟨G, hG⟩ : ∃ G, G = grpI n := ⟨_, rfl⟩
  have HGG : Calls Tryz.prog 36 #[.int .i64 n] w fun e w' => e = .returned (.int .i64 G) ∧ w = w' := by rw [hG]; exact gGroup_any n hm w
  rw [← hG] at h1 h2 ⊢
  clear hG
  obtain ⟨D, hD⟩ : ∃ D, D = dscI G := ⟨_, rfl⟩
  have HDD : Calls Tryz.prog 66 #[.int .i64 G] w fun e w' => e = .returned (.int .i64 D) ∧ w = w' := by rw [hD]; exact gDesc_any G w
  rw [← hD]
  clear hD
  obtain ⟨O, hO⟩ : ∃ O, O = ownI G := ⟨_, rfl⟩
  have HOO : Calls Tryz.prog 67 #[.int .i64 G] w fun e w' => e = .returned (.int .i64 O) ∧ w = w' := by rw [hO]; exact gOwners_any G w
  rw [← hO]
  clear hO
  obtain ⟨J, hJ⟩ : ∃ J, J = jrnB n := ⟨_, rfl⟩
  have HJJ : Calls Tryz.prog 113 #[.int .i64 n] w fun e w' => e = .returned (.bool J) ∧ w = w' := by rw [hJ]; exact gJournal_any n w
  rw [← hJ]
  clear hJ
  rcases hb0 : (n == 0) with _ | _
  · rcases hb1 : (n == D) with _ | _
    · rcases hb2 : (n == O) with _ | _
      · cases J
        · go_enter Tryz.func83, Tryz.ntmps83
          go_wp2_with (first
            | (go_at_call 36; refine HGG.mono ?_; rintro e w' ⟨rfl, rfl⟩)
            | (go_at_call 104; refine (gPossible_yes G h1 h2 _).mono ?_; rintro e w' ⟨rfl, rfl⟩)
            | (go_at_call 66; refine HDD.mono ?_; rintro e w' ⟨rfl, rfl⟩)
            | (go_at_call 67; refine HOO.mono ?_; rintro e w' ⟨rfl, rfl⟩)
            | (go_at_call 113; refine HJJ.mono ?_; rintro e w' ⟨rfl, rfl⟩)
            | (go_at_call 114; refine (gCopy_any _).mono ?_; rintro e w' ⟨rfl, rfl⟩))
          go_ret
          exact ⟨by simp, rfl⟩
        · go_enter Tryz.func83, Tryz.ntmps83
          go_wp2_with (first
            | (go_at_call 36; refine HGG.mono ?_; rintro e w' ⟨rfl, rfl⟩)
            | (go_at_call 104; refine (gPossible_yes G h1 h2 _).mono ?_; rintro e w' ⟨rfl, rfl⟩)
            | (go_at_call 66; refine HDD.mono ?_; rintro e w' ⟨rfl, rfl⟩)
            | (go_at_call 67; refine HOO.mono ?_; rintro e w' ⟨rfl, rfl⟩)
            | (go_at_call 113; refine HJJ.mono ?_; rintro e w' ⟨rfl, rfl⟩))
          go_ret
          exact ⟨rfl, rfl⟩
      · go_enter Tryz.func83, Tryz.ntmps83
        go_wp2_with (first
          | (go_at_call 36; refine HGG.mono ?_; rintro e w' ⟨rfl, rfl⟩)
          | (go_at_call 104; refine (gPossible_yes G h1 h2 _).mono ?_; rintro e w' ⟨rfl, rfl⟩)
          | (go_at_call 66; refine HDD.mono ?_; rintro e w' ⟨rfl, rfl⟩)
          | (go_at_call 67; refine HOO.mono ?_; rintro e w' ⟨rfl, rfl⟩))
        go_ret
        exact ⟨rfl, rfl⟩
    · go_enter Tryz.func83, Tryz.ntmps83
      go_wp2_with (first
        | (go_at_call 36; refine HGG.mono ?_; rintro e w' ⟨rfl, rfl⟩)
        | (go_at_call 104; refine (gPossible_yes G h1 h2 _).mono ?_; rintro e w' ⟨rfl, rfl⟩)
        | (go_at_call 66; refine HDD.mono ?_; rintro e w' ⟨rfl, rfl⟩))
      go_ret
      exact ⟨rfl, rfl⟩
  · go_enter Tryz.func83, Tryz.ntmps83
    go_wp2_with (first
      | (go_at_call 36; refine HGG.mono ?_; rintro e w' ⟨rfl, rfl⟩)
      | (go_at_call 104; refine (gPossible_yes G h1 h2 _).mono ?_; rintro e w' ⟨rfl, rfl⟩))
    go_ret
    exact ⟨rfl, rfl⟩
theorem gFixed_any (n : Int) (hm : n ≤ 9223372036854775807) (w : World) : Calls Tryz.prog 83 #[.int .i64 n] w fun e w' => e = .returned (.bool (fixB n)) ∧ w = w' := by
  by_cases h : 0 ≤ grpI n ∧ grpI n < 12
  · exact gFixed_yes n hm h.1 h.2 w
  · exact gFixed_no n hm h w
theorem gFixed_is (n : Int) (hm : n ≤ 9223372036854775807) (B : Bool) (h : fixB n = B) (w : World) : Calls Tryz.prog 83 #[.int .i64 n] w fun e w' => e = .returned (.bool B) ∧ w = w' := by
  rw [← h]; exact gFixed_any n hm w

end Go.Proofs.YtkbeencjklgcnaaGreat

/- Rows of elements of one size, laid flat; a stretch of cells stored into a row that is known whole. -/
namespace Go.Proofs.YtkbeencjklgcnaaGreat
set_option maxRecDepth 100000
open Go.RowKit
set_option linter.unusedVariables false

section
variable {α : Type} {f : α → List Value} {s : Nat}
theorem flat_length : ∀ {L : List α}, (∀ x ∈ L, (f x).length = s) → (L.flatMap f).length = L.length * s
  | [], _ => by simp
  | x :: L, h => by
    rw [List.flatMap_cons, List.length_append, flat_length (fun z hz => h z (List.mem_cons_of_mem _ hz)), h x (by simp), List.length_cons, Nat.succ_mul]; omega
theorem flat_get : ∀ {L : List α}, (∀ x ∈ L, (f x).length = s) → ∀ (i : Nat) (hi : i < L.length), ((L.flatMap f).drop (i * s)).take s = f L[i]
  | [], _, i, hi => by simp at hi
  | x :: L, h, 0, _ => by
    rw [List.flatMap_cons, Nat.zero_mul, List.drop_zero, List.take_append_of_le_length (by rw [h x (by simp)]; exact Nat.le_refl _), ← h x (by simp), List.take_length]; rfl
  | x :: L, h, i + 1, hi => by
    have hx := h x (by simp)
    rw [List.flatMap_cons, show (i + 1) * s = (f x).length + i * s by rw [hx, Nat.succ_mul]; omega, List.drop_length_add_append]
    exact flat_get (fun z hz => h z (List.mem_cons_of_mem _ hz)) i (by simpa using hi)
theorem flat_set : ∀ {L : List α}, (∀ x ∈ L, (f x).length = s) → ∀ (i : Nat) (hi : i < L.length) (y : α), (f y).length = s → splice (L.flatMap f) (i * s) (f y) = (L.set i y).flatMap f
  | [], _, i, hi, _, _ => by simp at hi
  | x :: L, h, 0, _, y, hy => by
    have hx := h x (by simp)
    simp only [splice, Nat.zero_mul, List.take_zero, List.nil_append, Nat.zero_add, List.set_cons_zero, List.flatMap_cons]
    rw [hy, ← hx, List.drop_left]
  | x :: L, h, i + 1, hi, y, hy => by
    have hx := h x (by simp)
    have ih := flat_set (fun z hz => h z (List.mem_cons_of_mem _ hz)) i (by simpa using hi) y hy
    rw [List.set_cons_succ, List.flatMap_cons, List.flatMap_cons, ← ih]
    simp only [splice]
    rw [show (i + 1) * s = (f x).length + i * s by rw [hx, Nat.succ_mul]; omega, List.take_length_add_append, Nat.add_assoc, List.drop_length_add_append, List.append_assoc]
end

/-- A store of many cells into a row that is known whole. -/
theorem setCells_row {w : World} {g o : Nat} {t : TypeId} {vs cur : List Value} (hg : w.heap[g]? = some (.cells cur.toArray t (0, 0))) (hl : o + vs.length ≤ cur.length) (h1 : ∀ v ∈ vs, v.oneCell' = true) :
    w.setCells g o vs = w.setRow g (splice cur o vs).toArray := by
  have a := run_storeCells_cells (P := Tryz.prog) g o vs 0 w
    (fun j hj => by rw [cell_of_row _ _ _ _ _ _ hg]; simp; omega)
    (fun j hj => by simp [World.frozen?, hg]) h1
  have b := run_storeCells_at Tryz.prog g o t vs 0 cur.toArray w hg (by simpa using hl) h1
  rw [a] at b
  injection b with _ b
  simpa [splice] using b
theorem there_row {w : World} {g o n : Nat} {t : TypeId} {cur : List Value} (hg : w.heap[g]? = some (.cells cur.toArray t (0, 0))) (hl : o + n ≤ cur.length) : w.there g o n := fun j hj => by
  refine ⟨by rw [cell_of_row _ _ _ _ _ _ hg]; simp; omega, by simp [World.frozen?, hg]⟩
theorem range_row {w : World} {g o : Nat} {t : TypeId} {vs cur : List Value} (hg : w.heap[g]? = some (.cells cur.toArray t (0, 0))) (h : (cur.drop o).take vs.length = vs) : w.rangeAt g o vs := fun j v hv => by
  rw [cell_of_row _ _ _ _ _ _ hg]
  have hj := (List.getElem?_eq_some_iff.1 hv).1
  rw [← h, List.getElem?_take, if_pos hj, List.getElem?_drop] at hv
  simpa using hv

end Go.Proofs.YtkbeencjklgcnaaGreat
