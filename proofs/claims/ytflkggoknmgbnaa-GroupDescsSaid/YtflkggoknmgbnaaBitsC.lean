/- Contracts of package bits: Set, Run, First, Count. -/
import Derived.Test.YtflkggoknmgbnaaBitsB
import Derived.Lib.Hide
namespace Go.Proofs.Ytflkggoknmgbnaa
open Go.RowKit BM

theorem or_tab : ∀ k, k < 8 → ∀ n, n < 256 → (n ||| 2 ^ k) = if n / 2 ^ k % 2 = 1 then n else n + 2 ^ k := by decide +kernel
theorem andnot_tab : ∀ k, k < 8 → ∀ n, n < 256 → (n &&& (255 - 2 ^ k)) = if n / 2 ^ k % 2 = 1 then n - 2 ^ k else n := by decide +kernel
theorem bitAt_nat (n k : Nat) : bitAt (n : Int) k = decide (n / 2 ^ k % 2 = 1) := by
  unfold bitAt
  have e : (n : Int) / 2 ^ k % 2 = ((n / 2 ^ k % 2 : Nat) : Int) := by push_cast; rfl
  rw [e]
  rw [decide_eq_decide]
  omega
theorem mask_at (k : Nat) (hk : k < 8) : IntKind.u64.wrap (2 ^ k) % 256 = ((2 ^ k : Nat) : Int) := by
  have h : k = 0 ∨ k = 1 ∨ k = 2 ∨ k = 3 ∨ k = 4 ∨ k = 5 ∨ k = 6 ∨ k = 7 := by omega
  rcases h with rfl | rfl | rfl | rfl | rfl | rfl | rfl | rfl <;> decide
theorem pow_lt8 (k : Nat) (hk : k < 8) : 1 ≤ 2 ^ k ∧ 2 ^ k ≤ 128 :=
  ⟨Nat.one_le_two_pow, by have := Nat.pow_le_pow_right (n := 2) (by omega) (show k ≤ 7 by omega); simpa using this⟩

theorem or_bit (x : Int) (k : Nat) (hk : k < 8) (h0 : 0 ≤ x) (h1 : x ≤ 255) : bits BinOp.or IntKind.u8 x (IntKind.u64.wrap (2 ^ k) % 256) = if bitAt x k then x else x + 2 ^ k := by
  obtain ⟨n, rfl⟩ : ∃ n : Nat, x = n := ⟨x.toNat, by omega⟩
  have hp := pow_lt8 k hk
  have ht := or_tab k hk n (by omega)
  rw [mask_at k hk, u8_or_nat n (2 ^ k) (by omega) (by omega), ht, bitAt_nat]
  by_cases hb : n / 2 ^ k % 2 = 1
  · rw [if_pos hb, if_pos (by simpa using hb)]
  · rw [if_neg hb, if_neg (by simpa using hb)]; push_cast; rfl
theorem andnot_bit (x : Int) (k : Nat) (hk : k < 8) (h0 : 0 ≤ x) (h1 : x ≤ 255) : bits BinOp.andNot IntKind.u8 x (IntKind.u64.wrap (2 ^ k) % 256) = if bitAt x k then x - 2 ^ k else x := by
  obtain ⟨n, rfl⟩ : ∃ n : Nat, x = n := ⟨x.toNat, by omega⟩
  have hp := pow_lt8 k hk
  have ht := andnot_tab k hk n (by omega)
  rw [mask_at k hk, u8_andNot_nat n (2 ^ k) (by omega) (by omega), ht, bitAt_nat]
  by_cases hb : n / 2 ^ k % 2 = 1
  · rw [if_pos hb, if_pos (by simpa using hb)]
    have : 2 ^ k ≤ n := by
      rcases Nat.lt_or_ge n (2 ^ k) with h | h
      · rw [Nat.div_eq_of_lt h] at hb; omega
      · exact h
    rw [Int.natCast_sub this]; push_cast; rfl
  · rw [if_neg hb, if_neg (by simpa using hb)]

theorem bSet_cells (p g len : Nat) (n x : Int) (i : Nat) (on : Bool) (w : World) (h1 : n ≤ 4096) (hi : (i : Int) < n) (hl : i / 8 < len)
    (hc : w.cell? ⟨p, 0, none⟩ = some (.int .i64 n)) (hs : w.cell? ⟨p, 1, none⟩ = some (.slice (some ⟨g, 0, none⟩) len len))
    (hx : w.cell? ⟨g, i / 8, none⟩ = some (.int .u8 x)) (hf : w.frozen? ⟨g, i / 8, none⟩ = false) :
    Calls Try.prog 31 #[.pointer (some ⟨p, 0, none⟩), .int .i64 i, .bool on] w fun e w' => e = .returned (.int .i64 0) ∧
      w' = w.setCell ⟨g, i / 8, none⟩ (.int .u8 (if on then bits BinOp.or IntKind.u8 x (IntKind.u64.wrap (2 ^ (i % 8)) % 256) else bits BinOp.andNot IntKind.u8 x (IntKind.u64.wrap (2 ^ (i % 8)) % 256))) := by
  have hll : (i : Int) / 8 < len := by omega
  cases on
  all_goals
    go_enter Try.func31, Try.ntmps31
    go_wp2_with (first
      | (go_at_call 50; refine (bHas_in p n i _ hc (by omega) hi).mono ?_; rintro e w' ⟨rfl, rfl⟩)
      | (go_at_call 51; refine (bShift_any i _ (by omega) (by omega)).mono ?_; rintro e w' ⟨rfl, rfl⟩))
    go_ret
    exact ⟨rfl, by simp⟩

theorem bSet_no (p : Nat) (n i : Int) (on : Bool) (w : World) (hi : ¬ (0 ≤ i ∧ i < n)) (hc : w.cell? ⟨p, 0, none⟩ = some (.int .i64 n)) :
    Calls Try.prog 31 #[.pointer (some ⟨p, 0, none⟩), .int .i64 i, .bool on] w fun e w' => e = .returned (.int .i64 1) ∧ w = w' := by
  go_enter Try.func31, Try.ntmps31
  go_wp2_with (go_at_call 50; refine (bHas_out p n i _ hc hi).mono ?_; rintro e w' ⟨rfl, rfl⟩)
  go_ret
  exact ⟨rfl, rfl⟩

theorem bSet_any {w : World} {p g : Nat} {L : List Bool} (h : BRow w p g L) (i : Int) (on : Bool) :
    Calls Try.prog 31 #[.pointer (some ⟨p, 0, none⟩), .int .i64 i, .bool on] w fun e w' =>
      e = .returned (.int .i64 (if 0 ≤ i ∧ i < L.length then 0 else 1)) ∧ BRow w' p g (if 0 ≤ i ∧ i < L.length then L.set i.toNat on else L) ∧ Wrote w w' g := by
  have hn := h.1
  have hh := h
  obtain ⟨l, hr, hc, hs, hx, hf, hg⟩ := h.cells
  by_cases hi : 0 ≤ i ∧ i < L.length
  · rw [if_pos hi, if_pos hi]
    obtain ⟨k, rfl⟩ : ∃ k : Nat, i = k := ⟨i.toNat, by omega⟩
    have hl := hr.len
    have hb := hr.byte (k / 8)
    have hk8 : k % 8 < 8 := Nat.mod_lt _ (by omega)
    refine (bSet_cells p g l.length L.length (l.getD (k / 8) 0) k on w (by omega) hi.2 (by omega) hc hs (hx _ (by omega)) (hf _)).mono fun e w' ⟨he, hw⟩ => ⟨he, ?_, ?_⟩
    · rw [or_bit _ _ hk8 hb.1 hb.2, andnot_bit _ _ hk8 hb.1 hb.2] at hw
      have hrs := rep_set hr k on (by omega) _ rfl
      obtain ⟨_, l', hr', hp, hg'⟩ := hh
      have el : l' = l := rep_ext hr' hr
      subst el
      refine ⟨by simpa using hn, _, hrs, ?_, ?_⟩
      · rw [hw, heap_setCell_other _ _ _ _ (show p ≠ g from fun e => by rw [e, hg] at hp; simp at hp)]
        simpa using hp
      · rw [hw, heap_setCell_same _ _ _ _ _ _ hg]
        congr 1
        apply congrArg (fun c => Obj.cells c 5 (0, 0))
        rw [List.map_set]
        apply Array.ext'
        simp
    · rw [hw]; exact Wrote.setCell _ _ _ _
  · rw [if_neg hi, if_neg hi]
    exact (bSet_no p _ i on w hi hc).mono fun e w' ⟨he, hw⟩ => ⟨he, by rw [← hw]; exact hh, by rw [← hw]; exact Wrote.refl _ _⟩

theorem bGet_val {w : World} {p g : Nat} {L : List Bool} (h : BRow w p g L) (i : Nat) (n : Nat) (b : Bool) (hb : L.getD i false = b) :
    Calls Try.prog 47 #[.pointer (some ⟨p, 0, none⟩), .int .i64 i] (w.drewN n) fun e w' => e = .returned (.bool b) ∧ ∃ m, w' = w.drewN m :=
  (bGet_any (h.drewN n) i).mono fun e w' ⟨he, m, hw⟩ => ⟨by rw [he, getB_nat, hb], n + m, by rw [hw, World.drewN_drewN]⟩

theorem bCount_any {w : World} {p g : Nat} {L : List Bool} (h : BRow w p g L) :
    Calls Try.prog 27 #[.pointer (some ⟨p, 0, none⟩)] w fun e w' => e = .returned (.int .i64 (countB L)) ∧ ∃ m, w' = w.drewN m := by
  have hn := h.1
  go_enter Try.func27, Try.ntmps27
  go_wp2_with (go_at_call 25; refine (bLen_row h).mono ?_; rintro e w' ⟨rfl, rfl⟩)
  go_loopw [3, 7] (fun c i wr => ∃ k : Nat, k ≤ L.length ∧ i = .int .i64 k ∧ c = .int .i64 (countB (L.take k)) ∧ ∃ m, wr = w.drewN m)
    (fun _ i _ => L.length - (intOf i).toNat)
  case atStart => exact ⟨0, by omega, rfl, rfl, 0, rfl⟩
  case round =>
    obtain ⟨k, hk, rfl, rfl, m, rfl⟩ := hrel
    have hle := countB_take_le L k
    obtain ⟨C, hC⟩ : ∃ C, C = countB (L.take k) := ⟨_, rfl⟩
    rw [← hC] at hle ⊢
    by_cases hlt : k < L.length
    · have hstep := countB_take hlt
      cases hb : L.getD k false
      · rw [hb, if_neg (by decide), ← hC] at hstep
        have HB := Lib.hid hb
        have HS := Lib.hid hstep
        clear hb hstep hC
        go_wp2_with (go_at_call 47; refine (bGet_val h k _ false HB.out).mono ?_; rintro e w' ⟨rfl, m2, rfl⟩)
        go_roundw
        case rel => exact ⟨k + 1, by omega, by go_num, by rw [HS.out]; go_num, m2, rfl⟩
        case measure => simp [intOf]; omega
      · rw [hb, if_pos rfl, ← hC] at hstep
        have HB := Lib.hid hb
        have HS := Lib.hid hstep
        clear hb hstep hC
        go_wp2_with (go_at_call 47; refine (bGet_val h k _ true HB.out).mono ?_; rintro e w' ⟨rfl, m2, rfl⟩)
        go_roundw
        case rel => exact ⟨k + 1, by omega, by go_num, by rw [HS.out]; go_num, m2, rfl⟩
        case measure => simp [intOf]; omega
    · have HC := Lib.hid hC
      clear hC
      go_wp2_with fail
      go_ret
      exact ⟨ret_int (by rw [HC.out, List.take_of_length_le (by omega)]), m, rfl⟩

end Go.Proofs.Ytflkggoknmgbnaa
