/- Contracts of package bits: size, shift, New, has, Len, Get. -/
import Derived.Test.YtflkggoknmgbnaaMem
import Derived.Test.YtflkggoknmgbnaaBitsM
import Derived.WalkKit
import Derived.WalkSpells
import Derived.WalkLawsBesides
import Derived.BigQuiet
namespace Go.Proofs.Ytflkggoknmgbnaa
open Go.RowKit BM

theorem bSize_any (n : Int) (w : World) (_h0 : 0 ≤ n) (_h1 : n ≤ 4096) :
    Calls Try.prog 49 #[.int .i64 n] w fun e w' => e = .returned (.int .i64 ((n + 7) / 8)) ∧ w = w' := by
  go_enter Try.func49, Try.ntmps49
  go_wp2
  go_ret
  exact ⟨rfl, rfl⟩

theorem bShift_any (n : Int) (w : World) (_h0 : 0 ≤ n) (_h1 : n ≤ 4096) :
    Calls Try.prog 51 #[.int .i64 n] w fun e w' => e = .returned (.int .u64 (n % 8)) ∧ w = w' := by
  go_enter Try.func51, Try.ntmps51
  go_wp2
  go_ret
  exact ⟨rfl, rfl⟩

theorem bHas_any (p : Nat) (n i : Int) (w : World) (hc : w.cell? ⟨p, 0, none⟩ = some (.int .i64 n)) :
    Calls Try.prog 50 #[.pointer (some ⟨p, 0, none⟩), .int .i64 i] w fun e w' => e = .returned (.bool (decide (0 ≤ i) && decide (i < n))) ∧ w = w' := by
  by_cases hi : 0 ≤ i
  · go_enter Try.func50, Try.ntmps50
    go_wp2
    go_ret
    exact ⟨by simp [hi], rfl⟩
  · go_enter Try.func50, Try.ntmps50
    go_wp2
    go_ret
    exact ⟨by have h : decide (0 ≤ i) = false := by simpa using hi
              rw [h]; rfl, rfl⟩

theorem bLen_any (p : Nat) (n : Int) (w : World) (hc : w.cell? ⟨p, 0, none⟩ = some (.int .i64 n)) :
    Calls Try.prog 25 #[.pointer (some ⟨p, 0, none⟩)] w fun e w' => e = .returned (.int .i64 n) ∧ w = w' := by
  go_enter Try.func25, Try.ntmps25
  go_wp2
  go_ret
  exact ⟨rfl, rfl⟩

theorem bHas_in (p : Nat) (n i : Int) (w : World) (hc : w.cell? ⟨p, 0, none⟩ = some (.int .i64 n)) (h0 : 0 ≤ i) (h1 : i < n) :
    Calls Try.prog 50 #[.pointer (some ⟨p, 0, none⟩), .int .i64 i] w fun e w' => e = .returned (.bool true) ∧ w = w' :=
  (bHas_any p n i w hc).mono fun e w' ⟨he, hw⟩ => ⟨by rw [he]; simp [h0, h1], hw⟩
theorem bHas_out (p : Nat) (n i : Int) (w : World) (hc : w.cell? ⟨p, 0, none⟩ = some (.int .i64 n)) (h : ¬ (0 ≤ i ∧ i < n)) :
    Calls Try.prog 50 #[.pointer (some ⟨p, 0, none⟩), .int .i64 i] w fun e w' => e = .returned (.bool false) ∧ w = w' :=
  (bHas_any p n i w hc).mono fun e w' ⟨he, hw⟩ => ⟨by rw [he]; simp; omega, hw⟩
/-- At block p of the world lies a Row of package bits, its bytes at block g; it is the row of bits L. -/
def BRow (w : World) (p g : Nat) (L : List Bool) : Prop :=
  L.length ≤ 4096 ∧ ∃ l, Rep l L ∧ w.heap[p]? = some (.cells #[.int .i64 L.length, .slice (some ⟨g, 0, none⟩) l.length l.length] 77 (0, 0)) ∧ w.heap[g]? = some (.cells (l.map (Value.int .u8)).toArray 5 (0, 0))

theorem BRow.drewN {w : World} {p g : Nat} {L : List Bool} (h : BRow w p g L) (n : Nat) : BRow (w.drewN n) p g L := h
theorem BRow.of_heap {w w' : World} {p g : Nat} {L : List Bool} (h : BRow w p g L) (hp : w'.heap[p]? = w.heap[p]?) (hg : w'.heap[g]? = w.heap[g]?) : BRow w' p g L := by
  obtain ⟨h1, l, h2, h3, h4⟩ := h
  exact ⟨h1, l, h2, by rw [hp, h3], by rw [hg, h4]⟩
theorem BRow.lt {w : World} {p g : Nat} {L : List Bool} (h : BRow w p g L) : p < w.heap.size ∧ g < w.heap.size := by
  obtain ⟨_, l, _, h3, h4⟩ := h
  exact ⟨(Array.getElem?_eq_some_iff.1 h3).1, (Array.getElem?_eq_some_iff.1 h4).1⟩
theorem BRow.below {w w' : World} {p g B : Nat} {L : List Bool} (h : BRow w p g L) (hb : Below B w w') (h1 : p < B) (h2 : g < B) : BRow w' p g L :=
  h.of_heap (hb.block p h1) (hb.block g h2)

theorem and1 (x : Int) (h0 : 0 ≤ x) (h1 : x ≤ 255) (k : Nat) : (bits BinOp.and IntKind.u8 (x / 2 ^ k) 1 == 1) = bitAt x k := by
  have h2 : 0 ≤ x / 2 ^ k := Int.ediv_nonneg h0 (by exact Int.le_of_lt (Int.pow_pos (by decide)))
  have h3 : x / 2 ^ k ≤ 255 := Int.le_trans (Int.ediv_le_self _ h0) h1
  generalize hy : x / 2 ^ k = y at *
  rw [u8_and y 1 h2 (by omega) (by decide) (by decide)]
  unfold bitAt
  rw [hy]
  obtain ⟨n, rfl⟩ : ∃ n : Nat, y = n := ⟨y.toNat, by omega⟩
  simp only [Int.toNat_natCast, show (1 : Int).toNat = 1 from rfl, Nat.and_one_is_mod]
  rw [Bool.eq_iff_iff]; simp

theorem bGet_cells (p g len : Nat) (n x : Int) (i : Nat) (w : World) (h1 : n ≤ 4096) (hi : (i : Int) < n) (hl : i / 8 < len)
    (hc : w.cell? ⟨p, 0, none⟩ = some (.int .i64 n)) (hs : w.cell? ⟨p, 1, none⟩ = some (.slice (some ⟨g, 0, none⟩) len len))
    (hx : w.cell? ⟨g, i / 8, none⟩ = some (.int .u8 x)) (_hx0 : 0 ≤ x) (_hx1 : x ≤ 255) :
    Calls Try.prog 47 #[.pointer (some ⟨p, 0, none⟩), .int .i64 i] w fun e w' => e = .returned (.bool (bits BinOp.and IntKind.u8 (x / 2 ^ (i % 8)) 1 == 1)) ∧ ∃ m, w' = w.drewN m := by
  have hll : (i : Int) / 8 < len := by omega
  go_enter Try.func47, Try.ntmps47
  go_wp2
  go_quiet (first
    | (go_at_call 50; refine quiet_back (bHas_in p n i _ (by simpa using hc) (by omega) hi))
    | (go_at_call 51; refine quiet_back (bShift_any i _ (by omega) (by omega))))
  go_wp2
  go_ret
  exact ⟨rfl, _, rfl⟩

theorem bGet_out (p : Nat) (n i : Int) (w : World) (hi : ¬ (0 ≤ i ∧ i < n)) (hc : w.cell? ⟨p, 0, none⟩ = some (.int .i64 n)) :
    Calls Try.prog 47 #[.pointer (some ⟨p, 0, none⟩), .int .i64 i] w fun e w' => e = .returned (.bool false) ∧ ∃ m, w' = w.drewN m := by
  go_enter Try.func47, Try.ntmps47
  go_wp2
  go_quiet ((go_at_call 50; refine quiet_back (bHas_out p n i _ (by simpa using hc) hi)))
  go_wp2
  go_ret
  exact ⟨rfl, _, rfl⟩

theorem BRow.cells {w : World} {p g : Nat} {L : List Bool} (h : BRow w p g L) : ∃ l, Rep l L ∧ w.cell? ⟨p, 0, none⟩ = some (.int .i64 L.length) ∧
    w.cell? ⟨p, 1, none⟩ = some (.slice (some ⟨g, 0, none⟩) l.length l.length) ∧ (∀ j, j < l.length → w.cell? ⟨g, j, none⟩ = some (.int .u8 (l.getD j 0))) ∧
    (∀ j, w.frozen? ⟨g, j, none⟩ = false) ∧ w.heap[g]? = some (.cells (l.map (Value.int .u8)).toArray 5 (0, 0)) := by
  obtain ⟨_, l, h2, h3, h4⟩ := h
  refine ⟨l, h2, by rw [cell_of_row _ _ _ _ _ _ h3]; rfl, by rw [cell_of_row _ _ _ _ _ _ h3]; rfl, fun j hj => ?_, fun j => frozen_of_row _ _ _ _ _ h4, h4⟩
  rw [cell_of_row _ _ _ _ _ _ h4]
  simp [List.getD_eq_getElem?_getD, hj]

theorem bGet_any {w : World} {p g : Nat} {L : List Bool} (h : BRow w p g L) (i : Int) :
    Calls Try.prog 47 #[.pointer (some ⟨p, 0, none⟩), .int .i64 i] w fun e w' => e = .returned (.bool (getB L i)) ∧ ∃ m, w' = w.drewN m := by
  have hn := h.1
  obtain ⟨l, hr, hc, hs, hx, _, _⟩ := h.cells
  by_cases hi : 0 ≤ i ∧ i < L.length
  · obtain ⟨k, rfl⟩ : ∃ k : Nat, i = k := ⟨i.toNat, by omega⟩
    have hl := hr.len
    have hb := hr.byte (k / 8)
    refine (bGet_cells p g l.length L.length (l.getD (k / 8) 0) k w (by omega) hi.2 (by omega) hc hs (hx _ (by omega)) hb.1 hb.2).mono fun e w' ⟨he, hw⟩ => ⟨?_, hw⟩
    rw [he, and1 _ hb.1 hb.2, hr.bit, getB_nat]
  · rw [getB_out L i hi]
    exact bGet_out p _ i w hi hc

theorem bLen_row {w : World} {p g : Nat} {L : List Bool} (h : BRow w p g L) :
    Calls Try.prog 25 #[.pointer (some ⟨p, 0, none⟩)] w fun e w' => e = .returned (.int .i64 L.length) ∧ w = w' := by
  obtain ⟨l, hr, hc, hs, hx, _, _⟩ := h.cells
  exact bLen_any p _ w hc

theorem bHas_row {w : World} {p g : Nat} {L : List Bool} (h : BRow w p g L) (i : Int) :
    Calls Try.prog 50 #[.pointer (some ⟨p, 0, none⟩), .int .i64 i] w fun e w' => e = .returned (.bool (decide (0 ≤ i) && decide (i < L.length))) ∧ w = w' := by
  obtain ⟨l, hr, hc, hs, hx, _, _⟩ := h.cells
  exact bHas_any p _ i w hc

end Go.Proofs.Ytflkggoknmgbnaa
