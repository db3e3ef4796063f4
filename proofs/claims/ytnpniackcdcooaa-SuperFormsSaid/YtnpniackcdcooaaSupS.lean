/- Contracts: within, formedState, the reference's states. -/
import Derived.Test.YtnpniackcdcooaaSupM
import Derived.Test.YtnpniackcdcooaaGeomR
import Derived.Test.YtnpniackcdcooaaMem
namespace Go.Proofs.Ytnpniackcdcooaa
open Go.RowKit
set_option linter.unusedVariables false

theorem sWithin_any (n lo hi : Int) (w : World) : Calls Try.prog 34 #[.int .i64 n, .int .i64 lo, .int .i64 hi] w fun e w' => e = .returned (.bool (decide (lo ≤ n ∧ n ≤ hi))) ∧ w = w' := by
  by_cases h1 : lo ≤ n
  · by_cases h2 : n ≤ hi
    · rw [decide_eq_true ⟨h1, h2⟩]
      go_enter Try.func34, Try.ntmps34
      go_wp2
      go_ret
      exact ⟨rfl, rfl⟩
    · rw [decide_eq_false (fun h => h2 h.2)]
      go_enter Try.func34, Try.ntmps34
      go_wp2
      go_ret
      exact ⟨rfl, rfl⟩
  · rw [decide_eq_false (fun h => h1 h.1)]
    go_enter Try.func34, Try.ntmps34
    go_wp2
    go_ret
    exact ⟨rfl, rfl⟩
theorem sWithin_is (n lo hi : Int) (B : Bool) (h : decide (lo ≤ n ∧ n ≤ hi) = B) (w : World) : Calls Try.prog 34 #[.int .i64 n, .int .i64 lo, .int .i64 hi] w fun e w' => e = .returned (.bool B) ∧ w = w' := by
  rw [← h]; exact sWithin_any n lo hi w
theorem gFormed_is (b : Int) (hm : b ≤ 9223372036854775807) (B : Bool) (h : frmB b = B) (w : World) : Calls Try.prog 21 #[.int .i64 b] w fun e w' => e = .returned (.bool B) ∧ w = w' := by
  rw [← h]; exact gFormed_any b hm w
theorem rFormed_is (b : Int) (hm : b ≤ 9223372036854775807) (B : Bool) (h : frmB b = B) (w : World) : Calls Try.prog 24 #[.int .i64 b] w fun e w' => e = .returned (.bool B) ∧ w = w' := by
  rw [← h]; exact rFormed_any b hm w
theorem frm_div {b : Int} (h : frmB b = true) : 0 ≤ b ∧ b ≤ 768 ∧ grsI b = b / 64 := by
  have := of_decide_eq_true h
  exact ⟨by omega, by omega, by unfold grsI; rw [if_pos h]⟩
theorem gGroups_is (b : Int) (h : frmB b = true) (G : Int) (hG : G = b / 64) (w : World) : Calls Try.prog 35 #[.int .i64 b] w fun e w' => e = .returned (.int .i64 G) ∧ w = w' := by
  have := gGroups_any b (by have := frm_div h; omega) w
  rw [(frm_div h).2.2] at this
  rw [hG]; exact this
theorem below_box (w : World) (o : Obj) : Below w.heap.size w (w.alloc o) := (Below.refl _ _).alloc (Nat.le_refl _) _
theorem below_boxN (w : World) (o : Obj) (n : Nat) : Below w.heap.size w ((w.alloc o).drewN n) := below_drewN' (below_box w o) n

def st1g (G1 G2 b tg cu io ba : Int) : Bool := frmB tg && (decide (b < tg) && (decide (G1 ≤ cu ∧ cu ≤ G2) && ((io == 0) && (ba == 0))))
def st1r (b tg cu io ba : Int) : Bool := frmB tg && (decide (b < tg) && (decide (b / 64 ≤ cu) && (decide (cu ≤ tg / 64) && ((io == 0) && (ba == 0)))))
def st3r (b tg cu io ba : Int) : Bool := (tg == 0) && (decide (1 ≤ io) && (decide (io ≤ 47) && (decide (0 ≤ ba) && (decide (ba ≤ b) && (decide (0 ≤ cu) && (decide (cu ≤ b)))))))
theorem st1r_eq (b tg cu io ba : Int) : st1r b tg cu io ba = st1 b tg cu io ba := by simp [st1r, st1, Bool.decide_and, Bool.and_assoc]
theorem st3r_eq (b tg cu io ba : Int) : st3r b tg cu io ba = st3 b tg cu io ba := by simp [st3r, st3, Bool.decide_and, Bool.and_assoc]

set_option maxHeartbeats 2000000 in
theorem sState0 (b tg cu io ba t0 t1 t2 t3 t4 t5 : Int) (w : World)  : Calls Try.prog 22 #[.agg #[.int .i64 b, .int .i64 0, .int .i64 tg, .int .i64 cu, .int .i64 io, .int .i64 ba, .int .i64 t0, .int .i64 t1, .int .i64 t2, .int .i64 t3, .int .i64 t4, .int .i64 t5]] w fun e w' => e = .returned (.bool (st0 tg cu io ba)) ∧ Below w.heap.size w w' := by
  have HR : st0 tg cu io ba = ((tg == 0) && ((cu == 0) && ((io == 0) && ((ba == 0))))) := rfl
  rcases h0 : (tg == 0) with _ | _
  · replace HR : st0 tg cu io ba = false := by rw [HR, h0] <;> rfl
    rw [HR]; clear HR
    go_enter Try.func22, Try.ntmps22
    go_wp2
    go_ret
    exact ⟨rfl, below_box _ _⟩
  · rw [h0, Bool.true_and] at HR
    rcases h1 : (cu == 0) with _ | _
    · replace HR : st0 tg cu io ba = false := by rw [HR, h1] <;> rfl
      rw [HR]; clear HR
      go_enter Try.func22, Try.ntmps22
      go_wp2
      go_ret
      exact ⟨rfl, below_box _ _⟩
    · rw [h1, Bool.true_and] at HR
      rcases h2 : (io == 0) with _ | _
      · replace HR : st0 tg cu io ba = false := by rw [HR, h2] <;> rfl
        rw [HR]; clear HR
        go_enter Try.func22, Try.ntmps22
        go_wp2
        go_ret
        exact ⟨rfl, below_box _ _⟩
      · rw [h2, Bool.true_and] at HR
        rcases h3 : (ba == 0) with _ | _
        · replace HR : st0 tg cu io ba = false := by rw [HR, h3] <;> rfl
          rw [HR]; clear HR
          go_enter Try.func22, Try.ntmps22
          go_wp2
          go_ret
          exact ⟨rfl, below_box _ _⟩
        · rw [h3] at HR
          rw [HR]; clear HR
          go_enter Try.func22, Try.ntmps22
          go_wp2
          go_ret
          exact ⟨rfl, below_box _ _⟩

set_option maxHeartbeats 2000000 in
theorem rState0 (b tg cu io ba t0 t1 t2 t3 t4 t5 : Int) (w : World)  : Calls Try.prog 25 #[.agg #[.int .i64 b, .int .i64 0, .int .i64 tg, .int .i64 cu, .int .i64 io, .int .i64 ba, .int .i64 t0, .int .i64 t1, .int .i64 t2, .int .i64 t3, .int .i64 t4, .int .i64 t5]] w fun e w' => e = .returned (.bool (st0 tg cu io ba)) ∧ Below w.heap.size w w' := by
  have HR : st0 tg cu io ba = ((tg == 0) && ((cu == 0) && ((io == 0) && ((ba == 0))))) := rfl
  rcases h0 : (tg == 0) with _ | _
  · replace HR : st0 tg cu io ba = false := by rw [HR, h0] <;> rfl
    rw [HR]; clear HR
    go_enter Try.func25, Try.ntmps25
    go_wp2
    go_ret
    exact ⟨rfl, below_box _ _⟩
  · rw [h0, Bool.true_and] at HR
    rcases h1 : (cu == 0) with _ | _
    · replace HR : st0 tg cu io ba = false := by rw [HR, h1] <;> rfl
      rw [HR]; clear HR
      go_enter Try.func25, Try.ntmps25
      go_wp2
      go_ret
      exact ⟨rfl, below_box _ _⟩
    · rw [h1, Bool.true_and] at HR
      rcases h2 : (io == 0) with _ | _
      · replace HR : st0 tg cu io ba = false := by rw [HR, h2] <;> rfl
        rw [HR]; clear HR
        go_enter Try.func25, Try.ntmps25
        go_wp2
        go_ret
        exact ⟨rfl, below_box _ _⟩
      · rw [h2, Bool.true_and] at HR
        rcases h3 : (ba == 0) with _ | _
        · replace HR : st0 tg cu io ba = false := by rw [HR, h3] <;> rfl
          rw [HR]; clear HR
          go_enter Try.func25, Try.ntmps25
          go_wp2
          go_ret
          exact ⟨rfl, below_box _ _⟩
        · rw [h3] at HR
          rw [HR]; clear HR
          go_enter Try.func25, Try.ntmps25
          go_wp2
          go_ret
          exact ⟨rfl, below_box _ _⟩

set_option maxHeartbeats 2000000 in
theorem sState1g (b tg cu io ba t0 t1 t2 t3 t4 t5 : Int) (w : World) (hb : frmB b = true) (hm : tg ≤ 9223372036854775807) (G1 G2 : Int) (hG1 : G1 = b / 64) (hG2 : G2 = tg / 64) : Calls Try.prog 22 #[.agg #[.int .i64 b, .int .i64 1, .int .i64 tg, .int .i64 cu, .int .i64 io, .int .i64 ba, .int .i64 t0, .int .i64 t1, .int .i64 t2, .int .i64 t3, .int .i64 t4, .int .i64 t5]] w fun e w' => e = .returned (.bool (st1g G1 G2 b tg cu io ba)) ∧ Below w.heap.size w w' := by
  have HR : st1g G1 G2 b tg cu io ba = ((frmB tg) && ((decide (b < tg)) && ((decide (G1 ≤ cu ∧ cu ≤ G2)) && ((io == 0) && ((ba == 0)))))) := rfl
  rcases h0 : (frmB tg) with _ | _
  · replace HR : st1g G1 G2 b tg cu io ba = false := by rw [HR, h0] <;> rfl
    rw [HR]; clear HR
    have K0 := Lib.hid (gFormed_is tg hm false h0)
    clear h0
    clear hb hm hG1 hG2
    go_enter Try.func22, Try.ntmps22
    go_wp2
    have hB := below_box w (.cells #[.int .i64 b, .int .i64 1, .int .i64 tg, .int .i64 cu, .int .i64 io, .int .i64 ba, .int .i64 t0, .int .i64 t1, .int .i64 t2, .int .i64 t3, .int .i64 t4, .int .i64 t5] 26)
    have hh := heap_alloc_new w (.cells #[.int .i64 b, .int .i64 1, .int .i64 tg, .int .i64 cu, .int .i64 io, .int .i64 ba, .int .i64 t0, .int .i64 t1, .int .i64 t2, .int .i64 t3, .int .i64 t4, .int .i64 t5] 26)
    generalize w.alloc (.cells #[.int .i64 b, .int .i64 1, .int .i64 tg, .int .i64 cu, .int .i64 io, .int .i64 ba, .int .i64 t0, .int .i64 t1, .int .i64 t2, .int .i64 t3, .int .i64 t4, .int .i64 t5] 26) = W1 at hB hh ⊢
    have c0 : W1.cell? ⟨w.heap.size, 0, none⟩ = some (.int .i64 b) := by rw [cell_of_row _ _ _ _ _ _ hh]; rfl
    have c2 : W1.cell? ⟨w.heap.size, 2, none⟩ = some (.int .i64 tg) := by rw [cell_of_row _ _ _ _ _ _ hh]; rfl
    have c3 : W1.cell? ⟨w.heap.size, 3, none⟩ = some (.int .i64 cu) := by rw [cell_of_row _ _ _ _ _ _ hh]; rfl
    have c4 : W1.cell? ⟨w.heap.size, 4, none⟩ = some (.int .i64 io) := by rw [cell_of_row _ _ _ _ _ _ hh]; rfl
    have c5 : W1.cell? ⟨w.heap.size, 5, none⟩ = some (.int .i64 ba) := by rw [cell_of_row _ _ _ _ _ _ hh]; rfl
    clear hh
    go_quiet (first | (go_at_call 21; with_reducible refine quiet_back (K0.out _)))
    go_wp2
    go_ret
    exact ⟨rfl, below_drewN' hB _⟩
  · rw [h0, Bool.true_and] at HR
    have hK2 := Lib.hid (gGroups_is tg h0 G2 hG2)
    have K0 := Lib.hid (gFormed_is tg hm true h0)
    clear h0
    rcases h1 : (decide (b < tg)) with _ | _
    · replace HR : st1g G1 G2 b tg cu io ba = false := by rw [HR, h1] <;> rfl
      rw [HR]; clear HR
      have g1 : ¬ b < tg := of_decide_eq_false h1
      clear hb hm hG1 hG2
      go_enter Try.func22, Try.ntmps22
      go_wp2
      have hB := below_box w (.cells #[.int .i64 b, .int .i64 1, .int .i64 tg, .int .i64 cu, .int .i64 io, .int .i64 ba, .int .i64 t0, .int .i64 t1, .int .i64 t2, .int .i64 t3, .int .i64 t4, .int .i64 t5] 26)
      have hh := heap_alloc_new w (.cells #[.int .i64 b, .int .i64 1, .int .i64 tg, .int .i64 cu, .int .i64 io, .int .i64 ba, .int .i64 t0, .int .i64 t1, .int .i64 t2, .int .i64 t3, .int .i64 t4, .int .i64 t5] 26)
      generalize w.alloc (.cells #[.int .i64 b, .int .i64 1, .int .i64 tg, .int .i64 cu, .int .i64 io, .int .i64 ba, .int .i64 t0, .int .i64 t1, .int .i64 t2, .int .i64 t3, .int .i64 t4, .int .i64 t5] 26) = W1 at hB hh ⊢
      have c0 : W1.cell? ⟨w.heap.size, 0, none⟩ = some (.int .i64 b) := by rw [cell_of_row _ _ _ _ _ _ hh]; rfl
      have c2 : W1.cell? ⟨w.heap.size, 2, none⟩ = some (.int .i64 tg) := by rw [cell_of_row _ _ _ _ _ _ hh]; rfl
      have c3 : W1.cell? ⟨w.heap.size, 3, none⟩ = some (.int .i64 cu) := by rw [cell_of_row _ _ _ _ _ _ hh]; rfl
      have c4 : W1.cell? ⟨w.heap.size, 4, none⟩ = some (.int .i64 io) := by rw [cell_of_row _ _ _ _ _ _ hh]; rfl
      have c5 : W1.cell? ⟨w.heap.size, 5, none⟩ = some (.int .i64 ba) := by rw [cell_of_row _ _ _ _ _ _ hh]; rfl
      clear hh
      go_quiet (first | (go_at_call 21; with_reducible refine quiet_back (K0.out _)))
      go_wp2
      go_ret
      exact ⟨rfl, below_drewN' hB _⟩
    · rw [h1, Bool.true_and] at HR
      have g1 : b < tg := of_decide_eq_true h1
      rcases h2 : (decide (G1 ≤ cu ∧ cu ≤ G2)) with _ | _
      · replace HR : st1g G1 G2 b tg cu io ba = false := by rw [HR, h2] <;> rfl
        rw [HR]; clear HR
        have K1 := Lib.hid (gGroups_is b hb G1 hG1)
        have K2 := Lib.hid (hK2.out)
        have K3 := Lib.hid (sWithin_is cu (G1) (G2) false h2)
        clear h2
        clear hb hm hG1 hG2
        go_enter Try.func22, Try.ntmps22
        go_wp2
        have hB := below_box w (.cells #[.int .i64 b, .int .i64 1, .int .i64 tg, .int .i64 cu, .int .i64 io, .int .i64 ba, .int .i64 t0, .int .i64 t1, .int .i64 t2, .int .i64 t3, .int .i64 t4, .int .i64 t5] 26)
        have hh := heap_alloc_new w (.cells #[.int .i64 b, .int .i64 1, .int .i64 tg, .int .i64 cu, .int .i64 io, .int .i64 ba, .int .i64 t0, .int .i64 t1, .int .i64 t2, .int .i64 t3, .int .i64 t4, .int .i64 t5] 26)
        generalize w.alloc (.cells #[.int .i64 b, .int .i64 1, .int .i64 tg, .int .i64 cu, .int .i64 io, .int .i64 ba, .int .i64 t0, .int .i64 t1, .int .i64 t2, .int .i64 t3, .int .i64 t4, .int .i64 t5] 26) = W1 at hB hh ⊢
        have c0 : W1.cell? ⟨w.heap.size, 0, none⟩ = some (.int .i64 b) := by rw [cell_of_row _ _ _ _ _ _ hh]; rfl
        have c2 : W1.cell? ⟨w.heap.size, 2, none⟩ = some (.int .i64 tg) := by rw [cell_of_row _ _ _ _ _ _ hh]; rfl
        have c3 : W1.cell? ⟨w.heap.size, 3, none⟩ = some (.int .i64 cu) := by rw [cell_of_row _ _ _ _ _ _ hh]; rfl
        have c4 : W1.cell? ⟨w.heap.size, 4, none⟩ = some (.int .i64 io) := by rw [cell_of_row _ _ _ _ _ _ hh]; rfl
        have c5 : W1.cell? ⟨w.heap.size, 5, none⟩ = some (.int .i64 ba) := by rw [cell_of_row _ _ _ _ _ _ hh]; rfl
        clear hh
        go_quiet (first | (go_at_call 21; with_reducible refine quiet_back (K0.out _)) | (go_at_call 35; with_reducible refine quiet_back (K1.out _)) | (go_at_call 35; with_reducible refine quiet_back (K2.out _)) | (go_at_call 34; with_reducible refine quiet_back (K3.out _)))
        go_wp2
        go_ret
        exact ⟨rfl, below_drewN' hB _⟩
      · rw [h2, Bool.true_and] at HR
        have K1 := Lib.hid (gGroups_is b hb G1 hG1)
        have K2 := Lib.hid (hK2.out)
        have K3 := Lib.hid (sWithin_is cu (G1) (G2) true h2)
        clear h2
        rcases h3 : (io == 0) with _ | _
        · replace HR : st1g G1 G2 b tg cu io ba = false := by rw [HR, h3] <;> rfl
          rw [HR]; clear HR
          clear hb hm hG1 hG2
          go_enter Try.func22, Try.ntmps22
          go_wp2
          have hB := below_box w (.cells #[.int .i64 b, .int .i64 1, .int .i64 tg, .int .i64 cu, .int .i64 io, .int .i64 ba, .int .i64 t0, .int .i64 t1, .int .i64 t2, .int .i64 t3, .int .i64 t4, .int .i64 t5] 26)
          have hh := heap_alloc_new w (.cells #[.int .i64 b, .int .i64 1, .int .i64 tg, .int .i64 cu, .int .i64 io, .int .i64 ba, .int .i64 t0, .int .i64 t1, .int .i64 t2, .int .i64 t3, .int .i64 t4, .int .i64 t5] 26)
          generalize w.alloc (.cells #[.int .i64 b, .int .i64 1, .int .i64 tg, .int .i64 cu, .int .i64 io, .int .i64 ba, .int .i64 t0, .int .i64 t1, .int .i64 t2, .int .i64 t3, .int .i64 t4, .int .i64 t5] 26) = W1 at hB hh ⊢
          have c0 : W1.cell? ⟨w.heap.size, 0, none⟩ = some (.int .i64 b) := by rw [cell_of_row _ _ _ _ _ _ hh]; rfl
          have c2 : W1.cell? ⟨w.heap.size, 2, none⟩ = some (.int .i64 tg) := by rw [cell_of_row _ _ _ _ _ _ hh]; rfl
          have c3 : W1.cell? ⟨w.heap.size, 3, none⟩ = some (.int .i64 cu) := by rw [cell_of_row _ _ _ _ _ _ hh]; rfl
          have c4 : W1.cell? ⟨w.heap.size, 4, none⟩ = some (.int .i64 io) := by rw [cell_of_row _ _ _ _ _ _ hh]; rfl
          have c5 : W1.cell? ⟨w.heap.size, 5, none⟩ = some (.int .i64 ba) := by rw [cell_of_row _ _ _ _ _ _ hh]; rfl
          clear hh
          go_quiet (first | (go_at_call 21; with_reducible refine quiet_back (K0.out _)) | (go_at_call 35; with_reducible refine quiet_back (K1.out _)) | (go_at_call 35; with_reducible refine quiet_back (K2.out _)) | (go_at_call 34; with_reducible refine quiet_back (K3.out _)))
          go_wp2
          go_ret
          exact ⟨rfl, below_drewN' hB _⟩
        · rw [h3, Bool.true_and] at HR
          rcases h4 : (ba == 0) with _ | _
          · replace HR : st1g G1 G2 b tg cu io ba = false := by rw [HR, h4] <;> rfl
            rw [HR]; clear HR
            clear hb hm hG1 hG2
            go_enter Try.func22, Try.ntmps22
            go_wp2
            have hB := below_box w (.cells #[.int .i64 b, .int .i64 1, .int .i64 tg, .int .i64 cu, .int .i64 io, .int .i64 ba, .int .i64 t0, .int .i64 t1, .int .i64 t2, .int .i64 t3, .int .i64 t4, .int .i64 t5] 26)
            have hh := heap_alloc_new w (.cells #[.int .i64 b, .int .i64 1, .int .i64 tg, .int .i64 cu, .int .i64 io, .int .i64 ba, .int .i64 t0, .int .i64 t1, .int .i64 t2, .int .i64 t3, .int .i64 t4, .int .i64 t5] 26)
            generalize w.alloc (.cells #[.int .i64 b, .int .i64 1, .int .i64 tg, .int .i64 cu, .int .i64 io, .int .i64 ba, .int .i64 t0, .int .i64 t1, .int .i64 t2, .int .i64 t3, .int .i64 t4, .int .i64 t5] 26) = W1 at hB hh ⊢
            have c0 : W1.cell? ⟨w.heap.size, 0, none⟩ = some (.int .i64 b) := by rw [cell_of_row _ _ _ _ _ _ hh]; rfl
            have c2 : W1.cell? ⟨w.heap.size, 2, none⟩ = some (.int .i64 tg) := by rw [cell_of_row _ _ _ _ _ _ hh]; rfl
            have c3 : W1.cell? ⟨w.heap.size, 3, none⟩ = some (.int .i64 cu) := by rw [cell_of_row _ _ _ _ _ _ hh]; rfl
            have c4 : W1.cell? ⟨w.heap.size, 4, none⟩ = some (.int .i64 io) := by rw [cell_of_row _ _ _ _ _ _ hh]; rfl
            have c5 : W1.cell? ⟨w.heap.size, 5, none⟩ = some (.int .i64 ba) := by rw [cell_of_row _ _ _ _ _ _ hh]; rfl
            clear hh
            go_quiet (first | (go_at_call 21; with_reducible refine quiet_back (K0.out _)) | (go_at_call 35; with_reducible refine quiet_back (K1.out _)) | (go_at_call 35; with_reducible refine quiet_back (K2.out _)) | (go_at_call 34; with_reducible refine quiet_back (K3.out _)))
            go_wp2
            go_ret
            exact ⟨rfl, below_drewN' hB _⟩
          · rw [h4] at HR
            rw [HR]; clear HR
            clear hb hm hG1 hG2
            go_enter Try.func22, Try.ntmps22
            go_wp2
            have hB := below_box w (.cells #[.int .i64 b, .int .i64 1, .int .i64 tg, .int .i64 cu, .int .i64 io, .int .i64 ba, .int .i64 t0, .int .i64 t1, .int .i64 t2, .int .i64 t3, .int .i64 t4, .int .i64 t5] 26)
            have hh := heap_alloc_new w (.cells #[.int .i64 b, .int .i64 1, .int .i64 tg, .int .i64 cu, .int .i64 io, .int .i64 ba, .int .i64 t0, .int .i64 t1, .int .i64 t2, .int .i64 t3, .int .i64 t4, .int .i64 t5] 26)
            generalize w.alloc (.cells #[.int .i64 b, .int .i64 1, .int .i64 tg, .int .i64 cu, .int .i64 io, .int .i64 ba, .int .i64 t0, .int .i64 t1, .int .i64 t2, .int .i64 t3, .int .i64 t4, .int .i64 t5] 26) = W1 at hB hh ⊢
            have c0 : W1.cell? ⟨w.heap.size, 0, none⟩ = some (.int .i64 b) := by rw [cell_of_row _ _ _ _ _ _ hh]; rfl
            have c2 : W1.cell? ⟨w.heap.size, 2, none⟩ = some (.int .i64 tg) := by rw [cell_of_row _ _ _ _ _ _ hh]; rfl
            have c3 : W1.cell? ⟨w.heap.size, 3, none⟩ = some (.int .i64 cu) := by rw [cell_of_row _ _ _ _ _ _ hh]; rfl
            have c4 : W1.cell? ⟨w.heap.size, 4, none⟩ = some (.int .i64 io) := by rw [cell_of_row _ _ _ _ _ _ hh]; rfl
            have c5 : W1.cell? ⟨w.heap.size, 5, none⟩ = some (.int .i64 ba) := by rw [cell_of_row _ _ _ _ _ _ hh]; rfl
            clear hh
            go_quiet (first | (go_at_call 21; with_reducible refine quiet_back (K0.out _)) | (go_at_call 35; with_reducible refine quiet_back (K1.out _)) | (go_at_call 35; with_reducible refine quiet_back (K2.out _)) | (go_at_call 34; with_reducible refine quiet_back (K3.out _)))
            go_wp2
            go_ret
            exact ⟨rfl, below_drewN' hB _⟩

set_option maxHeartbeats 2000000 in
theorem sState2 (b tg cu io ba t0 t1 t2 t3 t4 t5 : Int) (w : World) (hb : frmB b = true) (hm : tg ≤ 9223372036854775807) : Calls Try.prog 22 #[.agg #[.int .i64 b, .int .i64 2, .int .i64 tg, .int .i64 cu, .int .i64 io, .int .i64 ba, .int .i64 t0, .int .i64 t1, .int .i64 t2, .int .i64 t3, .int .i64 t4, .int .i64 t5]] w fun e w' => e = .returned (.bool (st2 b tg cu io ba)) ∧ Below w.heap.size w w' := by
  have hb0 : 0 ≤ b := (frm_div hb).1
  have hb1 : b ≤ 768 := (frm_div hb).2.1
  have HR : st2 b tg cu io ba = ((frmB tg) && ((decide (tg < b)) && ((cu == 0) && ((io == 0) && ((ba == 0)))))) := rfl
  rcases h0 : (frmB tg) with _ | _
  · replace HR : st2 b tg cu io ba = false := by rw [HR, h0] <;> rfl
    rw [HR]; clear HR
    have K0 := Lib.hid (gFormed_is tg hm false h0)
    clear h0
    clear hb hm
    go_enter Try.func22, Try.ntmps22
    go_wp2_with (first | (go_at_call 21; with_reducible refine (K0.out _).mono ?_; rintro e w' ⟨rfl, rfl⟩))
    go_ret
    exact ⟨rfl, below_box _ _⟩
  · rw [h0, Bool.true_and] at HR
    have ht0 : 0 ≤ tg := (frm_div h0).1
    have ht1 : tg ≤ 768 := (frm_div h0).2.1
    have K0 := Lib.hid (gFormed_is tg hm true h0)
    clear h0
    rcases h1 : (decide (tg < b)) with _ | _
    · replace HR : st2 b tg cu io ba = false := by rw [HR, h1] <;> rfl
      rw [HR]; clear HR
      have g1 : ¬ tg < b := of_decide_eq_false h1
      clear hb hm
      go_enter Try.func22, Try.ntmps22
      go_wp2_with (first | (go_at_call 21; with_reducible refine (K0.out _).mono ?_; rintro e w' ⟨rfl, rfl⟩))
      go_ret
      exact ⟨rfl, below_box _ _⟩
    · rw [h1, Bool.true_and] at HR
      have g1 : tg < b := of_decide_eq_true h1
      rcases h2 : (cu == 0) with _ | _
      · replace HR : st2 b tg cu io ba = false := by rw [HR, h2] <;> rfl
        rw [HR]; clear HR
        clear hb hm
        go_enter Try.func22, Try.ntmps22
        go_wp2_with (first | (go_at_call 21; with_reducible refine (K0.out _).mono ?_; rintro e w' ⟨rfl, rfl⟩))
        go_ret
        exact ⟨rfl, below_box _ _⟩
      · rw [h2, Bool.true_and] at HR
        rcases h3 : (io == 0) with _ | _
        · replace HR : st2 b tg cu io ba = false := by rw [HR, h3] <;> rfl
          rw [HR]; clear HR
          clear hb hm
          go_enter Try.func22, Try.ntmps22
          go_wp2_with (first | (go_at_call 21; with_reducible refine (K0.out _).mono ?_; rintro e w' ⟨rfl, rfl⟩))
          go_ret
          exact ⟨rfl, below_box _ _⟩
        · rw [h3, Bool.true_and] at HR
          rcases h4 : (ba == 0) with _ | _
          · replace HR : st2 b tg cu io ba = false := by rw [HR, h4] <;> rfl
            rw [HR]; clear HR
            clear hb hm
            go_enter Try.func22, Try.ntmps22
            go_wp2_with (first | (go_at_call 21; with_reducible refine (K0.out _).mono ?_; rintro e w' ⟨rfl, rfl⟩))
            go_ret
            exact ⟨rfl, below_box _ _⟩
          · rw [h4] at HR
            rw [HR]; clear HR
            clear hb hm
            go_enter Try.func22, Try.ntmps22
            go_wp2_with (first | (go_at_call 21; with_reducible refine (K0.out _).mono ?_; rintro e w' ⟨rfl, rfl⟩))
            go_ret
            exact ⟨rfl, below_box _ _⟩

set_option maxHeartbeats 2000000 in
theorem sState3 (b tg cu io ba t0 t1 t2 t3 t4 t5 : Int) (w : World) (hb : frmB b = true) (hm : tg ≤ 9223372036854775807) : Calls Try.prog 22 #[.agg #[.int .i64 b, .int .i64 3, .int .i64 tg, .int .i64 cu, .int .i64 io, .int .i64 ba, .int .i64 t0, .int .i64 t1, .int .i64 t2, .int .i64 t3, .int .i64 t4, .int .i64 t5]] w fun e w' => e = .returned (.bool (st3 b tg cu io ba)) ∧ Below w.heap.size w w' := by
  have HR : st3 b tg cu io ba = ((tg == 0) && ((decide (1 ≤ io ∧ io ≤ 47)) && ((decide (0 ≤ ba ∧ ba ≤ b)) && ((decide (0 ≤ cu ∧ cu ≤ b)))))) := rfl
  rcases h0 : (tg == 0) with _ | _
  · replace HR : st3 b tg cu io ba = false := by rw [HR, h0] <;> rfl
    rw [HR]; clear HR
    clear hb hm
    go_enter Try.func22, Try.ntmps22
    go_wp2
    go_ret
    exact ⟨rfl, below_box _ _⟩
  · rw [h0, Bool.true_and] at HR
    rcases h1 : (decide (1 ≤ io ∧ io ≤ 47)) with _ | _
    · replace HR : st3 b tg cu io ba = false := by rw [HR, h1] <;> rfl
      rw [HR]; clear HR
      have K0 := Lib.hid (sWithin_is io (1) (47) false h1)
      clear h1
      clear hb hm
      go_enter Try.func22, Try.ntmps22
      go_wp2_with (first | (go_at_call 34; with_reducible refine (K0.out _).mono ?_; rintro e w' ⟨rfl, rfl⟩))
      go_ret
      exact ⟨rfl, below_box _ _⟩
    · rw [h1, Bool.true_and] at HR
      have K0 := Lib.hid (sWithin_is io (1) (47) true h1)
      clear h1
      rcases h2 : (decide (0 ≤ ba ∧ ba ≤ b)) with _ | _
      · replace HR : st3 b tg cu io ba = false := by rw [HR, h2] <;> rfl
        rw [HR]; clear HR
        have K1 := Lib.hid (sWithin_is ba (0) (b) false h2)
        clear h2
        clear hb hm
        go_enter Try.func22, Try.ntmps22
        go_wp2_with (first | (go_at_call 34; with_reducible refine (K0.out _).mono ?_; rintro e w' ⟨rfl, rfl⟩) | (go_at_call 34; with_reducible refine (K1.out _).mono ?_; rintro e w' ⟨rfl, rfl⟩))
        go_ret
        exact ⟨rfl, below_box _ _⟩
      · rw [h2, Bool.true_and] at HR
        have K1 := Lib.hid (sWithin_is ba (0) (b) true h2)
        clear h2
        rcases h3 : (decide (0 ≤ cu ∧ cu ≤ b)) with _ | _
        · replace HR : st3 b tg cu io ba = false := by rw [HR, h3] <;> rfl
          rw [HR]; clear HR
          have K2 := Lib.hid (sWithin_is cu (0) (b) false h3)
          clear h3
          clear hb hm
          go_enter Try.func22, Try.ntmps22
          go_wp2_with (first | (go_at_call 34; with_reducible refine (K0.out _).mono ?_; rintro e w' ⟨rfl, rfl⟩) | (go_at_call 34; with_reducible refine (K1.out _).mono ?_; rintro e w' ⟨rfl, rfl⟩) | (go_at_call 34; with_reducible refine (K2.out _).mono ?_; rintro e w' ⟨rfl, rfl⟩))
          go_ret
          exact ⟨rfl, below_box _ _⟩
        · rw [h3] at HR
          have K2 := Lib.hid (sWithin_is cu (0) (b) true h3)
          clear h3
          rw [HR]; clear HR
          clear hb hm
          go_enter Try.func22, Try.ntmps22
          go_wp2_with (first | (go_at_call 34; with_reducible refine (K0.out _).mono ?_; rintro e w' ⟨rfl, rfl⟩) | (go_at_call 34; with_reducible refine (K1.out _).mono ?_; rintro e w' ⟨rfl, rfl⟩) | (go_at_call 34; with_reducible refine (K2.out _).mono ?_; rintro e w' ⟨rfl, rfl⟩))
          go_ret
          exact ⟨rfl, below_box _ _⟩

set_option maxHeartbeats 2000000 in
theorem rState1 (b tg cu io ba t0 t1 t2 t3 t4 t5 : Int) (w : World) (hb : frmB b = true) (hm : tg ≤ 9223372036854775807) : Calls Try.prog 25 #[.agg #[.int .i64 b, .int .i64 1, .int .i64 tg, .int .i64 cu, .int .i64 io, .int .i64 ba, .int .i64 t0, .int .i64 t1, .int .i64 t2, .int .i64 t3, .int .i64 t4, .int .i64 t5]] w fun e w' => e = .returned (.bool (st1r b tg cu io ba)) ∧ Below w.heap.size w w' := by
  have hb0 : 0 ≤ b := (frm_div hb).1
  have hb1 : b ≤ 768 := (frm_div hb).2.1
  have HR : st1r b tg cu io ba = ((frmB tg) && ((decide (b < tg)) && ((decide (b / 64 ≤ cu)) && ((decide (cu ≤ tg / 64)) && ((io == 0) && ((ba == 0))))))) := rfl
  rcases h0 : (frmB tg) with _ | _
  · replace HR : st1r b tg cu io ba = false := by rw [HR, h0] <;> rfl
    rw [HR]; clear HR
    have K0 := Lib.hid (rFormed_is tg hm false h0)
    clear h0
    clear hb hm
    go_enter Try.func25, Try.ntmps25
    go_wp2_with (first | (go_at_call 24; with_reducible refine (K0.out _).mono ?_; rintro e w' ⟨rfl, rfl⟩))
    go_ret
    exact ⟨rfl, below_box _ _⟩
  · rw [h0, Bool.true_and] at HR
    have ht0 : 0 ≤ tg := (frm_div h0).1
    have ht1 : tg ≤ 768 := (frm_div h0).2.1
    have K0 := Lib.hid (rFormed_is tg hm true h0)
    clear h0
    rcases h1 : (decide (b < tg)) with _ | _
    · replace HR : st1r b tg cu io ba = false := by rw [HR, h1] <;> rfl
      rw [HR]; clear HR
      have g1 : ¬ b < tg := of_decide_eq_false h1
      clear hb hm
      go_enter Try.func25, Try.ntmps25
      go_wp2_with (first | (go_at_call 24; with_reducible refine (K0.out _).mono ?_; rintro e w' ⟨rfl, rfl⟩))
      go_ret
      exact ⟨rfl, below_box _ _⟩
    · rw [h1, Bool.true_and] at HR
      have g1 : b < tg := of_decide_eq_true h1
      rcases h2 : (decide (b / 64 ≤ cu)) with _ | _
      · replace HR : st1r b tg cu io ba = false := by rw [HR, h2] <;> rfl
        rw [HR]; clear HR
        have g2 : ¬ b / 64 ≤ cu := of_decide_eq_false h2
        clear hb hm
        go_enter Try.func25, Try.ntmps25
        go_wp2_with (first | (go_at_call 24; with_reducible refine (K0.out _).mono ?_; rintro e w' ⟨rfl, rfl⟩))
        go_ret
        exact ⟨rfl, below_box _ _⟩
      · rw [h2, Bool.true_and] at HR
        have g2 : b / 64 ≤ cu := of_decide_eq_true h2
        rcases h3 : (decide (cu ≤ tg / 64)) with _ | _
        · replace HR : st1r b tg cu io ba = false := by rw [HR, h3] <;> rfl
          rw [HR]; clear HR
          have g3 : ¬ cu ≤ tg / 64 := of_decide_eq_false h3
          clear hb hm
          go_enter Try.func25, Try.ntmps25
          go_wp2_with (first | (go_at_call 24; with_reducible refine (K0.out _).mono ?_; rintro e w' ⟨rfl, rfl⟩))
          go_ret
          exact ⟨rfl, below_box _ _⟩
        · rw [h3, Bool.true_and] at HR
          have g3 : cu ≤ tg / 64 := of_decide_eq_true h3
          rcases h4 : (io == 0) with _ | _
          · replace HR : st1r b tg cu io ba = false := by rw [HR, h4] <;> rfl
            rw [HR]; clear HR
            clear hb hm
            go_enter Try.func25, Try.ntmps25
            go_wp2_with (first | (go_at_call 24; with_reducible refine (K0.out _).mono ?_; rintro e w' ⟨rfl, rfl⟩))
            go_ret
            exact ⟨rfl, below_box _ _⟩
          · rw [h4, Bool.true_and] at HR
            rcases h5 : (ba == 0) with _ | _
            · replace HR : st1r b tg cu io ba = false := by rw [HR, h5] <;> rfl
              rw [HR]; clear HR
              clear hb hm
              go_enter Try.func25, Try.ntmps25
              go_wp2_with (first | (go_at_call 24; with_reducible refine (K0.out _).mono ?_; rintro e w' ⟨rfl, rfl⟩))
              go_ret
              exact ⟨rfl, below_box _ _⟩
            · rw [h5] at HR
              rw [HR]; clear HR
              clear hb hm
              go_enter Try.func25, Try.ntmps25
              go_wp2_with (first | (go_at_call 24; with_reducible refine (K0.out _).mono ?_; rintro e w' ⟨rfl, rfl⟩))
              go_ret
              exact ⟨rfl, below_box _ _⟩

set_option maxHeartbeats 2000000 in
theorem rState2 (b tg cu io ba t0 t1 t2 t3 t4 t5 : Int) (w : World) (hb : frmB b = true) (hm : tg ≤ 9223372036854775807) : Calls Try.prog 25 #[.agg #[.int .i64 b, .int .i64 2, .int .i64 tg, .int .i64 cu, .int .i64 io, .int .i64 ba, .int .i64 t0, .int .i64 t1, .int .i64 t2, .int .i64 t3, .int .i64 t4, .int .i64 t5]] w fun e w' => e = .returned (.bool (st2 b tg cu io ba)) ∧ Below w.heap.size w w' := by
  have hb0 : 0 ≤ b := (frm_div hb).1
  have hb1 : b ≤ 768 := (frm_div hb).2.1
  have HR : st2 b tg cu io ba = ((frmB tg) && ((decide (tg < b)) && ((cu == 0) && ((io == 0) && ((ba == 0)))))) := rfl
  rcases h0 : (frmB tg) with _ | _
  · replace HR : st2 b tg cu io ba = false := by rw [HR, h0] <;> rfl
    rw [HR]; clear HR
    have K0 := Lib.hid (rFormed_is tg hm false h0)
    clear h0
    clear hb hm
    go_enter Try.func25, Try.ntmps25
    go_wp2_with (first | (go_at_call 24; with_reducible refine (K0.out _).mono ?_; rintro e w' ⟨rfl, rfl⟩))
    go_ret
    exact ⟨rfl, below_box _ _⟩
  · rw [h0, Bool.true_and] at HR
    have ht0 : 0 ≤ tg := (frm_div h0).1
    have ht1 : tg ≤ 768 := (frm_div h0).2.1
    have K0 := Lib.hid (rFormed_is tg hm true h0)
    clear h0
    rcases h1 : (decide (tg < b)) with _ | _
    · replace HR : st2 b tg cu io ba = false := by rw [HR, h1] <;> rfl
      rw [HR]; clear HR
      have g1 : ¬ tg < b := of_decide_eq_false h1
      clear hb hm
      go_enter Try.func25, Try.ntmps25
      go_wp2_with (first | (go_at_call 24; with_reducible refine (K0.out _).mono ?_; rintro e w' ⟨rfl, rfl⟩))
      go_ret
      exact ⟨rfl, below_box _ _⟩
    · rw [h1, Bool.true_and] at HR
      have g1 : tg < b := of_decide_eq_true h1
      rcases h2 : (cu == 0) with _ | _
      · replace HR : st2 b tg cu io ba = false := by rw [HR, h2] <;> rfl
        rw [HR]; clear HR
        clear hb hm
        go_enter Try.func25, Try.ntmps25
        go_wp2_with (first | (go_at_call 24; with_reducible refine (K0.out _).mono ?_; rintro e w' ⟨rfl, rfl⟩))
        go_ret
        exact ⟨rfl, below_box _ _⟩
      · rw [h2, Bool.true_and] at HR
        rcases h3 : (io == 0) with _ | _
        · replace HR : st2 b tg cu io ba = false := by rw [HR, h3] <;> rfl
          rw [HR]; clear HR
          clear hb hm
          go_enter Try.func25, Try.ntmps25
          go_wp2_with (first | (go_at_call 24; with_reducible refine (K0.out _).mono ?_; rintro e w' ⟨rfl, rfl⟩))
          go_ret
          exact ⟨rfl, below_box _ _⟩
        · rw [h3, Bool.true_and] at HR
          rcases h4 : (ba == 0) with _ | _
          · replace HR : st2 b tg cu io ba = false := by rw [HR, h4] <;> rfl
            rw [HR]; clear HR
            clear hb hm
            go_enter Try.func25, Try.ntmps25
            go_wp2_with (first | (go_at_call 24; with_reducible refine (K0.out _).mono ?_; rintro e w' ⟨rfl, rfl⟩))
            go_ret
            exact ⟨rfl, below_box _ _⟩
          · rw [h4] at HR
            rw [HR]; clear HR
            clear hb hm
            go_enter Try.func25, Try.ntmps25
            go_wp2_with (first | (go_at_call 24; with_reducible refine (K0.out _).mono ?_; rintro e w' ⟨rfl, rfl⟩))
            go_ret
            exact ⟨rfl, below_box _ _⟩

set_option maxHeartbeats 2000000 in
theorem rState3 (b tg cu io ba t0 t1 t2 t3 t4 t5 : Int) (w : World) (hb : frmB b = true) (hm : tg ≤ 9223372036854775807) : Calls Try.prog 25 #[.agg #[.int .i64 b, .int .i64 3, .int .i64 tg, .int .i64 cu, .int .i64 io, .int .i64 ba, .int .i64 t0, .int .i64 t1, .int .i64 t2, .int .i64 t3, .int .i64 t4, .int .i64 t5]] w fun e w' => e = .returned (.bool (st3r b tg cu io ba)) ∧ Below w.heap.size w w' := by
  have hb0 : 0 ≤ b := (frm_div hb).1
  have hb1 : b ≤ 768 := (frm_div hb).2.1
  have HR : st3r b tg cu io ba = ((tg == 0) && ((decide (1 ≤ io)) && ((decide (io ≤ 47)) && ((decide (0 ≤ ba)) && ((decide (ba ≤ b)) && ((decide (0 ≤ cu)) && ((decide (cu ≤ b))))))))) := rfl
  rcases h0 : (tg == 0) with _ | _
  · replace HR : st3r b tg cu io ba = false := by rw [HR, h0] <;> rfl
    rw [HR]; clear HR
    clear hb hm
    go_enter Try.func25, Try.ntmps25
    go_wp2
    go_ret
    exact ⟨rfl, below_box _ _⟩
  · rw [h0, Bool.true_and] at HR
    rcases h1 : (decide (1 ≤ io)) with _ | _
    · replace HR : st3r b tg cu io ba = false := by rw [HR, h1] <;> rfl
      rw [HR]; clear HR
      have g1 : ¬ 1 ≤ io := of_decide_eq_false h1
      clear hb hm
      go_enter Try.func25, Try.ntmps25
      go_wp2
      go_ret
      exact ⟨rfl, below_box _ _⟩
    · rw [h1, Bool.true_and] at HR
      have g1 : 1 ≤ io := of_decide_eq_true h1
      rcases h2 : (decide (io ≤ 47)) with _ | _
      · replace HR : st3r b tg cu io ba = false := by rw [HR, h2] <;> rfl
        rw [HR]; clear HR
        have g2 : ¬ io ≤ 47 := of_decide_eq_false h2
        clear hb hm
        go_enter Try.func25, Try.ntmps25
        go_wp2
        go_ret
        exact ⟨rfl, below_box _ _⟩
      · rw [h2, Bool.true_and] at HR
        have g2 : io ≤ 47 := of_decide_eq_true h2
        rcases h3 : (decide (0 ≤ ba)) with _ | _
        · replace HR : st3r b tg cu io ba = false := by rw [HR, h3] <;> rfl
          rw [HR]; clear HR
          have g3 : ¬ 0 ≤ ba := of_decide_eq_false h3
          clear hb hm
          go_enter Try.func25, Try.ntmps25
          go_wp2
          go_ret
          exact ⟨rfl, below_box _ _⟩
        · rw [h3, Bool.true_and] at HR
          have g3 : 0 ≤ ba := of_decide_eq_true h3
          rcases h4 : (decide (ba ≤ b)) with _ | _
          · replace HR : st3r b tg cu io ba = false := by rw [HR, h4] <;> rfl
            rw [HR]; clear HR
            have g4 : ¬ ba ≤ b := of_decide_eq_false h4
            clear hb hm
            go_enter Try.func25, Try.ntmps25
            go_wp2
            go_ret
            exact ⟨rfl, below_box _ _⟩
          · rw [h4, Bool.true_and] at HR
            have g4 : ba ≤ b := of_decide_eq_true h4
            rcases h5 : (decide (0 ≤ cu)) with _ | _
            · replace HR : st3r b tg cu io ba = false := by rw [HR, h5] <;> rfl
              rw [HR]; clear HR
              have g5 : ¬ 0 ≤ cu := of_decide_eq_false h5
              clear hb hm
              go_enter Try.func25, Try.ntmps25
              go_wp2
              go_ret
              exact ⟨rfl, below_box _ _⟩
            · rw [h5, Bool.true_and] at HR
              have g5 : 0 ≤ cu := of_decide_eq_true h5
              rcases h6 : (decide (cu ≤ b)) with _ | _
              · replace HR : st3r b tg cu io ba = false := by rw [HR, h6] <;> rfl
                rw [HR]; clear HR
                have g6 : ¬ cu ≤ b := of_decide_eq_false h6
                clear hb hm
                go_enter Try.func25, Try.ntmps25
                go_wp2
                go_ret
                exact ⟨rfl, below_box _ _⟩
              · rw [h6] at HR
                have g6 : cu ≤ b := of_decide_eq_true h6
                rw [HR]; clear HR
                clear hb hm
                go_enter Try.func25, Try.ntmps25
                go_wp2
                go_ret
                exact ⟨rfl, below_box _ _⟩

theorem sStateN (st : Int) (b tg cu io ba t0 t1 t2 t3 t4 t5 : Int) (w : World) (h0 : st ≠ 0) (h1 : st ≠ 1) (h2 : st ≠ 2) (h3 : st ≠ 3) : Calls Try.prog 22 #[.agg #[.int .i64 b, .int .i64 st, .int .i64 tg, .int .i64 cu, .int .i64 io, .int .i64 ba, .int .i64 t0, .int .i64 t1, .int .i64 t2, .int .i64 t3, .int .i64 t4, .int .i64 t5]] w fun e w' => e = .returned (.bool false) ∧ Below w.heap.size w w' := by
  have e0 : (st == 0) = false := by simp [h0]
  have e1 : (st == 1) = false := by simp [h1]
  have e2 : (st == 2) = false := by simp [h2]
  have e3 : (st == 3) = false := by simp [h3]
  clear h0 h1 h2 h3
  go_enter Try.func22, Try.ntmps22
  go_wp2
  go_ret
  exact ⟨rfl, below_box _ _⟩
theorem rStateN (st : Int) (b tg cu io ba t0 t1 t2 t3 t4 t5 : Int) (w : World) (h0 : st ≠ 0) (h1 : st ≠ 1) (h2 : st ≠ 2) (h3 : st ≠ 3) : Calls Try.prog 25 #[.agg #[.int .i64 b, .int .i64 st, .int .i64 tg, .int .i64 cu, .int .i64 io, .int .i64 ba, .int .i64 t0, .int .i64 t1, .int .i64 t2, .int .i64 t3, .int .i64 t4, .int .i64 t5]] w fun e w' => e = .returned (.bool false) ∧ Below w.heap.size w w' := by
  have e0 : (st == 0) = false := by simp [h0]
  have e1 : (st == 1) = false := by simp [h1]
  have e2 : (st == 2) = false := by simp [h2]
  have e3 : (st == 3) = false := by simp [h3]
  clear h0 h1 h2 h3
  go_enter Try.func25, Try.ntmps25
  go_wp2
  go_ret
  exact ⟨rfl, below_box _ _⟩
end Go.Proofs.Ytnpniackcdcooaa
