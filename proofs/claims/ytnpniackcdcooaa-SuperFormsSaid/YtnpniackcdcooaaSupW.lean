/- awake of layer 5. -/
import Derived.Test.YtnpniackcdcooaaSupD
namespace Go.Proofs.Ytnpniackcdcooaa
open Go.RowKit
set_option linter.unusedVariables false

def wakeL : List Int := [64, 0, 0, 0, 0, 0, 43, 44, 45, 46, 47, 48]
theorem wake_top : Top wakeL := fun i => by
  unfold num wakeL
  match i with
  | 0 | 1 | 2 | 3 | 4 | 5 | 6 | 7 | 8 | 9 | 10 | 11 => decide
  | n + 12 => exact (by decide : (0 : Int) ≤ 9223372036854775807)
theorem wake_frm : frmS wakeL = true := by
  have h1 : frmB (num wakeL 0) = true := by decide
  have h2 : frmSt wakeL = true := by decide
  have h3 : frmT wakeL = true := by
    refine (frmTo_iff wakeL 6).2 fun i hi => ?_
    have hk : ∀ k, k < 6 → num wakeL (6 + k) = 43 + k := fun k hk => by
      have : k = 0 ∨ k = 1 ∨ k = 2 ∨ k = 3 ∨ k = 4 ∨ k = 5 := by omega
      rcases this with rfl | rfl | rfl | rfl | rfl | rfl <;> rfl
    have h0 : num wakeL 0 = 64 := rfl
    refine ⟨by rw [hk i hi, h0]; omega, ?_, fun k hlt => by rw [hk k (by omega), hk i hi]; omega⟩
    rw [hk i hi]
    exact decide_eq_false (by omega)
  rw [frmS, h1, h2, h3]; rfl
theorem ob_256 {w : World} {B : Nat} {v : Value} {L : List Int} (h : OB w B v (encS L)) : ∃ g cap, v = .slice (some ⟨g, 0, none⟩) 256 cap := by
  have hl : (encS L).length = 256 := sealS_length _ (by rw [con_le]; decide)
  rcases h.2.2 with ⟨_, h0⟩ | ⟨g, cap, cur, hv, _⟩
  · omega
  · exact ⟨g, cap, by rw [hv, hl]⟩

theorem awake5_any (w : World) : Calls Try.prog 6 #[] w fun e w' => e = .returned (.bool true) ∧ Below w.heap.size w w' := by
  have hob := below_box w (supO wakeL 26)
  have hh := heap_alloc_new w (supO wakeL 26)
  obtain ⟨W1, hW1⟩ : ∃ W1, W1 = w.alloc (supO wakeL 26) := ⟨_, rfl⟩
  rw [← hW1] at hob hh
  have hW2 : w.alloc (.cells #[.int .i64 64, .int .i64 0, .int .i64 0, .int .i64 0, .int .i64 0, .int .i64 0, .int .i64 43, .int .i64 44, .int .i64 45, .int .i64 46, .int .i64 47, .int .i64 48] 26) = W1 := by rw [hW1]; rfl
  have hsz : w.heap.size < W1.heap.size := by rw [hW1]; simp
  have H2 := Lib.hid hW2
  have HH := Lib.hid hh
  have KE : Hid (∀ w, Calls Try.prog 7 #[.agg #[.int .i64 64, .int .i64 0, .int .i64 0, .int .i64 0, .int .i64 0, .int .i64 0, .int .i64 43, .int .i64 44, .int .i64 45, .int .i64 46, .int .i64 47, .int .i64 48]] w fun e w' => ∃ v, e = .returned (.tuple #[v, .int .i64 0]) ∧ OB w' w.heap.size v (encS wakeL) ∧ Below w.heap.size w w') :=
    Lib.hid (sEnc_is rfl wake_top wake_frm)
  have KF := Lib.hid (sFormed_is rfl wake_top true wake_frm)
  clear hW1 hW2 hh
  go_enter Try.func6, Try.ntmps6
  go_wp2_with (first
    | (go_at_call 7; rw [H2.out]; refine (KE.out _).mono ?_; rintro e w2 ⟨v2, rfl, hob2, hb2⟩
       have hr2 : w2.heap[w.heap.size]? = some (supO wakeL 26) := (hb2.block _ hsz).trans HH.out
       obtain ⟨g, cap, rfl⟩ := ob_256 hob2)
    | (with_reducible refine wpList_loadS rfl (.tmp 1) rfl w.heap.size rfl wakeL rfl _ hr2 ?_)
    | (go_at_call 9; refine (KF.out _).mono ?_; rintro e w3 ⟨rfl, hb3⟩))
  go_ret
  exact ⟨rfl, (hob.trans (hb2.mono hob.size)).trans (hb3.mono (Nat.le_trans hob.size hb2.size))⟩
end Go.Proofs.Ytnpniackcdcooaa
