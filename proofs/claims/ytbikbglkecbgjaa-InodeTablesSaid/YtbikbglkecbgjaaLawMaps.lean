/- InodeMaps: the walk of the law itself. -/
import Derived.Test.YtbikbglkecbgjaaInoC
import Derived.Test.YtbikbglkecbgjaaInoD
namespace Go.Proofs.Ytbikbglkecbgjaa
open Go.RowKit
set_option linter.unusedVariables false

theorem awake7_from {w0 w : World} (hb : Below w0.heap.size w0 w) : Calls Try.prog 5 #[] w fun e w' => e = .returned (.bool true) ∧ Below w0.heap.size w0 w' :=
  (awake7_any w).mono fun _ _ ⟨h1, h2⟩ => ⟨h1, hb.trans (h2.mono hb.size)⟩
theorem lMaps_long (v2 : Value) (ao : Option Addr) (len cap : Nat) (w : World) (h : 300 < len) :
    Calls Try.prog 4 #[.slice ao len cap, v2] w fun e w' => e = .returned (.bool true) ∧ Below w.heap.size w w' := by
  have hb00 : Below w.heap.size w w := Below.refl _ _
  go_enter Try.func4, Try.ntmps4
  go_wp2_with (go_at_call 5; refine (awake7_from (by assumption)).mono ?_; rintro e w1 ⟨rfl, hb⟩)
  go_ret
  exact ⟨rfl, hb⟩
set_option maxHeartbeats 4000000 in
theorem lMaps_any {w : World} {v1 v2 : Value} {l b : List Int} (h1 : ISl w v1 l) (h2 : BSl w v2 b) (hl : l.length ≤ 300) :
    Calls Try.prog 4 #[v1, v2] w fun e w' => e = .returned (.bool true) ∧ Below w.heap.size w w' := by
  obtain ⟨x, E, hx, hE, P1, P2⟩ := encM_both l
  obtain ⟨y, G, hy, _, Q1, Q2⟩ := decM_both b
  obtain ⟨z, N, hz, hzx, Z1, _⟩ := decM_both x
  have hfin : E = 0 ∧ N = 0 ∧ z = l ∨ E = 1 := by
    rcases hE with ⟨h0, hh, hr⟩ | h1
    · obtain ⟨hn, hzz⟩ := hzx hh
      exact .inl ⟨h0, hn, by rw [hzz, hr]⟩
    · exact .inr h1
  have HO1 := Lib.hid h1
  have HO2 := Lib.hid h2
  have HP1 := Lib.hid P1
  have HP2 := Lib.hid P2
  have HQ1 := Lib.hid Q1
  have HQ2 := Lib.hid Q2
  have HZ1 := Lib.hid Z1
  have HY : Hid (y.length ≤ 1000000) := Lib.hid (by omega)
  have HL : Hid (l.length ≤ 1000000) := Lib.hid (by omega)
  obtain ⟨ao, cap, rfl⟩ := h1.shape
  obtain ⟨n, hn⟩ : ∃ n, n = l.length := ⟨_, rfl⟩
  have hdl : decide ((300 : Int) < (n : Int)) = false := by simp; omega
  rw [← hn] at hl HO1 ⊢
  clear h1 h2 P1 P2 Q1 Q2 Z1 hx hE hy hz hzx hn
  rcases hfin with ⟨rfl, rfl, rfl⟩ | rfl
  all_goals
    go_enter Try.func4, Try.ntmps4
    go_wp2_with (first
      | (go_at_call 5; refine (awake7_any _).mono ?_; rintro e w2 ⟨rfl, hb2⟩)
      | (go_at_call 16; refine (HP1.out _ _ (HO1.out.below hb2)).mono ?_; rintro e w3 ⟨u3, rfl, hs3, hb3⟩; have hb03 := hb2.trans (hb3.mono hb2.size))
      | (go_at_call 17; refine (HP2.out _ _ (HO1.out.below hb03)).mono ?_; rintro e w4 ⟨u4, rfl, hs4, hb4⟩; have hb04 := hb03.trans (hb4.mono hb03.size))
      | (go_at_call 18; with_reducible refine (HQ1.out _ _ (HO2.out.below hb04)).mono ?_; rintro e w5 ⟨u5, rfl, ho5, hb5⟩; have hb05 := hb04.trans (hb5.mono hb04.size))
      | (go_at_call 19; refine (HQ2.out _ _ (HO2.out.below hb05)).mono ?_; rintro e w6 ⟨u6, rfl, ho6, hb6⟩; have hb06 := hb05.trans (hb6.mono hb05.size)
         have hc4 := conv_bsl ((hs4.below hb5).below hb6)
         have hs36 := ((hs3.below hb4).below hb5).below hb6
         have hc3 := conv_bsl hs36
         generalize strOfNums x = T at hc4 hc3
         have HS3 := Lib.hid hs36
         have HO5 := Lib.hid (ho5.below hb6)
         have HO6 := Lib.hid ho6
         have HB6 := Lib.hid hb06
         clear hs3 hs4 hb3 hb4 hb5 hb6 ho5 ho6 hb03 hb04 hb05 hs36 hb2 hb06)
      | (go_at_call 20; with_reducible refine (ints7_any HY.out HO5.out HO6.out).mono ?_; rintro e w7 ⟨rfl, m7, rfl⟩
         clear hc3 hc4)
      | (go_at_call 18; with_reducible refine (HZ1.out _ _ (HS3.out.drewN m7)).mono ?_; rintro e w8 ⟨u8, rfl, ho8, hb8⟩
         have hb08 := (below_drewN' HB6.out m7).trans (hb8.mono HB6.out.size))
      | (go_at_call 20; with_reducible refine (ints7_any HL.out ho8 (HO1.out.below hb08)).mono ?_; rintro e w9 ⟨rfl, m9, rfl⟩))
    go_ret
    first
      | exact ⟨rfl, below_drewN' hb08 m9⟩
      | exact ⟨rfl, hb08⟩
theorem lMaps_of {w : World} {v1 v2 : Value} (h1 : ∃ l, ISl w v1 l) (h2 : ∃ b, BSl w v2 b) : Calls Try.prog 4 #[v1, v2] w fun e w' => e = .returned (.bool true) ∧ Below w.heap.size w w' := by
  obtain ⟨l, h1⟩ := h1
  obtain ⟨b, h2⟩ := h2
  by_cases h : l.length ≤ 300
  · exact lMaps_any h1 h2 h
  · obtain ⟨ao, cap, rfl⟩ := h1.shape
    exact lMaps_long v2 ao _ cap w (by omega)
end Go.Proofs.Ytbikbglkecbgjaa
