/- awake of layer 6; a descriptor without bits; GroupNil. -/
import Derived.Test.YtflkggoknmgbnaaGrpB
namespace Go.Proofs.Ytflkggoknmgbnaa
open Go.RowKit BM
set_option linter.unusedVariables false

theorem bLen_nil (w : World) : Calls Try.prog 25 #[.pointer none] w fun e w' => e = .returned (.int .i64 0) ∧ w = w' := by
  go_enter Try.func25, Try.ntmps25
  go_wp2
  go_ret
  exact ⟨rfl, rfl⟩
theorem ob_len {w : World} {B : Nat} {v : Value} {l : List Int} (h : OB w B v l) (n : Nat) (hn : l.length = n) (h0 : 0 < n) : ∃ g cap, v = .slice (some ⟨g, 0, none⟩) n cap := by
  rcases h.2.2 with ⟨_, h1⟩ | ⟨g, cap, cur, hv, _⟩
  · omega
  · exact ⟨g, cap, by rw [hv, hn]⟩
theorem ow_len {w : World} {B : Nat} {v : Value} {O : List (Int × Int)} (h : OwR w B v O) (n : Nat) (hn : O.length = n) (h0 : 0 < n) : ∃ g cap, v = .slice (some ⟨g, 0, none⟩) n cap := by
  rcases h.2.2 with ⟨_, h1⟩ | ⟨g, cap, cur, hv, _⟩
  · omega
  · exact ⟨g, cap, by rw [hv, hn]⟩
theorem pageS_length {O : List (Int × Int)} (h : O.length = 64) : (pageS O).length = 256 := by rw [pageS, pageK_length, h]

theorem awake6_any (w : World) : Calls Try.prog 6 #[] w fun e w' => e = .returned (.bool true) ∧ Below w.heap.size w w' := by
  have hl := pageS_length (freshK_length 1 64)
  have HL := Lib.hid hl
  have HFL := Lib.hid (freshK_length 1 64)
  have HFA := Lib.hid (fresh_all 1)
  clear hl
  go_enter Try.func6, Try.ntmps6
  go_wp2_with (first
    | (go_at_call 22; refine (grFresh_yes 1 (by omega) (by omega) _).mono ?_; rintro e w2 ⟨v2, rfl, hob2, hb2⟩
       obtain ⟨g2, c2, rfl⟩ := ow_len hob2 64 HFL.out (by decide))
    | (go_at_call 13; refine (grPage_yes hob2.sl HFA.out).mono ?_; rintro e w3 ⟨v3, rfl, hob3, hb3⟩
       obtain ⟨g3, c3, rfl⟩ := ob_len hob3 256 HL.out (by decide)))
  go_ret
  exact ⟨rfl, hb2.trans (hb3.mono hb2.size)⟩

theorem grEnc_nil (g : Int) (w : World) : Calls Try.prog 7 #[.agg #[.int .i64 g, .pointer none]] w fun e w' => e = .returned (.tuple #[.slice none 0 0, .int .i64 1]) ∧ Below w.heap.size w w' := by
  have hb := below_box w (.cells #[.int .i64 g, .pointer none] 30)
  by_cases h : 0 ≤ g ∧ g < 12
  · obtain ⟨h1, h2⟩ := h
    go_enter Try.func7, Try.ntmps7
    go_wp2_with (first
      | (go_at_call 24; refine (grPoss_yes g h1 h2 _).mono ?_; rintro e w2 ⟨rfl, rfl⟩)
      | (go_at_call 25; refine (bLen_nil _).mono ?_; rintro e w2 ⟨rfl, rfl⟩))
    go_ret2
    exact ⟨rfl, hb⟩
  · go_enter Try.func7, Try.ntmps7
    go_wp2_with (go_at_call 24; refine (grPoss_no g h _).mono ?_; rintro e w2 ⟨rfl, rfl⟩)
    go_ret2
    exact ⟨rfl, hb⟩

theorem lGNil_any (g : Int) (w : World) : Calls Try.prog 5 #[.int .i64 g] w fun e w' => e = .returned (.bool true) ∧ Below w.heap.size w w' := by
  go_enter Try.func5, Try.ntmps5
  go_wp2_with (first
    | (go_at_call 6; refine (awake6_any _).mono ?_; rintro e w2 ⟨rfl, hb2⟩)
    | (go_at_call 7; refine (grEnc_nil g _).mono ?_; rintro e w3 ⟨rfl, hb3⟩))
  go_ret
  exact ⟨rfl, hb2.trans (hb3.mono hb2.size)⟩
end Go.Proofs.Ytflkggoknmgbnaa
