/- The laws PackSeals and PackBack: their walks. -/
import Derived.Test.YtnfbgefkgileiaaAwake2
import Derived.Test.YtnfbgefkgileiaaPackN
namespace Go.Proofs.Ytnfbgefkgileiaa
open Go.RowKit
set_option linter.unusedVariables false

/-- What Seal tells, whatever it is given. -/
def sealX (l : List Int) : List Int := if l.length ≤ 252 then sealS l else []
def sealE (l : List Int) : Int := if l.length ≤ 252 then 0 else 1
open Classical in
noncomputable def openX (l : List Int) : List Int := if sealed l then l.take 252 else []
open Classical in
noncomputable def openE (l : List Int) : Bool := if sealed l then true else false

theorem pSeal_u {w0 w : World} {v : Value} {l : List Int} (hs : BSl w0 v l) (hb : Below w0.heap.size w0 w) (X : List Int) (E : Int) (hX : X = sealX l) (hE : E = sealE l) :
    Calls Try.prog 11 #[v] w fun e w' => ∃ v', e = .returned (.tuple #[v', .int .i64 E]) ∧ BSl w' v' X ∧ Below w0.heap.size w0 w' := by
  by_cases h : l.length ≤ 252
  · rw [hX, hE, sealX, sealE, if_pos h, if_pos h]
    exact (pSeal_yes (hs.below hb) h).mono fun e w' ⟨v', h1, h2, h3⟩ => ⟨v', h1, h2.bsl, hb.trans (h3.mono hb.size)⟩
  · rw [hX, hE, sealX, sealE, if_neg h, if_neg h]
    obtain ⟨ao, cap, rfl, _⟩ := hs.shape
    exact (pSeal_no (by omega)).mono fun e w' ⟨h1, h2⟩ => ⟨_, h1, bsl_nil _, by rw [← h2]; exact hb⟩
theorem rSeal_u {w0 w : World} {v : Value} {l : List Int} (hs : BSl w0 v l) (hb : Below w0.heap.size w0 w) (X : List Int) (E : Int) (hX : X = sealX l) (hE : E = sealE l) :
    Calls Try.prog 12 #[v] w fun e w' => ∃ v', e = .returned (.tuple #[v', .int .i64 E]) ∧ BSl w' v' X ∧ Below w.heap.size w w' ∧ Below w0.heap.size w0 w' := by
  by_cases h : l.length ≤ 252
  · rw [hX, hE, sealX, sealE, if_pos h, if_pos h]
    exact (rSeal_yes (hs.below hb) h).mono fun e w' ⟨v', h1, h2, h3⟩ => ⟨v', h1, h2.bsl, h3, hb.trans (h3.mono hb.size)⟩
  · rw [hX, hE, sealX, sealE, if_neg h, if_neg h]
    obtain ⟨ao, cap, rfl, _⟩ := hs.shape
    exact (rSeal_no (by omega)).mono fun e w' ⟨h1, h2⟩ => ⟨_, h1, bsl_nil _, by rw [← h2]; exact Below.refl _ _, by rw [← h2]; exact hb⟩
theorem pOpen_u {w0 w : World} {v : Value} {l : List Int} (hs : BSl w0 v l) (hb : Below w0.heap.size w0 w) (X : List Int) (E : Bool) (hX : X = openX l) (hE : E = openE l) :
    Calls Try.prog 13 #[v] w fun e w' => ∃ v', e = .returned (.tuple #[v', .bool E]) ∧ BSl w' v' X ∧ Below w.heap.size w w' ∧ Below w0.heap.size w0 w' := by
  refine (pOpen_any (hs.below hb)).mono fun e w' h => ?_
  rcases h with ⟨h, v', h1, h2, h3⟩ | ⟨h, h1, h3⟩
  · rw [hX, hE, openX, openE, if_pos h, if_pos h]
    exact ⟨v', h1, h2.bsl, h3, hb.trans (h3.mono hb.size)⟩
  · rw [hX, hE, openX, openE, if_neg h, if_neg h]
    exact ⟨_, h1, bsl_nil _, h3, hb.trans (h3.mono hb.size)⟩
theorem rOpen_u {w0 w : World} {v : Value} {l : List Int} (hs : BSl w0 v l) (hb : Below w0.heap.size w0 w) (X : List Int) (E : Bool) (hX : X = openX l) (hE : E = openE l) :
    Calls Try.prog 14 #[v] w fun e w' => ∃ v', e = .returned (.tuple #[v', .bool E]) ∧ BSl w' v' X ∧ Below w.heap.size w w' ∧ Below w0.heap.size w0 w' := by
  refine (rOpen_any (hs.below hb)).mono fun e w' h => ?_
  rcases h with ⟨h, v', h1, h2, h3⟩ | ⟨h, h1, h3⟩
  · rw [hX, hE, openX, openE, if_pos h, if_pos h]
    exact ⟨v', h1, h2.bsl, h3, hb.trans (h3.mono hb.size)⟩
  · rw [hX, hE, openX, openE, if_neg h, if_neg h]
    exact ⟨_, h1, bsl_nil _, h3, hb.trans (h3.mono hb.size)⟩

theorem pSum_u {w0 w : World} {v : Value} {l : List Int} (hs : BSl w0 v l) (hb : Below w0.heap.size w0 w) (hl : l.length ≤ 140737488355300) (S : Int) (hS : S = sumS l) :
    Calls Try.prog 15 #[v] w fun e w' => e = .returned (.int .u32 S) ∧ w = w' := by rw [hS]; exact pSum_any (hs.below hb) hl
theorem rSum_u {w0 w : World} {v : Value} {l : List Int} (hs : BSl w0 v l) (hb : Below w0.heap.size w0 w) (hl : l.length ≤ 140737488355300) (S : Int) (hS : S = sumS l) :
    Calls Try.prog 16 #[v] w fun e w' => e = .returned (.int .u32 S) ∧ w = w' := by rw [hS]; exact rSum_any (hs.below hb) hl

theorem lSeals_any {w : World} {v u : Value} {l m : List Int} (hs : BSl w v l) (ht : BSl w u m) (hl : l.length ≤ 140737488351232) :
    Calls Try.prog 4 #[v, u] w fun e w' => e = .returned (.bool true) ∧ Below w.heap.size w w' := by
  obtain ⟨X, hX⟩ : ∃ X, X = sealX l := ⟨_, rfl⟩
  obtain ⟨E, hE⟩ : ∃ E, E = sealE l := ⟨_, rfl⟩
  obtain ⟨Y, hY⟩ : ∃ Y, Y = openX m := ⟨_, rfl⟩
  obtain ⟨F, hF⟩ : ∃ F, F = openE m := ⟨_, rfl⟩
  obtain ⟨S, hS⟩ : ∃ S, S = sumS l := ⟨_, rfl⟩
  have hl2 : l.length ≤ 140737488355300 := by omega
  have HX := Lib.hid hX
  have HE := Lib.hid hE
  have HY := Lib.hid hY
  have HF := Lib.hid hF
  have HSS := Lib.hid hS
  have HS := Lib.hid hs
  have HT := Lib.hid ht
  have HL := Lib.hid hl2
  clear hX hE hY hF hS hs ht hl hl2
  go_enter Try.func4, Try.ntmps4
  go_wp2_with (first
    | (go_at_call 6; refine (awake2_any _).mono ?_; rintro e w1 ⟨rfl, hb1⟩)
    | (go_at_call 11; refine (pSeal_u HS.out hb1 X E HX.out HE.out).mono ?_; rintro e w2 ⟨v2, rfl, hs2, hb2⟩)
    | (go_at_call 12; refine (rSeal_u HS.out hb2 X E HX.out HE.out).mono ?_; rintro e w3 ⟨v3, rfl, hs3, hd3, hb3⟩
       replace hs2 := hs2.below hd3; clear hd3)
    | (go_at_call 13; refine (pOpen_u HT.out hb3 Y F HY.out HF.out).mono ?_; rintro e w4 ⟨v4, rfl, hs4, hd4, hb4⟩
       replace hs2 := hs2.below hd4
       replace hs3 := hs3.below hd4
       clear hd4)
    | (go_at_call 14; refine (rOpen_u HT.out hb4 Y F HY.out HF.out).mono ?_; rintro e w5 ⟨v5, rfl, hs5, hd5, hb5⟩
       have hc2 := conv_bsl (hs2.below hd5)
       have hc3 := conv_bsl (hs3.below hd5)
       have hc4 := conv_bsl (hs4.below hd5)
       have hc5 := conv_bsl hs5
       clear hd5)
    | (go_at_call 15; refine (pSum_u HS.out hb5 HL.out S HSS.out).mono ?_; rintro e w6 ⟨rfl, rfl⟩)
    | (go_at_call 16; refine (rSum_u HS.out hb5 HL.out S HSS.out).mono ?_; rintro e w6 ⟨rfl, rfl⟩))
  go_ret
  exact ⟨rfl, hb5⟩

end Go.Proofs.Ytnfbgefkgileiaa
