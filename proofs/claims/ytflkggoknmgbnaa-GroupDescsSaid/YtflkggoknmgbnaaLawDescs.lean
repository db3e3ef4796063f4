/- GroupDescs: the walk of the law itself. -/
import Derived.Test.YtflkggoknmgbnaaGrpL
import Derived.Test.YtflkggoknmgbnaaLawPages
namespace Go.Proofs.Ytflkggoknmgbnaa
open Go.RowKit BM
set_option linter.unusedVariables false

/-- A pointer to a row of bits that is M, or nil; a slice of bools that is M, or nil. -/
def PoIs (w : World) (po : Value) : Option (List Bool) → Prop
  | none => po = .pointer none
  | some L => ∃ p r, po = .pointer (some ⟨p, 0, none⟩) ∧ BRow w p r L
def VIs (w : World) (v : Value) : Option (List Bool) → Prop
  | none => v = .slice none 0 0
  | some L => KSl w v L
theorem PoIs.below {w w' : World} {po : Value} {M : Option (List Bool)} (h : PoIs w po M) (hb : Below w.heap.size w w') : PoIs w' po M := by
  cases M with
  | none => exact h
  | some L => obtain ⟨p, r, hp, hr⟩ := h; exact ⟨p, r, hp, hr.low hb⟩
theorem VIs.below {w w' : World} {v : Value} {M : Option (List Bool)} (h : VIs w v M) (hb : Below w.heap.size w w') : VIs w' v M := by
  cases M with
  | none => exact h
  | some L => exact KSl.below h hb
theorem PoIs.shape {w : World} {po : Value} {M : Option (List Bool)} (h : PoIs w po M) : ∃ a, po = .pointer a := by
  cases M with
  | none => exact ⟨_, h⟩
  | some L => obtain ⟨p, r, hp, _⟩ := h; exact ⟨_, hp⟩
theorem VIs.shape {w : World} {v : Value} {M : Option (List Bool)} (h : VIs w v M) : ∃ a n c, v = .slice a n c := by
  cases M with
  | none => exact ⟨_, _, _, h⟩
  | some L => obtain ⟨a, c, hv⟩ := KSl.shape h; exact ⟨_, _, _, hv⟩
theorem sameD6_u {w : World} {po v : Value} {M : Option (List Bool)} (g : Int) (h : PoIs w po M) (hk : VIs w v M) :
    Calls Try.prog 11 #[.agg #[.int .i64 g, po], .agg #[.int .i64 g, v]] w fun e w' => e = .returned (.bool true) ∧ Below w.heap.size w w' := by
  cases M with
  | none =>
    obtain rfl : po = .pointer none := h
    obtain rfl : v = .slice none 0 0 := hk
    exact sameD6_zero w g
  | some L =>
    obtain ⟨p, r, rfl, hr⟩ := h
    exact sameD6_eq g hr hk
theorem dec_both6 (l : List Int) : ∃ (M : Option (List Bool)) (G E : Int), (∀ (W : World) (v : Value), BSl W v l → Calls Try.prog 10 #[v] W fun e w' => ∃ po, e = .returned (.tuple #[.agg #[.int .i64 G, po], .int .i64 E]) ∧ PoIs w' po M ∧ Below W.heap.size W w') ∧
    (∀ (W : World) (v : Value), BSl W v l → Calls Try.prog 12 #[v] W fun e w' => ∃ u, e = .returned (.tuple #[.agg #[.int .i64 G, u], .int .i64 E]) ∧ VIs w' u M ∧ Below W.heap.size W w') := by
  by_cases h : hasD l
  · refine ⟨some (decL l), decG l, 0, fun W v hs => (grDec_any hs).mono fun e w' ho => ?_, fun W v hs => (rrDec_any hs).mono fun e w' ho => ?_⟩
    · rcases ho with ⟨_, p, r, he, hr, hb⟩ | ⟨hn, _⟩
      · exact ⟨_, he, ⟨p, r, rfl, hr⟩, hb⟩
      · exact absurd h hn
    · rcases ho with ⟨_, v, he, hr, hb⟩ | ⟨hn, _⟩
      · exact ⟨_, he, hr, hb⟩
      · exact absurd h hn
  · refine ⟨none, 0, 18, fun W v hs => (grDec_any hs).mono fun e w' ho => ?_, fun W v hs => (rrDec_any hs).mono fun e w' ho => ?_⟩
    · rcases ho with ⟨hn, _⟩ | ⟨_, he, hb⟩
      · exact absurd hn h
      · exact ⟨_, he, rfl, hb⟩
    · rcases ho with ⟨hn, _⟩ | ⟨_, he, hb⟩
      · exact absurd hn h
      · exact ⟨_, he, rfl, hb⟩
theorem grDec_enc {w : World} {v : Value} {g : Int} {L : List Bool} (hs : BSl w v (descS g L)) (h1 : 0 ≤ g) (h2 : g < 12) (hL : L.length = 64) : Calls Try.prog 10 #[v] w fun e w' => ∃ p r, e = .returned (.tuple #[.agg #[.int .i64 g, .pointer (some ⟨p, 0, none⟩)], .int .i64 0]) ∧ BRow w' p r L ∧ Below w.heap.size w w' :=
  (grDec_any hs).mono fun e w' ho => by
    obtain ⟨e1, e2⟩ := dec_of g L h1 h2 hL
    rcases ho with ⟨_, h⟩ | ⟨h, _⟩
    · rw [e1, e2] at h; exact h
    · exact absurd (has_of g L h1 h2 hL) h
theorem grEnc_not {w : World} {p r : Nat} {L : List Bool} (hr : BRow w p r L) (g : Int) (h : ¬ (0 ≤ g ∧ g < 12 ∧ L.length = 64)) : Calls Try.prog 7 #[.agg #[.int .i64 g, .pointer (some ⟨p, 0, none⟩)]] w fun e w' => e = .returned (.tuple #[.slice none 0 0, .int .i64 1]) ∧ Below w.heap.size w w' := by
  by_cases hg : 0 ≤ g ∧ g < 12
  · exact grEnc_len hr g hg.1 hg.2 (fun hl => h ⟨hg.1, hg.2, hl⟩)
  · exact grEnc_far g hg ⟨_, rfl⟩

theorem lDescs_long (g : Int) (v2 : Value) (ao : Option Addr) (len cap : Nat) (w : World) (h : 200 < len) :
    Calls Try.prog 3 #[.int .i64 g, .slice ao len cap, v2] w fun e w' => e = .returned (.bool true) ∧ Below w.heap.size w w' := by
  have hb00 : Below w.heap.size w w := Below.refl _ _
  go_enter Try.func3, Try.ntmps3
  go_wp2_with (go_at_call 6; refine (awake6_from (by assumption)).mono ?_; rintro e w1 ⟨rfl, hb⟩)
  go_ret
  exact ⟨rfl, hb⟩
set_option maxHeartbeats 4000000 in
theorem lDescs_yes (g : Int) {w : World} {v1 v2 : Value} {L : List Bool} {l : List Int} (hk : KSl w v1 L) (h2 : BSl w v2 l) (hL : L.length ≤ 200) (hg : 0 ≤ g ∧ g < 12 ∧ L.length = 64) :
    Calls Try.prog 3 #[.int .i64 g, v1, v2] w fun e w' => e = .returned (.bool true) ∧ Below w.heap.size w w' := by
  have HK := Lib.hid hk
  have HB2 := Lib.hid h2
  obtain ⟨M, G, E, d1, d2⟩ := dec_both6 l
  have HD1 := Lib.hid d1
  have HD2 := Lib.hid d2
  obtain ⟨ao, cap, rfl⟩ := hk.shape
  obtain ⟨n, hn⟩ : ∃ n, n = L.length := ⟨_, rfl⟩
  have HLL : Hid (L.length ≤ 200) := Lib.hid hL
  have hdl : decide ((200 : Int) < (n : Int)) = false := by simp; omega
  have HG := Lib.hid hg
  rw [← hn] at HK ⊢
  clear hk h2 d1 d2 hg hn hL
  go_enter Try.func3, Try.ntmps3
  go_wp2_with (first
    | (go_at_call 6; refine (awake6_any _).mono ?_; rintro e w2 ⟨rfl, hb2⟩)
    | (go_at_call 8; refine (desc6_any (HK.out.below hb2) HLL.out g).mono ?_; rintro e w3 ⟨p, r, rfl, hrow3, hb3⟩
       have hb03 : Below w.heap.size w w3 := hb2.trans (hb3.mono hb2.size))
    | (go_at_call 7; refine (grEnc_yes hrow3 g HG.out.1 HG.out.2.1 HG.out.2.2).mono ?_; rintro e w4 ⟨v4, rfl, hob4, hb4⟩
       have hb04 : Below w.heap.size w w4 := hb03.trans (hb4.mono hb03.size))
    | (go_at_call 9; refine (rrEnc_yes (HK.out.below hb04) g HG.out.1 HG.out.2.1 HG.out.2.2).mono ?_; rintro e w5 ⟨v5, rfl, hob5, hb5⟩
       have hc5 := conv_bsl hob5.bsl
       have hc4 := conv_bsl (hob4.bsl.below hb5)
       have hb05 : Below w.heap.size w w5 := hb04.trans (hb5.mono hb04.size)
       have HD0 := Lib.hid (grDec_enc (hob4.bsl.below hb5) HG.out.1 HG.out.2.1 HG.out.2.2))
    | (go_at_call 10; (with_reducible refine HD0.out.mono ?_); rintro e w6 ⟨p6, r6, rfl, hrow6, hb6⟩)
    | (with_reducible refine wpList_store2 rfl 30 sizeD (.tmp 11) (.tmp 54) rfl w6.heap.size rfl _ _ _ _ rfl rfl rfl _ (heap_alloc_new w6 _) ?_; intro w7 hw7 hr7
       have hb7 : Below w6.heap.size w6 w7 := (below_box w6 _).trans (hw7.below (Nat.le_refl _))
       have j0 : w7.cell? ⟨w6.heap.size, 0, none⟩ = some (.int .i64 g) := by rw [cell_of_row _ _ _ _ _ _ hr7]; rfl
       have j1 : w7.cell? ⟨w6.heap.size, 1, none⟩ = some (.pointer (some ⟨p6, 0, none⟩)) := by rw [cell_of_row _ _ _ _ _ _ hr7]; rfl
       have hb07 : Below w.heap.size w w7 := (hb05.trans (hb6.mono hb05.size)).trans (hb7.mono (Nat.le_trans hb05.size hb6.size))
       have HSE := Lib.hid (sameD6_eq g (hrow6.low hb7) (HK.out.below hb07)))
    | (go_at_call 11; (with_reducible refine HSE.out.mono ?_); rintro e w8 ⟨rfl, hb8⟩
       have hb08 : Below w.heap.size w w8 := hb07.trans (hb8.mono hb07.size))
    | (go_at_call 10; (with_reducible refine (HD1.out _ _ (HB2.out.below hb08)).mono ?_); rintro e w20 ⟨po, rfl, hpo20, hb20⟩
       have hb020 : Below w.heap.size w w20 := hb08.trans (hb20.mono hb08.size)
       obtain ⟨pa, rfl⟩ := hpo20.shape)
    | (with_reducible refine wpList_store2 rfl 30 sizeD (.tmp 13) (.tmp 69) rfl w20.heap.size rfl _ _ _ _ rfl rfl rfl _ (heap_alloc_new w20 _) ?_; intro w21 hw21 hr21
       have hb21 : Below w20.heap.size w20 w21 := (below_box w20 _).trans (hw21.below (Nat.le_refl _))
       have hb021 : Below w.heap.size w w21 := hb020.trans (hb21.mono hb020.size))
    | (go_at_call 12; (with_reducible refine (HD2.out _ _ (HB2.out.below hb021)).mono ?_); rintro e w22 ⟨u, rfl, hu22, hb22⟩
       have hr22 := below_hold hr21 hb22
       have hb022 : Below w.heap.size w w22 := hb021.trans (hb22.mono hb021.size)
       obtain ⟨ua, un, uc, rfl⟩ := hu22.shape)
    | (with_reducible refine wpList_store2 rfl 34 sizeRD (.tmp 15) (.tmp 74) rfl w22.heap.size rfl _ _ _ _ rfl rfl rfl _ (heap_alloc_new w22 _) ?_; intro w23 hw23 hr23
       have hb23 : Below w22.heap.size w22 w23 := (below_box w22 _).trans (hw23.below (Nat.le_refl _))
       have hr23d := below_hold hr22 hb23
       have k0 : w23.cell? ⟨w20.heap.size, 0, none⟩ = some (.int .i64 G) := by rw [cell_of_row _ _ _ _ _ _ hr23d]; rfl
       have k1 : w23.cell? ⟨w20.heap.size, 1, none⟩ = some (.pointer pa) := by rw [cell_of_row _ _ _ _ _ _ hr23d]; rfl
       have k2 : w23.cell? ⟨w22.heap.size, 0, none⟩ = some (.int .i64 G) := by rw [cell_of_row _ _ _ _ _ _ hr23]; rfl
       have k3 : w23.cell? ⟨w22.heap.size, 1, none⟩ = some (.slice ua un uc) := by rw [cell_of_row _ _ _ _ _ _ hr23]; rfl
       have HSD := Lib.hid (sameD6_u G (((hpo20.below hb21).below hb22).below hb23) (hu22.below hb23))
       have hb023 : Below w.heap.size w w23 := hb022.trans (hb23.mono hb022.size)
       clear hr23d hr23 hr22 hr21)
    | (go_at_call 11; (with_reducible refine HSD.out.mono ?_); rintro e w24 ⟨rfl, hb24⟩))
  go_ret
  exact ⟨rfl, hb023.trans (hb24.mono hb023.size)⟩
set_option maxHeartbeats 4000000 in
theorem lDescs_no (g : Int) {w : World} {v1 v2 : Value} {L : List Bool} {l : List Int} (hk : KSl w v1 L) (h2 : BSl w v2 l) (hL : L.length ≤ 200) (hg : ¬ (0 ≤ g ∧ g < 12 ∧ L.length = 64)) :
    Calls Try.prog 3 #[.int .i64 g, v1, v2] w fun e w' => e = .returned (.bool true) ∧ Below w.heap.size w w' := by
  have HK := Lib.hid hk
  have HB2 := Lib.hid h2
  obtain ⟨M, G, E, d1, d2⟩ := dec_both6 l
  have HD1 := Lib.hid d1
  have HD2 := Lib.hid d2
  obtain ⟨ao, cap, rfl⟩ := hk.shape
  obtain ⟨n, hn⟩ : ∃ n, n = L.length := ⟨_, rfl⟩
  have HLL : Hid (L.length ≤ 200) := Lib.hid hL
  have hdl : decide ((200 : Int) < (n : Int)) = false := by simp; omega
  have HG := Lib.hid hg
  rw [← hn] at HK ⊢
  have hcn : ∀ W, (convert 23 9 (.slice none 0 0)).run Try.prog W = .ok (.string (strOfNums [])) W := fun W => conv_bsl (bsl_nil W)
  clear hk h2 d1 d2 hg hn hL
  go_enter Try.func3, Try.ntmps3
  go_wp2_with (first
    | (go_at_call 6; refine (awake6_any _).mono ?_; rintro e w2 ⟨rfl, hb2⟩)
    | (go_at_call 8; refine (desc6_any (HK.out.below hb2) HLL.out g).mono ?_; rintro e w3 ⟨p, r, rfl, hrow3, hb3⟩
       have hb03 : Below w.heap.size w w3 := hb2.trans (hb3.mono hb2.size))
    | (go_at_call 7; refine (grEnc_not hrow3 g HG.out).mono ?_; rintro e w4 ⟨rfl, hb4⟩
       have hb04 : Below w.heap.size w w4 := hb03.trans (hb4.mono hb03.size))
    | (go_at_call 9; refine (rrEnc_no (HK.out.below hb04) g HG.out).mono ?_; rintro e w5 ⟨rfl, hb5⟩
       have hb05 : Below w.heap.size w w5 := hb04.trans (hb5.mono hb04.size))
    | (go_at_call 10; (with_reducible refine (HD1.out _ _ (HB2.out.below hb05)).mono ?_); rintro e w20 ⟨po, rfl, hpo20, hb20⟩
       have hb020 : Below w.heap.size w w20 := hb05.trans (hb20.mono hb05.size)
       obtain ⟨pa, rfl⟩ := hpo20.shape)
    | (with_reducible refine wpList_store2 rfl 30 sizeD (.tmp 13) (.tmp 69) rfl w20.heap.size rfl _ _ _ _ rfl rfl rfl _ (heap_alloc_new w20 _) ?_; intro w21 hw21 hr21
       have hb21 : Below w20.heap.size w20 w21 := (below_box w20 _).trans (hw21.below (Nat.le_refl _))
       have hb021 : Below w.heap.size w w21 := hb020.trans (hb21.mono hb020.size))
    | (go_at_call 12; (with_reducible refine (HD2.out _ _ (HB2.out.below hb021)).mono ?_); rintro e w22 ⟨u, rfl, hu22, hb22⟩
       have hr22 := below_hold hr21 hb22
       have hb022 : Below w.heap.size w w22 := hb021.trans (hb22.mono hb021.size)
       obtain ⟨ua, un, uc, rfl⟩ := hu22.shape)
    | (with_reducible refine wpList_store2 rfl 34 sizeRD (.tmp 15) (.tmp 74) rfl w22.heap.size rfl _ _ _ _ rfl rfl rfl _ (heap_alloc_new w22 _) ?_; intro w23 hw23 hr23
       have hb23 : Below w22.heap.size w22 w23 := (below_box w22 _).trans (hw23.below (Nat.le_refl _))
       have hr23d := below_hold hr22 hb23
       have k0 : w23.cell? ⟨w20.heap.size, 0, none⟩ = some (.int .i64 G) := by rw [cell_of_row _ _ _ _ _ _ hr23d]; rfl
       have k1 : w23.cell? ⟨w20.heap.size, 1, none⟩ = some (.pointer pa) := by rw [cell_of_row _ _ _ _ _ _ hr23d]; rfl
       have k2 : w23.cell? ⟨w22.heap.size, 0, none⟩ = some (.int .i64 G) := by rw [cell_of_row _ _ _ _ _ _ hr23]; rfl
       have k3 : w23.cell? ⟨w22.heap.size, 1, none⟩ = some (.slice ua un uc) := by rw [cell_of_row _ _ _ _ _ _ hr23]; rfl
       have HSD := Lib.hid (sameD6_u G (((hpo20.below hb21).below hb22).below hb23) (hu22.below hb23))
       have hb023 : Below w.heap.size w w23 := hb022.trans (hb23.mono hb022.size)
       clear hr23d hr23 hr22 hr21)
    | (go_at_call 11; (with_reducible refine HSD.out.mono ?_); rintro e w24 ⟨rfl, hb24⟩))
  go_ret
  exact ⟨rfl, hb023.trans (hb24.mono hb023.size)⟩
theorem lDescs_of (g : Int) {w : World} {v1 v2 : Value} (h1 : ∃ L, KSl w v1 L) (h2 : ∃ l, BSl w v2 l) : Calls Try.prog 3 #[.int .i64 g, v1, v2] w fun e w' => e = .returned (.bool true) ∧ Below w.heap.size w w' := by
  obtain ⟨L, h1⟩ := h1
  obtain ⟨l, h2⟩ := h2
  by_cases h : L.length ≤ 200
  · by_cases hg : 0 ≤ g ∧ g < 12 ∧ L.length = 64
    · exact lDescs_yes g h1 h2 h hg
    · exact lDescs_no g h1 h2 h hg
  · obtain ⟨ao, cap, rfl⟩ := h1.shape
    exact lDescs_long g v2 ao _ cap w (by omega)
end Go.Proofs.Ytflkggoknmgbnaa
