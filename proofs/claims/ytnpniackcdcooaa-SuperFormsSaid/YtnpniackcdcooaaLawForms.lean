/- SuperForms. -/
import Derived.Test.YtnpniackcdcooaaSupW
import Derived.Test.YtnpniackcdcooaaSupL
import Derived.Test.YtnpniackcdcooaaSupY
import Derived.Test.YtnpniackcdcooaaSupQ
import Derived.Deep.RegionHeld3
import Derived.Deep.Cut
namespace Go.Proofs.Ytnpniackcdcooaa
open Go.RowKit
set_option linter.unusedVariables false

theorem sDec_enc {L : List Int} (hL : L.length = 12) (hf : frmS L = true) {w : World} {v : Value} (hs : BSl w v (encS L)) : Calls Try.prog 13 #[v] w fun e w' => e = .returned (.tuple #[supV L, .int .i64 0]) ∧ Below w.heap.size w w' :=
  (sDec_of hs).mono fun e w' ⟨h1, h2⟩ => by
    obtain ⟨h3, h4⟩ := has_enc hL hf
    rcases h2 with ⟨_, h5⟩ | ⟨h5, _⟩
    · rw [h4] at h5; exact ⟨h5, h1⟩
    · exact absurd h3 h5
theorem step_rows {W u w5 : World} {p q : Nat} {M : List Int} (h1 : W.heap[p]? = some (supO M 24)) (h2 : W.heap[q]? = some (supO M 26)) (h3 : Below w5.heap.size w5 W) (h4 : Below W.heap.size W u) :
    u.heap[p]? = some (supO M 24) ∧ u.heap[q]? = some (supO M 26) ∧ Below w5.heap.size w5 u :=
  ⟨by rw [h4.block _ (Array.getElem?_eq_some_iff.1 h1).1]; exact h1, by rw [h4.block _ (Array.getElem?_eq_some_iff.1 h2).1]; exact h2, h3.trans (h4.mono h3.size)⟩
set_option maxHeartbeats 4000000 in
theorem lForms_yes (b st tg cu io ba t0 t1 t2 t3 t4 t5 : Int) (L : List Int) (hLL : L = [b, st, tg, cu, io, ba, t0, t1, t2, t3, t4, t5]) (hT : Top L) (hf : frmS L = true) (w : World) : Calls Try.prog 3 #[.agg #[.int .i64 b, .int .i64 st, .int .i64 tg, .int .i64 cu, .int .i64 io, .int .i64 ba, .int .i64 t0, .int .i64 t1, .int .i64 t2, .int .i64 t3, .int .i64 t4, .int .i64 t5]] w fun e w' => e = .returned (.bool true) ∧ Below w.heap.size w w' := by
  have hob := below_box w (supO L 24)
  have hh := heap_alloc_new w (supO L 24)
  obtain ⟨W1, hW1⟩ : ∃ W1, W1 = w.alloc (supO L 24) := ⟨_, rfl⟩
  rw [← hW1] at hob hh
  have hW2 : w.alloc (.cells #[.int .i64 b, .int .i64 st, .int .i64 tg, .int .i64 cu, .int .i64 io, .int .i64 ba, .int .i64 t0, .int .i64 t1, .int .i64 t2, .int .i64 t3, .int .i64 t4, .int .i64 t5] 24) = W1 := by rw [hW1, hLL]; rfl
  have hsz : w.heap.size < W1.heap.size := by rw [hW1]; simp
  have hL : L.length = 12 := by rw [hLL]; rfl
  have H2 := Lib.hid hW2
  have HH := Lib.hid hh
  have HT := Lib.hid hT
  have HF := Lib.hid hf
  have HLL := Lib.hid hLL
  clear hW1 hW2 hh hLL hT hf
  go_enter Try.func3, Try.ntmps3
  go_wp2_with (first
    | (go_at_call 6; rw [H2.out]; refine (awake5_any _).mono ?_; rintro e w2 ⟨rfl, hb2⟩
       have hr2 : w2.heap[w.heap.size]? = some (supO L 24) := (hb2.block _ hsz).trans HH.out
       have hb02 := hob.trans (hb2.mono hob.size)
       have hz2 : w.heap.size < w2.heap.size := Nat.lt_of_lt_of_le hsz hb2.size)
    | (with_reducible refine wpList_loadR rfl (.tmp 1) rfl w.heap.size rfl L hL _ hr2 ?_)
    | (with_reducible refine wpList_storeS rfl (.tmp 3) (.tmp 12) rfl w2.heap.size rfl L zeroS rfl hL rfl _ (heap_alloc_new w2 _) ?_
       intro w3 hw3 hr3
       have hb3 : Below w2.heap.size w2 w3 := (below_box w2 _).trans (hw3.below (Nat.le_refl _)))
    | (with_reducible refine wpList_loadS rfl (.tmp 3) rfl w2.heap.size rfl L hL _ hr3 ?_)
    | (go_at_call 7; refine (sEnc_is hL HT.out HF.out _).mono ?_; rintro e w4 ⟨v4, rfl, hob4, hb4⟩
       have hz3 : w2.heap.size < w3.heap.size := (Array.getElem?_eq_some_iff.1 hr3).1
       have hr4 : w4.heap[w.heap.size]? = some (supO L 24) := by rw [hb4.block _ (Nat.lt_trans hz2 hz3), hb3.block _ hz2]; exact hr2
       have hs4 : w4.heap[w2.heap.size]? = some (supO L 26) := by rw [hb4.block _ hz3]; exact hr3
       have hb24 : Below w2.heap.size w2 w4 := hb3.trans (hb4.mono hb3.size))
    | (with_reducible refine wpList_loadR rfl (.tmp 1) rfl w.heap.size rfl L hL _ hr4 ?_)
    | (go_at_call 8; refine (rEnc_is hL HT.out HF.out _).mono ?_; rintro e w5 ⟨v5, rfl, hob5, hb5⟩
       have hz4 : w2.heap.size < w4.heap.size := (Array.getElem?_eq_some_iff.1 hs4).1
       have hr5 : w5.heap[w.heap.size]? = some (supO L 24) := by rw [hb5.block _ (Nat.lt_trans hz2 hz4)]; exact hr4
       have hs5 : w5.heap[w2.heap.size]? = some (supO L 26) := by rw [hb5.block _ hz4]; exact hs4
       have hb25 : Below w2.heap.size w2 w5 := hb24.trans (hb5.mono hb24.size)))
  obtain ⟨p, hp⟩ : ∃ p, p = w.heap.size := ⟨_, rfl⟩
  obtain ⟨q, hq⟩ : ∃ q, q = w2.heap.size := ⟨_, rfl⟩
  rw [← hp] at hr5 hr4 hr2
  rw [← hq] at hs5 hs4
  rw [← hp, ← hq]
  obtain ⟨T, hT⟩ : ∃ T, T = strOfNums (encS L) := ⟨_, rfl⟩
  have hc4 : ∀ W, Below w5.heap.size w5 W → (convert 27 9 v4).run Try.prog W = .ok (.string T) W := by rw [hT]; exact conv_later (hob4.bsl.below hb5)
  have hc5 : ∀ W, Below w5.heap.size w5 W → (convert 27 9 v5).run Try.prog W = .ok (.string T) W := by rw [hT]; exact conv_later hob5.bsl
  have d1 : w5.drew.heap[p]? = some (supO L 24) := hr5
  have d2 : w5.drew.heap[q]? = some (supO L 26) := hs5
  have d3 : Below w5.heap.size w5 w5.drew := (Below.refl _ _).drew
  have HB4 := Lib.hid (hob4.bsl.below hb5)
  have HB5 := Lib.hid hb25
  have HBW := Lib.hid (hb02.trans (hb25.mono hb02.size))
  have HB02 := Lib.hid hb02
  have KF : Hid (∀ w, Calls Try.prog 9 #[.agg #[.int .i64 b, .int .i64 st, .int .i64 tg, .int .i64 cu, .int .i64 io, .int .i64 ba, .int .i64 t0, .int .i64 t1, .int .i64 t2, .int .i64 t3, .int .i64 t4, .int .i64 t5]] w fun e w' => e = .returned (.bool true) ∧ Below w.heap.size w w') := by have h := sFormed_is hL HT.out true HF.out; rw [HLL.out] at h; exact h
  have KG : Hid (∀ w, Calls Try.prog 10 #[.agg #[.int .i64 b, .int .i64 st, .int .i64 tg, .int .i64 cu, .int .i64 io, .int .i64 ba, .int .i64 t0, .int .i64 t1, .int .i64 t2, .int .i64 t3, .int .i64 t4, .int .i64 t5]] w fun e w' => e = .returned (.bool true) ∧ Below w.heap.size w w') := by have h := rFormS_is hL HT.out true HF.out; rw [HLL.out] at h; exact h
  obtain ⟨X, hX⟩ : ∃ X, X = limS L := ⟨_, rfl⟩
  have KL : Hid (∀ w, Calls Try.prog 11 #[.agg #[.int .i64 b, .int .i64 st, .int .i64 tg, .int .i64 cu, .int .i64 io, .int .i64 ba, .int .i64 t0, .int .i64 t1, .int .i64 t2, .int .i64 t3, .int .i64 t4, .int .i64 t5]] w fun e w' => e = .returned (.int .i64 X) ∧ Below w.heap.size w w') := by have h := sLimit_of hL HT.out; rw [← hX, HLL.out] at h; exact h
  have KM : Hid (∀ w, Calls Try.prog 12 #[.agg #[.int .i64 b, .int .i64 st, .int .i64 tg, .int .i64 cu, .int .i64 io, .int .i64 ba, .int .i64 t0, .int .i64 t1, .int .i64 t2, .int .i64 t3, .int .i64 t4, .int .i64 t5]] w fun e w' => e = .returned (.int .i64 X) ∧ Below w.heap.size w w') := by have h := rLimS_of hL HT.out; rw [← hX, HLL.out] at h; exact h
  rw [HLL.out] at d1 d2
  have STEP := Lib.hid (fun (W u : World) => step_rows (W := W) (u := u) (p := p) (q := q) (M := [b, st, tg, cu, io, ba, t0, t1, t2, t3, t4, t5]) (w5 := w5))
  clear hX hT hob4 hob5 hb25 hb24 hb4 hb5 hb3 hw3 hr3 hr2 hr4 hs4 hz2 hz3 hz4 hb2 hsz hp hq hr5 hs5 hb02 hob
  go_cut [46] from 23 (fun t46 wc => t46 = .bool false ∧ Below w5.heap.size w5 wc ∧ wc.heap[q]? = some (supO [b, st, tg, cu, io, ba, t0, t1, t2, t3, t4, t5] 26))
  case first =>
    go_region_held3 (fun W => ((W.cell? ⟨p, 0, none⟩ = some (.int .i64 b) ∧ W.cell? ⟨p, 1, none⟩ = some (.int .i64 st) ∧ W.cell? ⟨p, 2, none⟩ = some (.int .i64 tg) ∧ W.cell? ⟨p, 3, none⟩ = some (.int .i64 cu)) ∧ (W.cell? ⟨p, 4, none⟩ = some (.int .i64 io) ∧ W.cell? ⟨p, 5, none⟩ = some (.int .i64 ba) ∧ W.cell? ⟨p, 6, none⟩ = some (.int .i64 t0) ∧ W.cell? ⟨p, 7, none⟩ = some (.int .i64 t1)) ∧ W.cell? ⟨p, 8, none⟩ = some (.int .i64 t2) ∧ W.cell? ⟨p, 9, none⟩ = some (.int .i64 t3) ∧ W.cell? ⟨p, 10, none⟩ = some (.int .i64 t4) ∧ W.cell? ⟨p, 11, none⟩ = some (.int .i64 t5)) ∧ ((W.cell? ⟨q, 0, none⟩ = some (.int .i64 b) ∧ W.cell? ⟨q, 1, none⟩ = some (.int .i64 st) ∧ W.cell? ⟨q, 2, none⟩ = some (.int .i64 tg) ∧ W.cell? ⟨q, 3, none⟩ = some (.int .i64 cu)) ∧ (W.cell? ⟨q, 4, none⟩ = some (.int .i64 io) ∧ W.cell? ⟨q, 5, none⟩ = some (.int .i64 ba) ∧ W.cell? ⟨q, 6, none⟩ = some (.int .i64 t0) ∧ W.cell? ⟨q, 7, none⟩ = some (.int .i64 t1)) ∧ W.cell? ⟨q, 8, none⟩ = some (.int .i64 t2) ∧ W.cell? ⟨q, 9, none⟩ = some (.int .i64 t3) ∧ W.cell? ⟨q, 10, none⟩ = some (.int .i64 t4) ∧ W.cell? ⟨q, 11, none⟩ = some (.int .i64 t5)) ∧ Below w5.heap.size w5 W) (first | exact ⟨sup_cells n1, sup_cells n2, n3⟩ | exact ⟨sup_cells m1, sup_cells m2, m3⟩ | exact ⟨sup_cells l1, sup_cells l2, l3⟩ | exact ⟨sup_cells k1, sup_cells k2, k3⟩ | exact ⟨sup_cells d1, sup_cells d2, d3⟩) (first
      | (go_at_call 9; refine (KF.out _).mono ?_; rintro e u1 ⟨rfl, hu1⟩; obtain ⟨k1, k2, k3⟩ := STEP.out _ _ d1 d2 d3 hu1; clear hu1)
      | (go_at_call 10; refine (KG.out _).mono ?_; rintro e u2 ⟨rfl, hu2⟩; obtain ⟨l1, l2, l3⟩ := STEP.out _ _ k1 k2 k3 hu2; clear hu2)
      | (go_at_call 11; refine (KL.out _).mono ?_; rintro e u3 ⟨rfl, hu3⟩; obtain ⟨m1, m2, m3⟩ := STEP.out _ _ l1 l2 l3 hu3; clear hu3)
      | (go_at_call 12; refine (KM.out _).mono ?_; rintro e u4 ⟨rfl, hu4⟩; obtain ⟨n1, n2, n3⟩ := STEP.out _ _ m1 m2 m3 hu4; clear hu4))
    all_goals (go_wp2_with fail; go_meet; exact ⟨rfl, n3, n2⟩)
  case rest =>
    obtain ⟨rfl, hbc, hrc⟩ := hcut
    rw [← HLL.out] at hrc
    clear KF KG KL KM d1 d2 d3 STEP hc4 hc5 HB5
    have hzc := (Array.getElem?_eq_some_iff.1 hrc).1
    have HDE := Lib.hid (sDec_enc hL HF.out (HB4.out.below hbc))
    have heq6 := fun W => eq_arr6 t0 t1 t2 t3 t4 t5 W
    have hwc : Below w.heap.size w wc := HBW.out.trans (hbc.mono HBW.out.size)
    go_wp2_with (first
      | (go_at_call 13; refine HDE.out.mono ?_; rintro e w7 ⟨rfl, hb7⟩
         have hr7 : w7.heap[q]? = some (supO L 26) := (hb7.block _ hzc).trans hrc)
      | (with_reducible refine wpList_storeS rfl (.tmp 8) (.tmp 50) rfl w7.heap.size rfl L zeroS rfl hL rfl _ (heap_alloc_new w7 _) ?_
         intro w8 hw8 hr8
         have hb8 : Below w7.heap.size w7 w8 := (below_box w7 _).trans (hw8.below (Nat.le_refl _))
         have hs8 : w8.heap[q]? = some (supO L 26) := (hb8.block _ (Array.getElem?_eq_some_iff.1 hr7).1).trans hr7
         have hx8 := hr8
         rw [HLL.out] at hx8 hs8
         have hcA := sup_cells hx8
         have hcB := sup_cells hs8
         clear hx8 hs8 hr8))
    go_ret
    exact ⟨rfl, (hwc.trans (hb7.mono hwc.size)).trans (hb8.mono (Nat.le_trans hwc.size hb7.size))⟩
theorem bsl_nil5 (w : World) : BSl w (.slice none 0 0) [] := ⟨byt_nil, .inl ⟨rfl, rfl⟩⟩
set_option maxHeartbeats 4000000 in
theorem lForms_no (b st tg cu io ba t0 t1 t2 t3 t4 t5 : Int) (L : List Int) (hLL : L = [b, st, tg, cu, io, ba, t0, t1, t2, t3, t4, t5]) (hT : Top L) (hf : frmS L = false) (w : World) : Calls Try.prog 3 #[.agg #[.int .i64 b, .int .i64 st, .int .i64 tg, .int .i64 cu, .int .i64 io, .int .i64 ba, .int .i64 t0, .int .i64 t1, .int .i64 t2, .int .i64 t3, .int .i64 t4, .int .i64 t5]] w fun e w' => e = .returned (.bool true) ∧ Below w.heap.size w w' := by
  have hob := below_box w (supO L 24)
  have hh := heap_alloc_new w (supO L 24)
  obtain ⟨W1, hW1⟩ : ∃ W1, W1 = w.alloc (supO L 24) := ⟨_, rfl⟩
  rw [← hW1] at hob hh
  have hW2 : w.alloc (.cells #[.int .i64 b, .int .i64 st, .int .i64 tg, .int .i64 cu, .int .i64 io, .int .i64 ba, .int .i64 t0, .int .i64 t1, .int .i64 t2, .int .i64 t3, .int .i64 t4, .int .i64 t5] 24) = W1 := by rw [hW1, hLL]; rfl
  have hsz : w.heap.size < W1.heap.size := by rw [hW1]; simp
  have hL : L.length = 12 := by rw [hLL]; rfl
  have H2 := Lib.hid hW2
  have HH := Lib.hid hh
  have HT := Lib.hid hT
  have HF := Lib.hid hf
  have HLL := Lib.hid hLL
  clear hW1 hW2 hh hLL hT hf
  go_enter Try.func3, Try.ntmps3
  go_wp2_with (first
    | (go_at_call 6; rw [H2.out]; refine (awake5_any _).mono ?_; rintro e w2 ⟨rfl, hb2⟩
       have hr2 : w2.heap[w.heap.size]? = some (supO L 24) := (hb2.block _ hsz).trans HH.out
       have hb02 := hob.trans (hb2.mono hob.size)
       have hz2 : w.heap.size < w2.heap.size := Nat.lt_of_lt_of_le hsz hb2.size)
    | (with_reducible refine wpList_loadR rfl (.tmp 1) rfl w.heap.size rfl L hL _ hr2 ?_)
    | (with_reducible refine wpList_storeS rfl (.tmp 3) (.tmp 12) rfl w2.heap.size rfl L zeroS rfl hL rfl _ (heap_alloc_new w2 _) ?_
       intro w3 hw3 hr3
       have hb3 : Below w2.heap.size w2 w3 := (below_box w2 _).trans (hw3.below (Nat.le_refl _)))
    | (with_reducible refine wpList_loadS rfl (.tmp 3) rfl w2.heap.size rfl L hL _ hr3 ?_)
    | (go_at_call 7; refine (sEnc_no hL HT.out HF.out _).mono ?_; rintro e w4 ⟨rfl, hb4⟩
       have hz3 : w2.heap.size < w3.heap.size := (Array.getElem?_eq_some_iff.1 hr3).1
       have hr4 : w4.heap[w.heap.size]? = some (supO L 24) := by rw [hb4.block _ (Nat.lt_trans hz2 hz3), hb3.block _ hz2]; exact hr2
       have hs4 : w4.heap[w2.heap.size]? = some (supO L 26) := by rw [hb4.block _ hz3]; exact hr3
       have hb24 : Below w2.heap.size w2 w4 := hb3.trans (hb4.mono hb3.size))
    | (with_reducible refine wpList_loadR rfl (.tmp 1) rfl w.heap.size rfl L hL _ hr4 ?_)
    | (go_at_call 8; refine (rEnc_no hL HT.out HF.out _).mono ?_; rintro e w5 ⟨rfl, hb5⟩
       have hz4 : w2.heap.size < w4.heap.size := (Array.getElem?_eq_some_iff.1 hs4).1
       have hr5 : w5.heap[w.heap.size]? = some (supO L 24) := by rw [hb5.block _ (Nat.lt_trans hz2 hz4)]; exact hr4
       have hs5 : w5.heap[w2.heap.size]? = some (supO L 26) := by rw [hb5.block _ hz4]; exact hs4
       have hb25 : Below w2.heap.size w2 w5 := hb24.trans (hb5.mono hb24.size)))
  obtain ⟨p, hp⟩ : ∃ p, p = w.heap.size := ⟨_, rfl⟩
  obtain ⟨q, hq⟩ : ∃ q, q = w2.heap.size := ⟨_, rfl⟩
  rw [← hp] at hr5 hr4 hr2
  rw [← hq] at hs5 hs4
  rw [← hp, ← hq]
  have hc4 : ∀ W, (convert 27 9 (.slice none 0 0)).run Try.prog W = .ok (.string (strOfNums [])) W := fun W => conv_bsl (bsl_nil5 W)
  have d1 : w5.drew.heap[p]? = some (supO L 24) := hr5
  have d2 : w5.drew.heap[q]? = some (supO L 26) := hs5
  have d3 : Below w5.heap.size w5 w5.drew := (Below.refl _ _).drew
  have HB5 := Lib.hid hb25
  have HBW := Lib.hid (hb02.trans (hb25.mono hb02.size))
  have HB02 := Lib.hid hb02
  have KF : Hid (∀ w, Calls Try.prog 9 #[.agg #[.int .i64 b, .int .i64 st, .int .i64 tg, .int .i64 cu, .int .i64 io, .int .i64 ba, .int .i64 t0, .int .i64 t1, .int .i64 t2, .int .i64 t3, .int .i64 t4, .int .i64 t5]] w fun e w' => e = .returned (.bool false) ∧ Below w.heap.size w w') := by have h := sFormed_is hL HT.out false HF.out; rw [HLL.out] at h; exact h
  have KG : Hid (∀ w, Calls Try.prog 10 #[.agg #[.int .i64 b, .int .i64 st, .int .i64 tg, .int .i64 cu, .int .i64 io, .int .i64 ba, .int .i64 t0, .int .i64 t1, .int .i64 t2, .int .i64 t3, .int .i64 t4, .int .i64 t5]] w fun e w' => e = .returned (.bool false) ∧ Below w.heap.size w w') := by have h := rFormS_is hL HT.out false HF.out; rw [HLL.out] at h; exact h
  obtain ⟨X, hX⟩ : ∃ X, X = limS L := ⟨_, rfl⟩
  have KL : Hid (∀ w, Calls Try.prog 11 #[.agg #[.int .i64 b, .int .i64 st, .int .i64 tg, .int .i64 cu, .int .i64 io, .int .i64 ba, .int .i64 t0, .int .i64 t1, .int .i64 t2, .int .i64 t3, .int .i64 t4, .int .i64 t5]] w fun e w' => e = .returned (.int .i64 X) ∧ Below w.heap.size w w') := by have h := sLimit_of hL HT.out; rw [← hX, HLL.out] at h; exact h
  have KM : Hid (∀ w, Calls Try.prog 12 #[.agg #[.int .i64 b, .int .i64 st, .int .i64 tg, .int .i64 cu, .int .i64 io, .int .i64 ba, .int .i64 t0, .int .i64 t1, .int .i64 t2, .int .i64 t3, .int .i64 t4, .int .i64 t5]] w fun e w' => e = .returned (.int .i64 X) ∧ Below w.heap.size w w') := by have h := rLimS_of hL HT.out; rw [← hX, HLL.out] at h; exact h
  rw [HLL.out] at d1 d2
  have STEP := Lib.hid (fun (W u : World) => step_rows (W := W) (u := u) (p := p) (q := q) (M := [b, st, tg, cu, io, ba, t0, t1, t2, t3, t4, t5]) (w5 := w5))
  clear hX hb25 hb24 hb4 hb5 hb3 hw3 hr3 hr2 hr4 hs4 hz2 hz3 hz4 hb2 hsz hp hq hr5 hs5 hb02 hob
  go_cut [46] from 23 (fun t46 wc => t46 = .bool false ∧ Below w5.heap.size w5 wc ∧ wc.heap[q]? = some (supO [b, st, tg, cu, io, ba, t0, t1, t2, t3, t4, t5] 26))
  case first =>
    go_region_held3 (fun W => ((W.cell? ⟨p, 0, none⟩ = some (.int .i64 b) ∧ W.cell? ⟨p, 1, none⟩ = some (.int .i64 st) ∧ W.cell? ⟨p, 2, none⟩ = some (.int .i64 tg) ∧ W.cell? ⟨p, 3, none⟩ = some (.int .i64 cu)) ∧ (W.cell? ⟨p, 4, none⟩ = some (.int .i64 io) ∧ W.cell? ⟨p, 5, none⟩ = some (.int .i64 ba) ∧ W.cell? ⟨p, 6, none⟩ = some (.int .i64 t0) ∧ W.cell? ⟨p, 7, none⟩ = some (.int .i64 t1)) ∧ W.cell? ⟨p, 8, none⟩ = some (.int .i64 t2) ∧ W.cell? ⟨p, 9, none⟩ = some (.int .i64 t3) ∧ W.cell? ⟨p, 10, none⟩ = some (.int .i64 t4) ∧ W.cell? ⟨p, 11, none⟩ = some (.int .i64 t5)) ∧ ((W.cell? ⟨q, 0, none⟩ = some (.int .i64 b) ∧ W.cell? ⟨q, 1, none⟩ = some (.int .i64 st) ∧ W.cell? ⟨q, 2, none⟩ = some (.int .i64 tg) ∧ W.cell? ⟨q, 3, none⟩ = some (.int .i64 cu)) ∧ (W.cell? ⟨q, 4, none⟩ = some (.int .i64 io) ∧ W.cell? ⟨q, 5, none⟩ = some (.int .i64 ba) ∧ W.cell? ⟨q, 6, none⟩ = some (.int .i64 t0) ∧ W.cell? ⟨q, 7, none⟩ = some (.int .i64 t1)) ∧ W.cell? ⟨q, 8, none⟩ = some (.int .i64 t2) ∧ W.cell? ⟨q, 9, none⟩ = some (.int .i64 t3) ∧ W.cell? ⟨q, 10, none⟩ = some (.int .i64 t4) ∧ W.cell? ⟨q, 11, none⟩ = some (.int .i64 t5)) ∧ Below w5.heap.size w5 W) (first | exact ⟨sup_cells n1, sup_cells n2, n3⟩ | exact ⟨sup_cells m1, sup_cells m2, m3⟩ | exact ⟨sup_cells l1, sup_cells l2, l3⟩ | exact ⟨sup_cells k1, sup_cells k2, k3⟩ | exact ⟨sup_cells d1, sup_cells d2, d3⟩) (first
      | (go_at_call 9; refine (KF.out _).mono ?_; rintro e u1 ⟨rfl, hu1⟩; obtain ⟨k1, k2, k3⟩ := STEP.out _ _ d1 d2 d3 hu1; clear hu1)
      | (go_at_call 10; refine (KG.out _).mono ?_; rintro e u2 ⟨rfl, hu2⟩; obtain ⟨l1, l2, l3⟩ := STEP.out _ _ k1 k2 k3 hu2; clear hu2)
      | (go_at_call 11; refine (KL.out _).mono ?_; rintro e u3 ⟨rfl, hu3⟩; obtain ⟨m1, m2, m3⟩ := STEP.out _ _ l1 l2 l3 hu3; clear hu3)
      | (go_at_call 12; refine (KM.out _).mono ?_; rintro e u4 ⟨rfl, hu4⟩; obtain ⟨n1, n2, n3⟩ := STEP.out _ _ m1 m2 m3 hu4; clear hu4))
    all_goals (go_wp2_with fail; go_meet; exact ⟨rfl, n3, n2⟩)
  case rest =>
    obtain ⟨rfl, hbc, hrc⟩ := hcut
    rw [← HLL.out] at hrc
    clear KF KG KL KM d1 d2 d3 STEP hc4 HB5
    have hzc := (Array.getElem?_eq_some_iff.1 hrc).1
    have HDE := Lib.hid (sDec_not (bsl_nil5 wc) (l := []) (fun h => by have := h.1; simp at this))
    have hwc : Below w.heap.size w wc := HBW.out.trans (hbc.mono HBW.out.size)
    go_wp2_with (first
      | (go_at_call 13; refine HDE.out.mono ?_; rintro e w7 ⟨rfl, hb7⟩)
      | (with_reducible refine wpList_storeS rfl (.tmp 8) (.tmp 50) rfl w7.heap.size rfl zeroS zeroS rfl rfl rfl _ (heap_alloc_new w7 _) ?_
         intro w8 hw8 hr8
         have hb8 : Below w7.heap.size w7 w8 := (below_box w7 _).trans (hw8.below (Nat.le_refl _))
         clear hr8))
    go_ret
    exact ⟨rfl, (hwc.trans (hb7.mono hwc.size)).trans (hb8.mono (Nat.le_trans hwc.size hb7.size))⟩

theorem lForms_of {v : Value} {w : World} (h : ∃ L : List Int, v = supV L ∧ L.length = 12 ∧ Top L) : Calls Try.prog 3 #[v] w fun e w' => e = .returned (.bool true) ∧ Below w.heap.size w w' := by
  obtain ⟨L, rfl, hL, hT⟩ := h
  match L, hL with
  | [b, st, tg, cu, io, ba, t0, t1, t2, t3, t4, t5], _ =>
    cases hf : frmS [b, st, tg, cu, io, ba, t0, t1, t2, t3, t4, t5]
    · exact lForms_no b st tg cu io ba t0 t1 t2 t3 t4 t5 _ rfl hT hf w
    · exact lForms_yes b st tg cu io ba t0 t1 t2 t3 t4 t5 _ rfl hT hf w
end Go.Proofs.Ytnpniackcdcooaa
