/- Contract: group's Decode. -/
import Derived.Test.YtflkggoknmgbnaaGrpI
import Derived.Test.YtflkggoknmgbnaaMemQ
namespace Go.Proofs.Ytflkggoknmgbnaa
open Go.RowKit BM
set_option linter.unusedVariables false

theorem ob_sub {w : World} {B : Nat} {v : Value} {c : List Int} (h : OB w B v c) (hc : c.length = 252) : ∃ gc cap, v = .slice (some ⟨gc, 0, none⟩) 252 cap ∧ 252 ≤ cap ∧ BSl w (.slice (some ⟨gc, 8, none⟩) 8 (cap - 8)) ((c.drop 8).take 8) := by
  have hb := h.1
  rcases h.2.2 with ⟨_, h0⟩ | ⟨g, cap, cur, hv, hg, hh, hnc, hcm, hcs, ht⟩
  · omega
  · have hl : ((c.drop 8).take 8).length = 8 := by simp; omega
    refine ⟨g, cap, by rw [hv, hc], by omega, byt_take (byt_drop hb 8) 8, .inr ⟨⟨g, 8, none⟩, cap - 8, by rw [hl], by omega, fun j hj => ⟨(Array.getElem?_eq_some_iff.1 hh).1, rfl, ?_⟩⟩⟩
    rw [hl] at hj
    show w.cell? ⟨g, 8 + j, none⟩ = _
    rw [cell_of_row _ _ _ _ _ _ hh]
    have : (cur.toList.take (c.length * 1))[8 + j]? = (c.map (Value.int .u8))[8 + j]? := by rw [ht]
    rw [List.getElem?_take, if_pos (by omega)] at this
    have e : ((c.drop 8).take 8).getD j 0 = c.getD (8 + j) 0 := by
      rw [List.getD_eq_getElem?_getD, List.getElem?_take, if_pos hj, List.getElem?_drop, List.getD_eq_getElem?_getD]
    rw [e]
    simpa [List.getD_eq_getElem?_getD, hc, show 8 + j < 252 by omega] using this
theorem good_64 (m : List Int) (h : m.length = 8) : BGood 64 m := by
  refine ⟨by rw [h], fun j hj => ?_⟩
  rw [List.getD_eq_getElem?_getD, List.getElem?_eq_none (by omega)]; exact bitAt_zero _
theorem sub_len {c : List Int} (h : c.length = 252) : ((c.drop 8).take 8).length = 8 := by simp; omega
theorem decG_bd {w : World} {v : Value} {l : List Int} (hs : BSl w v l) : 0 ≤ decG l ∧ decG l ≤ 65535 := getV2_bd (byt_mem (byt_take hs.1 252)) 4
/-- What Decode hands back. -/
def DDecOut (l : List Int) (w : World) (e : Ending) (w' : World) : Prop :=
  (hasD l ∧ ∃ p r, e = .returned (.tuple #[.agg #[.int .i64 (decG l), .pointer (some ⟨p, 0, none⟩)], .int .i64 0]) ∧ BRow w' p r (decL l) ∧ Below w.heap.size w w') ∨
  (¬ hasD l ∧ e = .returned (.tuple #[.agg #[.int .i64 0, .pointer none], .int .i64 18]) ∧ Below w.heap.size w w')
theorem grDec_not {w : World} {v : Value} {l : List Int} (hs : BSl w v l) (h : ¬ sealed l) : Calls Try.prog 10 #[v] w fun e w' => e = .returned (.tuple #[.agg #[.int .i64 0, .pointer none], .int .i64 18]) ∧ Below w.heap.size w w' := by
  have hb1 := below_box w (.cells #[.int .i64 0, .pointer none] 30)
  have hr1 := heap_alloc_new w (.cells #[.int .i64 0, .pointer none] 30)
  obtain ⟨w1, hw1⟩ : ∃ w1, w1 = w.alloc (.cells #[.int .i64 0, .pointer none] 30) := ⟨_, rfl⟩
  rw [← hw1] at hb1 hr1
  have H1 := Lib.hid hw1.symm
  have HR1 := Lib.hid hr1
  have HO := Lib.hid (pOpen_not (hs.below hb1) h)
  clear hs h hw1 hr1
  go_enter Try.func10, Try.ntmps10
  go_wp2_with (first
    | (go_at_call 36; rw [H1.out]; refine HO.out.mono ?_; rintro e w2 ⟨rfl, hb2⟩; have hr2 := below_hold HR1.out hb2)
    | (with_reducible refine wpList_store2 rfl 30 sizeD (.tmp 2) (.tmp 19) rfl w.heap.size rfl _ _ _ _ rfl rfl rfl _ hr2 ?_; intro w3 hw3 hr3))
  exact bodyPost_ret (ret_cell2 rfl Try.underlying30 sizeD _ _ w.heap.size _ _ _ _ rfl hr3 rfl) rfl ⟨rfl, (hb1.trans (hb2.mono hb1.size)).trans (hw3.below (Nat.le_refl _))⟩
theorem grDec_far {w : World} {v : Value} {l : List Int} (hs : BSl w v l) (h : sealed l) (hd : ¬ decG l < 12) : Calls Try.prog 10 #[v] w fun e w' => e = .returned (.tuple #[.agg #[.int .i64 0, .pointer none], .int .i64 18]) ∧ Below w.heap.size w w' := by
  have hb1 := below_box w (.cells #[.int .i64 0, .pointer none] 30)
  have hr1 := heap_alloc_new w (.cells #[.int .i64 0, .pointer none] 30)
  obtain ⟨w1, hw1⟩ : ∃ w1, w1 = w.alloc (.cells #[.int .i64 0, .pointer none] 30) := ⟨_, rfl⟩
  rw [← hw1] at hb1 hr1
  have H1 := Lib.hid hw1.symm
  have HR1 := Lib.hid hr1
  have hz1 : w.heap.size < w1.heap.size := (Array.getElem?_eq_some_iff.1 hr1).1
  have HO := Lib.hid (pOpen_is (hs.below hb1) h)
  have HLT := Lib.hid (take_len h)
  have HSL := Lib.hid (sub_len (take_len h))
  have hgb := decG_bd hs
  have HLL := Lib.hid (decL_length l)
  have HS := Lib.hid hs
  obtain ⟨G, hG⟩ : ∃ G, G = decG l := ⟨_, rfl⟩
  rw [← hG] at hgb hd
  have HG : Hid (G = getV (l.take 252) 4 2) := Lib.hid hG
  obtain ⟨hg0, hg1⟩ := hgb
  clear hs h hw1 hr1 hG
  go_enter Try.func10, Try.ntmps10
  go_wp2_with (first
    | (go_at_call 36; rw [H1.out]; refine HO.out.mono ?_; rintro e w2 ⟨v2, rfl, hob2, hb2⟩
       have hr2 := below_hold HR1.out hb2
       obtain ⟨gc, cap, rfl, hcap, hsub⟩ := ob_sub hob2 HLT.out
       have HGET := Lib.hid (pGet2 hob2.bsl (by rw [HLT.out]; decide) 4 (by rw [HLT.out]; decide) G HG.out)
       have HOF := Lib.hid (bOf_good hsub 64 (by decide) (good_64 _ HSL.out)))
    | (go_at_call 37; refine HGET.out.mono ?_; rintro e w3 ⟨rfl, rfl⟩)
    | (go_at_call 38; refine HOF.out.mono ?_; rintro e w4 ⟨p, r, rfl, hrow4, hb4, hp4, hq4⟩
       have hr4 := below_hold hr2 hb4)
    | (with_reducible refine wpList_store2 rfl 30 sizeD (.tmp 10) (.tmp 37) rfl w4.heap.size rfl _ _ _ _ rfl rfl rfl _ (heap_alloc_new w4 _) ?_; intro w5 hw5 hr5
       have hb5 : Below w4.heap.size w4 w5 := (below_box w4 _).trans (hw5.below (Nat.le_refl _))
       have hr5z := below_hold hr4 hb5
       have HROW5 : Hid (BRow w5 p r (decL l)) := Lib.hid (hrow4.low hb5)
       have e0 : w5.cell? ⟨w4.heap.size, 0, none⟩ = some (.int .i64 G) := by rw [cell_of_row _ _ _ _ _ _ hr5]; rfl
       have e1 : w5.cell? ⟨w4.heap.size, 1, none⟩ = some (.pointer (some ⟨p, 0, none⟩)) := by rw [cell_of_row _ _ _ _ _ _ hr5]; rfl
       have hb05 : Below w.heap.size w w5 := ((hb1.trans (hb2.mono hb1.size)).trans (hb4.mono (Nat.le_trans hb1.size hb2.size))).trans (hb5.mono (Nat.le_trans hb1.size (Nat.le_trans hb2.size hb4.size))))
    | (go_at_call 7; refine (grEnc_far G (fun hh => by omega) ⟨_, rfl⟩).mono ?_; rintro e w6 ⟨rfl, hb6⟩
       have hr6 := below_hold hr5z hb6)
    | (with_reducible refine wpList_store2 rfl 30 sizeD (.tmp 2) (.tmp 51) rfl w.heap.size rfl _ _ _ _ rfl rfl rfl _ hr6 ?_; intro w7 hw7 hr7))
  exact bodyPost_ret (ret_cell2 rfl Try.underlying30 sizeD _ _ w.heap.size _ _ _ _ rfl hr7 rfl) rfl ⟨rfl, (hb05.trans (hb6.mono hb05.size)).trans (hw7.below (Nat.le_refl _))⟩
theorem grDec_other {w : World} {v : Value} {l : List Int} (hs : BSl w v l) (h : sealed l) (hd : decG l < 12 ∧ descS (decG l) (decL l) ≠ l) : Calls Try.prog 10 #[v] w fun e w' => e = .returned (.tuple #[.agg #[.int .i64 0, .pointer none], .int .i64 18]) ∧ Below w.heap.size w w' := by
  have hb1 := below_box w (.cells #[.int .i64 0, .pointer none] 30)
  have hr1 := heap_alloc_new w (.cells #[.int .i64 0, .pointer none] 30)
  obtain ⟨w1, hw1⟩ : ∃ w1, w1 = w.alloc (.cells #[.int .i64 0, .pointer none] 30) := ⟨_, rfl⟩
  rw [← hw1] at hb1 hr1
  have H1 := Lib.hid hw1.symm
  have HR1 := Lib.hid hr1
  have hz1 : w.heap.size < w1.heap.size := (Array.getElem?_eq_some_iff.1 hr1).1
  have HO := Lib.hid (pOpen_is (hs.below hb1) h)
  have HLT := Lib.hid (take_len h)
  have HSL := Lib.hid (sub_len (take_len h))
  have hgb := decG_bd hs
  have HLL := Lib.hid (decL_length l)
  have HS := Lib.hid hs
  obtain ⟨G, hG⟩ : ∃ G, G = decG l := ⟨_, rfl⟩
  rw [← hG] at hgb hd
  have HG : Hid (G = getV (l.take 252) 4 2) := Lib.hid hG
  obtain ⟨hg, hd⟩ := hd
  have HD : Hid (decide (descS G (decL l) = l) = false) := Lib.hid (decide_eq_false hd)
  clear hd
  obtain ⟨hg0, hg1⟩ := hgb
  clear hs h hw1 hr1 hG
  go_enter Try.func10, Try.ntmps10
  go_wp2_with (first
    | (go_at_call 36; rw [H1.out]; refine HO.out.mono ?_; rintro e w2 ⟨v2, rfl, hob2, hb2⟩
       have hr2 := below_hold HR1.out hb2
       obtain ⟨gc, cap, rfl, hcap, hsub⟩ := ob_sub hob2 HLT.out
       have HGET := Lib.hid (pGet2 hob2.bsl (by rw [HLT.out]; decide) 4 (by rw [HLT.out]; decide) G HG.out)
       have HOF := Lib.hid (bOf_good hsub 64 (by decide) (good_64 _ HSL.out)))
    | (go_at_call 37; refine HGET.out.mono ?_; rintro e w3 ⟨rfl, rfl⟩)
    | (go_at_call 38; refine HOF.out.mono ?_; rintro e w4 ⟨p, r, rfl, hrow4, hb4, hp4, hq4⟩
       have hr4 := below_hold hr2 hb4)
    | (with_reducible refine wpList_store2 rfl 30 sizeD (.tmp 10) (.tmp 37) rfl w4.heap.size rfl _ _ _ _ rfl rfl rfl _ (heap_alloc_new w4 _) ?_; intro w5 hw5 hr5
       have hb5 : Below w4.heap.size w4 w5 := (below_box w4 _).trans (hw5.below (Nat.le_refl _))
       have hr5z := below_hold hr4 hb5
       have HROW5 : Hid (BRow w5 p r (decL l)) := Lib.hid (hrow4.low hb5)
       have e0 : w5.cell? ⟨w4.heap.size, 0, none⟩ = some (.int .i64 G) := by rw [cell_of_row _ _ _ _ _ _ hr5]; rfl
       have e1 : w5.cell? ⟨w4.heap.size, 1, none⟩ = some (.pointer (some ⟨p, 0, none⟩)) := by rw [cell_of_row _ _ _ _ _ _ hr5]; rfl
       have hb05 : Below w.heap.size w w5 := ((hb1.trans (hb2.mono hb1.size)).trans (hb4.mono (Nat.le_trans hb1.size hb2.size))).trans (hb5.mono (Nat.le_trans hb1.size (Nat.le_trans hb2.size hb4.size))))
    | (go_at_call 7; refine (grEnc_yes HROW5.out G hg0 hg HLL.out).mono ?_; rintro e w6 ⟨v6, rfl, hob6, hb6⟩
       have hr6 := below_hold hr5z hb6
       have hr65 := below_hold hr5 hb6
       have f0 : w6.cell? ⟨w4.heap.size, 0, none⟩ = some (.int .i64 G) := by rw [cell_of_row _ _ _ _ _ _ hr65]; rfl
       have f1 : w6.cell? ⟨w4.heap.size, 1, none⟩ = some (.pointer (some ⟨p, 0, none⟩)) := by rw [cell_of_row _ _ _ _ _ _ hr65]; rfl
       have hb06 : Below w.heap.size w w6 := hb05.trans (hb6.mono hb05.size))
    | (go_at_call 39; refine (bEqual_of hob6.bsl (HS.out.below hb06)).mono ?_; rw [HD.out]; rintro e w' ⟨rfl, rfl⟩)
    | (with_reducible refine wpList_store2 rfl 30 sizeD (.tmp 2) (.tmp 51) rfl w.heap.size rfl _ _ _ _ rfl rfl rfl _ hr6 ?_; intro w7 hw7 hr7))
  exact bodyPost_ret (ret_cell2 rfl Try.underlying30 sizeD _ _ w.heap.size _ _ _ _ rfl hr7 rfl) rfl ⟨rfl, hb06.trans (hw7.below (Nat.le_refl _))⟩
theorem grDec_good {w : World} {v : Value} {l : List Int} (hs : BSl w v l) (h : sealed l) (hd : decG l < 12 ∧ descS (decG l) (decL l) = l) : Calls Try.prog 10 #[v] w fun e w' => ∃ p r, e = .returned (.tuple #[.agg #[.int .i64 (decG l), .pointer (some ⟨p, 0, none⟩)], .int .i64 0]) ∧ BRow w' p r (decL l) ∧ Below w.heap.size w w' := by
  have hb1 := below_box w (.cells #[.int .i64 0, .pointer none] 30)
  have hr1 := heap_alloc_new w (.cells #[.int .i64 0, .pointer none] 30)
  obtain ⟨w1, hw1⟩ : ∃ w1, w1 = w.alloc (.cells #[.int .i64 0, .pointer none] 30) := ⟨_, rfl⟩
  rw [← hw1] at hb1 hr1
  have H1 := Lib.hid hw1.symm
  have HR1 := Lib.hid hr1
  have hz1 : w.heap.size < w1.heap.size := (Array.getElem?_eq_some_iff.1 hr1).1
  have HO := Lib.hid (pOpen_is (hs.below hb1) h)
  have HLT := Lib.hid (take_len h)
  have HSL := Lib.hid (sub_len (take_len h))
  have hgb := decG_bd hs
  have HLL := Lib.hid (decL_length l)
  have HS := Lib.hid hs
  obtain ⟨G, hG⟩ : ∃ G, G = decG l := ⟨_, rfl⟩
  rw [← hG] at hgb hd ⊢
  have HG : Hid (G = getV (l.take 252) 4 2) := Lib.hid hG
  obtain ⟨hg, hd⟩ := hd
  have HD : Hid (decide (descS G (decL l) = l) = true) := Lib.hid (decide_eq_true hd)
  clear hd
  obtain ⟨hg0, hg1⟩ := hgb
  clear hs h hw1 hr1 hG
  go_enter Try.func10, Try.ntmps10
  go_wp2_with (first
    | (go_at_call 36; rw [H1.out]; refine HO.out.mono ?_; rintro e w2 ⟨v2, rfl, hob2, hb2⟩
       have hr2 := below_hold HR1.out hb2
       obtain ⟨gc, cap, rfl, hcap, hsub⟩ := ob_sub hob2 HLT.out
       have HGET := Lib.hid (pGet2 hob2.bsl (by rw [HLT.out]; decide) 4 (by rw [HLT.out]; decide) G HG.out)
       have HOF := Lib.hid (bOf_good hsub 64 (by decide) (good_64 _ HSL.out)))
    | (go_at_call 37; refine HGET.out.mono ?_; rintro e w3 ⟨rfl, rfl⟩)
    | (go_at_call 38; refine HOF.out.mono ?_; rintro e w4 ⟨p, r, rfl, hrow4, hb4, hp4, hq4⟩
       have hr4 := below_hold hr2 hb4)
    | (with_reducible refine wpList_store2 rfl 30 sizeD (.tmp 10) (.tmp 37) rfl w4.heap.size rfl _ _ _ _ rfl rfl rfl _ (heap_alloc_new w4 _) ?_; intro w5 hw5 hr5
       have hb5 : Below w4.heap.size w4 w5 := (below_box w4 _).trans (hw5.below (Nat.le_refl _))
       have hr5z := below_hold hr4 hb5
       have HROW5 : Hid (BRow w5 p r (decL l)) := Lib.hid (hrow4.low hb5)
       have e0 : w5.cell? ⟨w4.heap.size, 0, none⟩ = some (.int .i64 G) := by rw [cell_of_row _ _ _ _ _ _ hr5]; rfl
       have e1 : w5.cell? ⟨w4.heap.size, 1, none⟩ = some (.pointer (some ⟨p, 0, none⟩)) := by rw [cell_of_row _ _ _ _ _ _ hr5]; rfl
       have hb05 : Below w.heap.size w w5 := ((hb1.trans (hb2.mono hb1.size)).trans (hb4.mono (Nat.le_trans hb1.size hb2.size))).trans (hb5.mono (Nat.le_trans hb1.size (Nat.le_trans hb2.size hb4.size))))
    | (go_at_call 7; refine (grEnc_yes HROW5.out G hg0 hg HLL.out).mono ?_; rintro e w6 ⟨v6, rfl, hob6, hb6⟩
       have hr6 := below_hold hr5z hb6
       have hr65 := below_hold hr5 hb6
       have f0 : w6.cell? ⟨w4.heap.size, 0, none⟩ = some (.int .i64 G) := by rw [cell_of_row _ _ _ _ _ _ hr65]; rfl
       have f1 : w6.cell? ⟨w4.heap.size, 1, none⟩ = some (.pointer (some ⟨p, 0, none⟩)) := by rw [cell_of_row _ _ _ _ _ _ hr65]; rfl
       have hb06 : Below w.heap.size w w6 := hb05.trans (hb6.mono hb05.size))
    | (go_at_call 39; refine (bEqual_of hob6.bsl (HS.out.below hb06)).mono ?_; rw [HD.out]; rintro e w' ⟨rfl, rfl⟩)
    | (with_reducible refine wpList_store2 rfl 30 sizeD (.tmp 2) (.tmp 52) rfl w.heap.size rfl _ _ _ _ rfl rfl rfl _ hr6 ?_; intro w7 hw7 hr7))
  have hrow6 := HROW5.out.low hb6
  have hpz : w.heap.size < p := by have := hb2.size; omega
  have hrz : w.heap.size < r := by have := hb2.size; omega
  exact bodyPost_ret (ret_cell2 rfl Try.underlying30 sizeD _ _ w.heap.size _ _ _ _ rfl hr7 rfl) rfl ⟨p, r, rfl, hrow6.of_heap (hw7.2.2.2.2 _ (by omega)) (hw7.2.2.2.2 _ (by omega)), hb06.trans (hw7.below (Nat.le_refl _))⟩
theorem grDec_any {w : World} {v : Value} {l : List Int} (hs : BSl w v l) : Calls Try.prog 10 #[v] w (DDecOut l w) := by
  by_cases h : sealed l
  · by_cases hg : decG l < 12
    · by_cases he : descS (decG l) (decL l) = l
      · exact (grDec_good hs h ⟨hg, he⟩).mono fun e w' ho => .inl ⟨⟨h, hg, he⟩, ho⟩
      · exact (grDec_other hs h ⟨hg, he⟩).mono fun e w' ho => .inr ⟨fun hh => he hh.2.2, ho⟩
    · exact (grDec_far hs h hg).mono fun e w' ho => .inr ⟨fun hh => hg hh.2.1, ho⟩
  · exact (grDec_not hs h).mono fun e w' ho => .inr ⟨fun hh => h hh.1, ho⟩
end Go.Proofs.Ytflkggoknmgbnaa
