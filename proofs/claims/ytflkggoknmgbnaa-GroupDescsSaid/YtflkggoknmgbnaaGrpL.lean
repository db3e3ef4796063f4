/- Contract: the reference's DecodeDesc. -/
import Derived.Test.YtflkggoknmgbnaaGrpJ
import Derived.Deep.RegionHeld3
import Derived.Deep.Cut
namespace Go.Proofs.Ytflkggoknmgbnaa
open Go.RowKit BM
set_option linter.unusedVariables false

theorem byt_seal (l : List Int) (h : ∀ x ∈ l, 0 ≤ x ∧ x ≤ 255) : Byt (sealS l) := byt_of_mem fun x hx => by
  unfold sealS fillS at hx
  rcases List.mem_append.1 hx with h1 | h1
  · rcases List.mem_append.1 h1 with h2 | h2
    · exact h x h2
    · rw [List.eq_of_mem_replicate h2]; decide
  · exact lowB_mem _ _ x h1
theorem byt_desc (g : Int) (L : List Bool) : Byt (descS g L) := byt_seal _ fun x hx => by
  unfold descC at hx
  rcases List.mem_append.1 hx with h1 | h1
  · rcases List.mem_append.1 h1 with h2 | h2
    · rcases List.mem_append.1 h2 with h3 | h3
      · simp at h3; omega
      · exact lowB_mem _ _ x h3
    · exact lowB_mem _ _ x h2
  · exact byt_bytesB L x h1
theorem rOf_64 {w : World} {v : Value} {m : List Int} (hs : BSl w v m) (h : m.length = 8) : Calls Try.prog 41 #[.int .i64 64, v] w fun e w' => ∃ q r, e = .returned (.tuple #[.pointer (some ⟨q, 0, none⟩), .int .i64 0]) ∧ RRow w' q r (bitsOf 64 m) ∧ Below w.heap.size w w' ∧ w.heap.size ≤ q ∧ w.heap.size ≤ r :=
  (rOf_any hs 64 (by decide)).mono fun e w' he => by
    rcases he with ⟨_, h2⟩ | ⟨h1, _⟩
    · exact h2
    · exact absurd (good_64 m h) h1
theorem RRow.ksl {w : World} {q r : Nat} {L : List Bool} (h : RRow w q r L) : KSl w (.slice (some ⟨r, 0, none⟩) L.length L.length) L := by
  refine .inr ⟨_, _, rfl, fun j hj => ⟨h.lt.2, rfl, ?_⟩⟩
  show w.cell? ⟨r, 0 + j, none⟩ = _
  rw [Nat.zero_add]; exact h.cells.2.1 j hj
/-- What the reference's DecodeDesc hands back. -/
def RDecOut (l : List Int) (w : World) (e : Ending) (w' : World) : Prop :=
  (hasD l ∧ ∃ v, e = .returned (.tuple #[.agg #[.int .i64 (decG l), v], .int .i64 0]) ∧ KSl w' v (decL l) ∧ Below w.heap.size w w') ∨
  (¬ hasD l ∧ e = .returned (.tuple #[.agg #[.int .i64 0, .slice none 0 0], .int .i64 18]) ∧ Below w.heap.size w w')
theorem rrDec_not {w : World} {v : Value} {l : List Int} (hs : BSl w v l) (h : ¬ sealed l) : Calls Try.prog 12 #[v] w fun e w' => e = .returned (.tuple #[.agg #[.int .i64 0, .slice none 0 0], .int .i64 18]) ∧ Below w.heap.size w w' := by
  have hb1 := below_box w (.cells #[.int .i64 0, .slice none 0 0] 34)
  have hr1 := heap_alloc_new w (.cells #[.int .i64 0, .slice none 0 0] 34)
  obtain ⟨w1, hw1⟩ : ∃ w1, w1 = w.alloc (.cells #[.int .i64 0, .slice none 0 0] 34) := ⟨_, rfl⟩
  rw [← hw1] at hb1 hr1
  have H1 := Lib.hid hw1.symm
  have HR1 := Lib.hid hr1
  have HO := Lib.hid (rOpen_not (hs.below hb1) h)
  clear hs h hw1 hr1
  go_enter Try.func12, Try.ntmps12
  go_wp2_with (first
    | (go_at_call 40; rw [H1.out]; refine HO.out.mono ?_; rintro e w2 ⟨rfl, hb2⟩; have hr2 := below_hold HR1.out hb2)
    | (with_reducible refine wpList_store2 rfl 34 sizeRD (.tmp 2) (.tmp 18) rfl w.heap.size rfl _ _ _ _ rfl rfl rfl _ hr2 ?_; intro w3 hw3 hr3))
  exact bodyPost_ret (ret_cell2 rfl Try.underlying34 sizeRD _ _ w.heap.size _ _ _ _ rfl hr3 rfl) rfl ⟨rfl, (hb1.trans (hb2.mono hb1.size)).trans (hw3.below (Nat.le_refl _))⟩
set_option maxHeartbeats 1000000 in
theorem rrDec_far {w : World} {v : Value} {l : List Int} (hs : BSl w v l) (h : sealed l) (hd : ¬ decG l < 12) : Calls Try.prog 12 #[v] w fun e w' => e = .returned (.tuple #[.agg #[.int .i64 0, .slice none 0 0], .int .i64 18]) ∧ Below w.heap.size w w' := by
  have hb1 := below_box w (.cells #[.int .i64 0, .slice none 0 0] 34)
  have hr1 := heap_alloc_new w (.cells #[.int .i64 0, .slice none 0 0] 34)
  obtain ⟨w1, hw1⟩ : ∃ w1, w1 = w.alloc (.cells #[.int .i64 0, .slice none 0 0] 34) := ⟨_, rfl⟩
  rw [← hw1] at hb1 hr1
  have H1 := Lib.hid hw1.symm
  have HR1 := Lib.hid hr1
  have hz1 : w.heap.size < w1.heap.size := (Array.getElem?_eq_some_iff.1 hr1).1
  have HO := Lib.hid (rOpen_is (hs.below hb1) h)
  have HLT := Lib.hid (take_len h)
  have HSL := Lib.hid (sub_len (take_len h))
  have hgb := decG_bd hs
  have HLL := Lib.hid (decL_length l)
  have HS := Lib.hid hs
  obtain ⟨G, hG⟩ : ∃ G, G = decG l := ⟨_, rfl⟩
  rw [← hG] at hgb hd
  have HG : Hid (G = getV (l.take 252) 4 2) := Lib.hid hG
  obtain ⟨hg0, hg1⟩ := hgb
  clear hs h hw1 hr1 hG
  go_enter Try.func12, Try.ntmps12
  go_wp2_with (first
    | (go_at_call 40; rw [H1.out]; refine HO.out.mono ?_; rintro e w2 ⟨v2, rfl, hob2, hb2⟩
       have hr2 := below_hold HR1.out hb2
       obtain ⟨gc, cap, rfl, hcap, hsub⟩ := ob_sub hob2 HLT.out
       have HOF := Lib.hid (rOf_64 hsub HSL.out))
    | (go_at_call 41; refine HOF.out.mono ?_; rintro e w4 ⟨q, r, rfl, hrow4, hb4, hq4, hr4q⟩
       have hr4 := below_hold hr2 hb4
       have TWO : Hid (∀ W, Below w4.heap.size w4 W → Calls Try.prog 42 #[.slice (some ⟨gc, 0, none⟩) 252 cap, .int .i64 4] W fun e w' => e = .returned (.int .i64 G) ∧ W = w') := Lib.hid (fun W (hW : Below w4.heap.size w4 W) => rTwo_n ((hob2.bsl.below hb4).below hW) (by rw [HLT.out]; decide) 4 (by rw [HLT.out]; decide) G HG.out)
       have HK4 := Lib.hid hrow4.ksl
       have hcq := hrow4.cells.1
       have hqz : w.heap.size < q := by have := hb2.size; omega
       have hrz : w.heap.size < r := by have := hb2.size; omega
       have hb04 : Below w.heap.size w w4 := (hb1.trans (hb2.mono hb1.size)).trans (hb4.mono (Nat.le_trans hb1.size hb2.size))))
  rw [show (bitsOf 64 (((l.take 252).drop 8).take 8)).length = 64 from length_bitsOf _ _] at hcq HK4
  have b0 : Below w4.heap.size w4 w4.drew := (Below.refl _ _).drew
  have b1 : Below w4.heap.size w4 (w4.alloc (.cells #[.int .i64 0, .slice none 0 0] 34)).drew := below_drewN' (below_box w4 _) 1
  have c0 : w4.drew.cell? ⟨q, 0, none⟩ = some (.slice (some ⟨r, 0, none⟩) 64 64) := hcq
  have cA : ∀ o, (w4.alloc o).drew.cell? ⟨q, 0, none⟩ = some (.slice (some ⟨r, 0, none⟩) 64 64) := fun o => ((below_box w4 o).cell (p := ⟨q, 0, none⟩) (World.block_lt_of_cell? _ _ hcq)).trans hcq
  have HB04 := Lib.hid hb04
  have HR4 := Lib.hid hr4
  clear hrow4 hcq hob2 hsub hb04 hr4 hb4 hb2 hr2
  go_cut [8] from 25 (fun t8 wc => t8 = .pointer (some ⟨w4.heap.size, 0, none⟩) ∧ wc = (w4.alloc (.cells #[.int .i64 G, .slice (some ⟨r, 0, none⟩) 64 64] 34)).drew)
  case first =>
    go_region_held3 (fun W => W.cell? ⟨q, 0, none⟩ = some (.slice (some ⟨r, 0, none⟩) 64 64)) (first | exact c0 | exact cA _) (first
      | (go_at_call 42; with_reducible refine (TWO.out _ (by assumption)).mono ?_; rintro e w' ⟨rfl, rfl⟩))
    all_goals (go_wp2_with fail; go_meet; exact ⟨rfl, rfl⟩)
  case rest =>
    obtain ⟨rfl, hwc⟩ := hcut
    clear b0 b1 c0 cA TWO
    have hb5 : Below w4.heap.size w4 wc := by rw [hwc]; exact below_drewN' (below_box w4 _) 1
    have hr5 : wc.heap[w4.heap.size]? = some (.cells #[.int .i64 G, .slice (some ⟨r, 0, none⟩) 64 64] 34 (0, 0)) := by rw [hwc]; exact heap_alloc_new w4 _
    have hr5z := below_hold HR4.out hb5
    have HK5 : Hid (KSl wc (.slice (some ⟨r, 0, none⟩) 64 64) (decL l)) := Lib.hid (HK4.out.below hb5)
    obtain ⟨gs, hgs⟩ : ∃ gs, gs = w4.heap.size := ⟨_, rfl⟩
    rw [← hgs] at hr5 ⊢
    have hb05 : Below w.heap.size w wc := HB04.out.trans (hb5.mono HB04.out.size)
    have e0 : wc.cell? ⟨gs, 0, none⟩ = some (.int .i64 G) := by rw [cell_of_row _ _ _ _ _ _ hr5]; rfl
    have e1 : wc.cell? ⟨gs, 1, none⟩ = some (.slice (some ⟨r, 0, none⟩) 64 64) := by rw [cell_of_row _ _ _ _ _ _ hr5]; rfl
    clear hwc hgs hb5
    have HEN := Lib.hid (rrEnc_no HK5.out G (fun hh => by omega))
    go_wp2_with (first
      | (go_at_call 9; refine HEN.out.mono ?_; rintro e w6 ⟨rfl, hb6⟩
         have hr6 := below_hold hr5z hb6)
      | (with_reducible refine wpList_store2 rfl 34 sizeRD (.tmp 2) (.tmp 46) rfl w.heap.size rfl _ _ _ _ rfl rfl rfl _ hr6 ?_; intro w7 hw7 hr7))
    exact bodyPost_ret (ret_cell2 rfl Try.underlying34 sizeRD _ _ w.heap.size _ _ _ _ rfl hr7 rfl) rfl ⟨rfl, (hb05.trans (hb6.mono hb05.size)).trans (hw7.below (Nat.le_refl _))⟩
set_option maxHeartbeats 1000000 in
theorem rrDec_other {w : World} {v : Value} {l : List Int} (hs : BSl w v l) (h : sealed l) (hd : decG l < 12 ∧ descS (decG l) (decL l) ≠ l) : Calls Try.prog 12 #[v] w fun e w' => e = .returned (.tuple #[.agg #[.int .i64 0, .slice none 0 0], .int .i64 18]) ∧ Below w.heap.size w w' := by
  have hb1 := below_box w (.cells #[.int .i64 0, .slice none 0 0] 34)
  have hr1 := heap_alloc_new w (.cells #[.int .i64 0, .slice none 0 0] 34)
  obtain ⟨w1, hw1⟩ : ∃ w1, w1 = w.alloc (.cells #[.int .i64 0, .slice none 0 0] 34) := ⟨_, rfl⟩
  rw [← hw1] at hb1 hr1
  have H1 := Lib.hid hw1.symm
  have HR1 := Lib.hid hr1
  have hz1 : w.heap.size < w1.heap.size := (Array.getElem?_eq_some_iff.1 hr1).1
  have HO := Lib.hid (rOpen_is (hs.below hb1) h)
  have HLT := Lib.hid (take_len h)
  have HSL := Lib.hid (sub_len (take_len h))
  have hgb := decG_bd hs
  have HLL := Lib.hid (decL_length l)
  have HS := Lib.hid hs
  obtain ⟨G, hG⟩ : ∃ G, G = decG l := ⟨_, rfl⟩
  rw [← hG] at hgb hd
  have HG : Hid (G = getV (l.take 252) 4 2) := Lib.hid hG
  obtain ⟨hg, hd⟩ := hd
  have HD := Lib.hid hd
  clear hd
  obtain ⟨hg0, hg1⟩ := hgb
  clear hs h hw1 hr1 hG
  go_enter Try.func12, Try.ntmps12
  go_wp2_with (first
    | (go_at_call 40; rw [H1.out]; refine HO.out.mono ?_; rintro e w2 ⟨v2, rfl, hob2, hb2⟩
       have hr2 := below_hold HR1.out hb2
       obtain ⟨gc, cap, rfl, hcap, hsub⟩ := ob_sub hob2 HLT.out
       have HOF := Lib.hid (rOf_64 hsub HSL.out))
    | (go_at_call 41; refine HOF.out.mono ?_; rintro e w4 ⟨q, r, rfl, hrow4, hb4, hq4, hr4q⟩
       have hr4 := below_hold hr2 hb4
       have TWO : Hid (∀ W, Below w4.heap.size w4 W → Calls Try.prog 42 #[.slice (some ⟨gc, 0, none⟩) 252 cap, .int .i64 4] W fun e w' => e = .returned (.int .i64 G) ∧ W = w') := Lib.hid (fun W (hW : Below w4.heap.size w4 W) => rTwo_n ((hob2.bsl.below hb4).below hW) (by rw [HLT.out]; decide) 4 (by rw [HLT.out]; decide) G HG.out)
       have HK4 := Lib.hid hrow4.ksl
       have hcq := hrow4.cells.1
       have hqz : w.heap.size < q := by have := hb2.size; omega
       have hrz : w.heap.size < r := by have := hb2.size; omega
       have hb04 : Below w.heap.size w w4 := (hb1.trans (hb2.mono hb1.size)).trans (hb4.mono (Nat.le_trans hb1.size hb2.size))))
  rw [show (bitsOf 64 (((l.take 252).drop 8).take 8)).length = 64 from length_bitsOf _ _] at hcq HK4
  have b0 : Below w4.heap.size w4 w4.drew := (Below.refl _ _).drew
  have b1 : Below w4.heap.size w4 (w4.alloc (.cells #[.int .i64 0, .slice none 0 0] 34)).drew := below_drewN' (below_box w4 _) 1
  have c0 : w4.drew.cell? ⟨q, 0, none⟩ = some (.slice (some ⟨r, 0, none⟩) 64 64) := hcq
  have cA : ∀ o, (w4.alloc o).drew.cell? ⟨q, 0, none⟩ = some (.slice (some ⟨r, 0, none⟩) 64 64) := fun o => ((below_box w4 o).cell (p := ⟨q, 0, none⟩) (World.block_lt_of_cell? _ _ hcq)).trans hcq
  have HB04 := Lib.hid hb04
  have HR4 := Lib.hid hr4
  clear hrow4 hcq hob2 hsub hb04 hr4 hb4 hb2 hr2
  go_cut [8] from 25 (fun t8 wc => t8 = .pointer (some ⟨w4.heap.size, 0, none⟩) ∧ wc = (w4.alloc (.cells #[.int .i64 G, .slice (some ⟨r, 0, none⟩) 64 64] 34)).drew)
  case first =>
    go_region_held3 (fun W => W.cell? ⟨q, 0, none⟩ = some (.slice (some ⟨r, 0, none⟩) 64 64)) (first | exact c0 | exact cA _) (first
      | (go_at_call 42; with_reducible refine (TWO.out _ (by assumption)).mono ?_; rintro e w' ⟨rfl, rfl⟩))
    all_goals (go_wp2_with fail; go_meet; exact ⟨rfl, rfl⟩)
  case rest =>
    obtain ⟨rfl, hwc⟩ := hcut
    clear b0 b1 c0 cA TWO
    have hb5 : Below w4.heap.size w4 wc := by rw [hwc]; exact below_drewN' (below_box w4 _) 1
    have hr5 : wc.heap[w4.heap.size]? = some (.cells #[.int .i64 G, .slice (some ⟨r, 0, none⟩) 64 64] 34 (0, 0)) := by rw [hwc]; exact heap_alloc_new w4 _
    have hr5z := below_hold HR4.out hb5
    have HK5 : Hid (KSl wc (.slice (some ⟨r, 0, none⟩) 64 64) (decL l)) := Lib.hid (HK4.out.below hb5)
    obtain ⟨gs, hgs⟩ : ∃ gs, gs = w4.heap.size := ⟨_, rfl⟩
    rw [← hgs] at hr5 ⊢
    have hb05 : Below w.heap.size w wc := HB04.out.trans (hb5.mono HB04.out.size)
    have e0 : wc.cell? ⟨gs, 0, none⟩ = some (.int .i64 G) := by rw [cell_of_row _ _ _ _ _ _ hr5]; rfl
    have e1 : wc.cell? ⟨gs, 1, none⟩ = some (.slice (some ⟨r, 0, none⟩) 64 64) := by rw [cell_of_row _ _ _ _ _ _ hr5]; rfl
    clear hwc hgs hb5
    have hcn : ¬ (strOfNums (descS G (decL l))).toList = (strOfNums l).toList := fun hh => by
      rw [ByteArray.toList_eq, ByteArray.toList_eq] at hh
      exact HD.out (strOf_inj (byt_desc _ _) HS.out.1 hh)
    have hcq : ((strOfNums (descS G (decL l))).toList != (strOfNums l).toList) = true := by rw [bne_iff_ne]; exact hcn
    have hcr : ((strOfNums (descS G (decL l))).toList == (strOfNums l).toList) = false := by rw [beq_eq_false_iff_ne]; exact hcn
    have HEN := Lib.hid (rrEnc_yes HK5.out G hg0 hg HLL.out)
    go_wp2_with (first
      | (go_at_call 9; refine HEN.out.mono ?_; rintro e w6 ⟨v6, rfl, hob6, hb6⟩
         have hr6 := below_hold hr5z hb6
         have hr65 := below_hold hr5 hb6
         have f0 : w6.cell? ⟨gs, 0, none⟩ = some (.int .i64 G) := by rw [cell_of_row _ _ _ _ _ _ hr65]; rfl
         have f1 : w6.cell? ⟨gs, 1, none⟩ = some (.slice (some ⟨r, 0, none⟩) 64 64) := by rw [cell_of_row _ _ _ _ _ _ hr65]; rfl
         have hb06 : Below w.heap.size w w6 := hb05.trans (hb6.mono hb05.size)
         have hc1 := conv_bsl hob6.bsl
         have hc2 := conv_bsl (HS.out.below hb06)
         have hob6' : Below wc.heap.size wc w6 := hb6
         skip)
      | (with_reducible refine wpList_store2 rfl 34 sizeRD (.tmp 2) (.tmp 46) rfl w.heap.size rfl _ _ _ _ rfl rfl rfl _ hr6 ?_; intro w7 hw7 hr7))
    exact bodyPost_ret (ret_cell2 rfl Try.underlying34 sizeRD _ _ w.heap.size _ _ _ _ rfl hr7 rfl) rfl ⟨rfl, hb06.trans (hw7.below (Nat.le_refl _))⟩
set_option maxHeartbeats 1000000 in
theorem rrDec_good {w : World} {v : Value} {l : List Int} (hs : BSl w v l) (h : sealed l) (hd : decG l < 12 ∧ descS (decG l) (decL l) = l) : Calls Try.prog 12 #[v] w fun e w' => ∃ v, e = .returned (.tuple #[.agg #[.int .i64 (decG l), v], .int .i64 0]) ∧ KSl w' v (decL l) ∧ Below w.heap.size w w' := by
  have hb1 := below_box w (.cells #[.int .i64 0, .slice none 0 0] 34)
  have hr1 := heap_alloc_new w (.cells #[.int .i64 0, .slice none 0 0] 34)
  obtain ⟨w1, hw1⟩ : ∃ w1, w1 = w.alloc (.cells #[.int .i64 0, .slice none 0 0] 34) := ⟨_, rfl⟩
  rw [← hw1] at hb1 hr1
  have H1 := Lib.hid hw1.symm
  have HR1 := Lib.hid hr1
  have hz1 : w.heap.size < w1.heap.size := (Array.getElem?_eq_some_iff.1 hr1).1
  have HO := Lib.hid (rOpen_is (hs.below hb1) h)
  have HLT := Lib.hid (take_len h)
  have HSL := Lib.hid (sub_len (take_len h))
  have hgb := decG_bd hs
  have HLL := Lib.hid (decL_length l)
  have HS := Lib.hid hs
  obtain ⟨G, hG⟩ : ∃ G, G = decG l := ⟨_, rfl⟩
  rw [← hG] at hgb hd ⊢
  have HG : Hid (G = getV (l.take 252) 4 2) := Lib.hid hG
  obtain ⟨hg, hd⟩ := hd
  have HD := Lib.hid hd
  clear hd
  obtain ⟨hg0, hg1⟩ := hgb
  clear hs h hw1 hr1 hG
  go_enter Try.func12, Try.ntmps12
  go_wp2_with (first
    | (go_at_call 40; rw [H1.out]; refine HO.out.mono ?_; rintro e w2 ⟨v2, rfl, hob2, hb2⟩
       have hr2 := below_hold HR1.out hb2
       obtain ⟨gc, cap, rfl, hcap, hsub⟩ := ob_sub hob2 HLT.out
       have HOF := Lib.hid (rOf_64 hsub HSL.out))
    | (go_at_call 41; refine HOF.out.mono ?_; rintro e w4 ⟨q, r, rfl, hrow4, hb4, hq4, hr4q⟩
       have hr4 := below_hold hr2 hb4
       have TWO : Hid (∀ W, Below w4.heap.size w4 W → Calls Try.prog 42 #[.slice (some ⟨gc, 0, none⟩) 252 cap, .int .i64 4] W fun e w' => e = .returned (.int .i64 G) ∧ W = w') := Lib.hid (fun W (hW : Below w4.heap.size w4 W) => rTwo_n ((hob2.bsl.below hb4).below hW) (by rw [HLT.out]; decide) 4 (by rw [HLT.out]; decide) G HG.out)
       have HK4 := Lib.hid hrow4.ksl
       have hcq := hrow4.cells.1
       have hqz : w.heap.size < q := by have := hb2.size; omega
       have hrz : w.heap.size < r := by have := hb2.size; omega
       have hb04 : Below w.heap.size w w4 := (hb1.trans (hb2.mono hb1.size)).trans (hb4.mono (Nat.le_trans hb1.size hb2.size))))
  rw [show (bitsOf 64 (((l.take 252).drop 8).take 8)).length = 64 from length_bitsOf _ _] at hcq HK4
  have b0 : Below w4.heap.size w4 w4.drew := (Below.refl _ _).drew
  have b1 : Below w4.heap.size w4 (w4.alloc (.cells #[.int .i64 0, .slice none 0 0] 34)).drew := below_drewN' (below_box w4 _) 1
  have c0 : w4.drew.cell? ⟨q, 0, none⟩ = some (.slice (some ⟨r, 0, none⟩) 64 64) := hcq
  have cA : ∀ o, (w4.alloc o).drew.cell? ⟨q, 0, none⟩ = some (.slice (some ⟨r, 0, none⟩) 64 64) := fun o => ((below_box w4 o).cell (p := ⟨q, 0, none⟩) (World.block_lt_of_cell? _ _ hcq)).trans hcq
  have HB04 := Lib.hid hb04
  have HR4 := Lib.hid hr4
  clear hrow4 hcq hob2 hsub hb04 hr4 hb4 hb2 hr2
  go_cut [8] from 25 (fun t8 wc => t8 = .pointer (some ⟨w4.heap.size, 0, none⟩) ∧ wc = (w4.alloc (.cells #[.int .i64 G, .slice (some ⟨r, 0, none⟩) 64 64] 34)).drew)
  case first =>
    go_region_held3 (fun W => W.cell? ⟨q, 0, none⟩ = some (.slice (some ⟨r, 0, none⟩) 64 64)) (first | exact c0 | exact cA _) (first
      | (go_at_call 42; with_reducible refine (TWO.out _ (by assumption)).mono ?_; rintro e w' ⟨rfl, rfl⟩))
    all_goals (go_wp2_with fail; go_meet; exact ⟨rfl, rfl⟩)
  case rest =>
    obtain ⟨rfl, hwc⟩ := hcut
    clear b0 b1 c0 cA TWO
    have hb5 : Below w4.heap.size w4 wc := by rw [hwc]; exact below_drewN' (below_box w4 _) 1
    have hr5 : wc.heap[w4.heap.size]? = some (.cells #[.int .i64 G, .slice (some ⟨r, 0, none⟩) 64 64] 34 (0, 0)) := by rw [hwc]; exact heap_alloc_new w4 _
    have hr5z := below_hold HR4.out hb5
    have HK5 : Hid (KSl wc (.slice (some ⟨r, 0, none⟩) 64 64) (decL l)) := Lib.hid (HK4.out.below hb5)
    obtain ⟨gs, hgs⟩ : ∃ gs, gs = w4.heap.size := ⟨_, rfl⟩
    rw [← hgs] at hr5 ⊢
    have hb05 : Below w.heap.size w wc := HB04.out.trans (hb5.mono HB04.out.size)
    have e0 : wc.cell? ⟨gs, 0, none⟩ = some (.int .i64 G) := by rw [cell_of_row _ _ _ _ _ _ hr5]; rfl
    have e1 : wc.cell? ⟨gs, 1, none⟩ = some (.slice (some ⟨r, 0, none⟩) 64 64) := by rw [cell_of_row _ _ _ _ _ _ hr5]; rfl
    clear hwc hgs hb5
    have HEN := Lib.hid (rrEnc_yes HK5.out G hg0 hg HLL.out)
    go_wp2_with (first
      | (go_at_call 9; refine HEN.out.mono ?_; rintro e w6 ⟨v6, rfl, hob6, hb6⟩
         have hr6 := below_hold hr5z hb6
         have hr65 := below_hold hr5 hb6
         have f0 : w6.cell? ⟨gs, 0, none⟩ = some (.int .i64 G) := by rw [cell_of_row _ _ _ _ _ _ hr65]; rfl
         have f1 : w6.cell? ⟨gs, 1, none⟩ = some (.slice (some ⟨r, 0, none⟩) 64 64) := by rw [cell_of_row _ _ _ _ _ _ hr65]; rfl
         have hb06 : Below w.heap.size w w6 := hb05.trans (hb6.mono hb05.size)
         have hc1 := conv_bsl hob6.bsl
         have hc2 := conv_bsl (HS.out.below hb06)
         have hob6' : Below wc.heap.size wc w6 := hb6
         rw [HD.out] at hc1)
      | (with_reducible refine wpList_store2 rfl 34 sizeRD (.tmp 2) (.tmp 47) rfl w.heap.size rfl _ _ _ _ rfl rfl rfl _ hr6 ?_; intro w7 hw7 hr7))
    have hk7 : KSl w7 (.slice (some ⟨r, 0, none⟩) 64 64) (decL l) := by
      rcases HK5.out.below hb6 with ⟨h, _⟩ | ⟨a, c, h, hc⟩
      · simp at h
      · refine .inr ⟨a, c, h, fun j hj => ?_⟩
        obtain ⟨h1, h2, h3⟩ := hc j hj
        have ha : a.block ≠ w.heap.size := by
          have h4 := (Value.slice.inj h).1
          simp at h4
          rw [← h4]
          show r ≠ _
          omega
        exact ⟨by rw [hw7.2.2.2.1]; exact h1, h2, by rw [World.cell?_of_block (w := w6) (a := ⟨a.block, a.off + j, none⟩) (hw7.2.2.2.2 _ ha)]; exact h3⟩
    exact bodyPost_ret (ret_cell2 rfl Try.underlying34 sizeRD _ _ w.heap.size _ _ _ _ rfl hr7 rfl) rfl ⟨_, rfl, hk7, hb06.trans (hw7.below (Nat.le_refl _))⟩
theorem rrDec_any {w : World} {v : Value} {l : List Int} (hs : BSl w v l) : Calls Try.prog 12 #[v] w (RDecOut l w) := by
  by_cases h : sealed l
  · by_cases hg : decG l < 12
    · by_cases he : descS (decG l) (decL l) = l
      · exact (rrDec_good hs h ⟨hg, he⟩).mono fun e w' ho => .inl ⟨⟨h, hg, he⟩, ho⟩
      · exact (rrDec_other hs h ⟨hg, he⟩).mono fun e w' ho => .inr ⟨fun hh => he hh.2.2, ho⟩
    · exact (rrDec_far hs h hg).mono fun e w' ho => .inr ⟨fun hh => hg hh.2.1, ho⟩
  · exact (rrDec_not hs h).mono fun e w' ho => .inr ⟨fun hh => h hh.1, ho⟩
end Go.Proofs.Ytflkggoknmgbnaa
