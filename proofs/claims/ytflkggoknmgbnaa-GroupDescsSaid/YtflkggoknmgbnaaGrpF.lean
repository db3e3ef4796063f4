/- Contract: the reference's Of. -/
import Derived.Test.YtflkggoknmgbnaaGrpE
import Derived.Test.YtflkggoknmgbnaaGrpK
import Derived.RegionTactic
import Derived.BigRegion
import Derived.Deep.RegionLaw
import Derived.Deep.AppendLies
namespace Go.Proofs.Ytflkggoknmgbnaa
open Go.RowKit BM
set_option linter.unusedVariables false

/-- What the reference's Of hands back. -/
def ROfOut (g : Int) (O : List (Int × Int)) (w : World) (e : Ending) (w' : World) : Prop :=
  (((0 ≤ g ∧ g < 12) ∧ allO O = true) ∧ ∃ v, e = .returned (.tuple #[.agg #[.int .i64 g, v], .int .i64 0]) ∧ KR w' w.heap.size v (usedK O 64) ∧ Below w.heap.size w w') ∨
  (¬ ((0 ≤ g ∧ g < 12) ∧ allO O = true) ∧ e = .returned (.tuple #[.agg #[.int .i64 0, .slice none 0 0], .int .i64 1]) ∧ Below w.heap.size w w')
theorem rrPage_is {w : World} {v : Value} {O : List (Int × Int)} (hs : OwSl w v O) (h : allO O = true) : Calls Try.prog 14 #[v] w fun e w' => ∃ v, e = .returned (.tuple #[v, .int .i64 0]) ∧ BSl w' v (pageS O) ∧ Below w.heap.size w w' :=
  (rrPage_any hs).mono fun e w' ho => ho.elim (fun h1 => h1.2) fun h1 => by rw [h] at h1; cases h1.1
theorem rrPage_not {w : World} {v : Value} {O : List (Int × Int)} (hs : OwSl w v O) (h : allO O = false) : Calls Try.prog 14 #[v] w fun e w' => e = .returned (.tuple #[.slice none 0 0, .int .i64 1]) ∧ Below w.heap.size w w' :=
  (rrPage_any hs).mono fun e w' ho => ho.elim (fun h1 => by rw [h] at h1; cases h1.1) fun h1 => h1.2

theorem rrOf_bad {w : World} {v : Value} {O : List (Int × Int)} (hs : OwSl w v O) (g : Int) (h : ¬ ((0 ≤ g ∧ g < 12) ∧ allO O = true)) :
    Calls Try.prog 21 #[.int .i64 g, v] w fun e w' => e = .returned (.tuple #[.agg #[.int .i64 0, .slice none 0 0], .int .i64 1]) ∧ Below w.heap.size w w' := by
  have hb1 := below_box w (.cells #[.int .i64 0, .slice none 0 0] 34)
  have hr1 := heap_alloc_new w (.cells #[.int .i64 0, .slice none 0 0] 34)
  obtain ⟨w1, hw1⟩ : ∃ w1, w1 = w.alloc (.cells #[.int .i64 0, .slice none 0 0] 34) := ⟨_, rfl⟩
  rw [← hw1] at hb1 hr1
  have H1 := Lib.hid hw1.symm
  have HR1 := Lib.hid hr1
  have hs1 := hs.below hb1
  cases ha : allO O
  · have HA := Lib.hid (rrPage_not hs1 ha)
    clear hs hs1 h ha hw1 hr1
    by_cases g0 : g < 0
    all_goals (try (by_cases g1 : 11 < g))
    all_goals
      go_enter Try.func21, Try.ntmps21
      go_wp2_with (first
        | (go_at_call 14; rw [H1.out]; refine HA.out.mono ?_; rintro e w2 ⟨rfl, hb2⟩; have hr2 := below_hold HR1.out hb2)
        | (with_reducible refine wpList_store2 rfl 34 sizeRD (.tmp 4) (.tmp 25) rfl w.heap.size rfl _ _ _ _ rfl rfl rfl _ hr2 ?_; intro w3 hw3 hr3))
      exact bodyPost_ret (ret_cell2 rfl Try.underlying34 sizeRD _ _ w.heap.size _ _ _ _ rfl hr3 rfl) rfl ⟨rfl, (hb1.trans (hb2.mono hb1.size)).trans (hw3.below (Nat.le_refl _))⟩
  · have HA := Lib.hid (rrPage_is hs1 ha)
    have hg : g < 0 ∨ 11 < g := by
      by_cases g0 : 0 ≤ g ∧ g < 12
      · exact absurd ⟨g0, ha⟩ h
      · omega
    clear hs hs1 h ha hw1 hr1
    by_cases g0 : g < 0
    · clear hg
      go_enter Try.func21, Try.ntmps21
      go_wp2_with (first
        | (go_at_call 14; rw [H1.out]; refine HA.out.mono ?_; rintro e w2 ⟨v2, rfl, hs2, hb2⟩; have hr2 := below_hold HR1.out hb2)
        | (with_reducible refine wpList_store2 rfl 34 sizeRD (.tmp 4) (.tmp 25) rfl w.heap.size rfl _ _ _ _ rfl rfl rfl _ hr2 ?_; intro w3 hw3 hr3))
      exact bodyPost_ret (ret_cell2 rfl Try.underlying34 sizeRD _ _ w.heap.size _ _ _ _ rfl hr3 rfl) rfl ⟨rfl, (hb1.trans (hb2.mono hb1.size)).trans (hw3.below (Nat.le_refl _))⟩
    · have g1 : 11 < g := by omega
      clear hg
      go_enter Try.func21, Try.ntmps21
      go_wp2_with (first
        | (go_at_call 14; rw [H1.out]; refine HA.out.mono ?_; rintro e w2 ⟨v2, rfl, hs2, hb2⟩; have hr2 := below_hold HR1.out hb2)
        | (with_reducible refine wpList_store2 rfl 34 sizeRD (.tmp 4) (.tmp 25) rfl w.heap.size rfl _ _ _ _ rfl rfl rfl _ hr2 ?_; intro w3 hw3 hr3))
      exact bodyPost_ret (ret_cell2 rfl Try.underlying34 sizeRD _ _ w.heap.size _ _ _ _ rfl hr3 rfl) rfl ⟨rfl, (hb1.trans (hb2.mono hb1.size)).trans (hw3.below (Nat.le_refl _))⟩

theorem KR.wrote {w w' : World} {B g : Nat} {v : Value} {L : List Bool} (h : KR w B v L) (hw : Wrote w w' g) (hne : ∀ m, v.ownBlock = some m → m ≠ g) : KR w' B v L := by
  refine ⟨h.1, ?_⟩
  rcases h.2 with h | ⟨k, cap, cur, hv, hg, hh, r⟩
  · exact .inl h
  · exact .inr ⟨k, cap, cur, hv, hg, by rw [hw.2.2.2.2 k (hne k (by rw [hv]; rfl))]; exact hh, r⟩
theorem rrOf_step {w wr w3 : World} {gd gg cap : Nat} {g : Int} {vL : Value} {L : List Bool} {ub : Bool} {T : TypeId} {Z : Obj} (hd : wr.heap[gd]? = some (.cells #[.int .i64 g, vL] T (0, 0))) (hkr : KR wr (gd + 1) vL L)
    (hz : wr.heap[w.heap.size]? = some Z) (hwd : w.heap.size < gd) (hb : Below w.heap.size w wr) (hgrow : ((wr.alloc (.cells #[.bool ub] 4)).drew).grownBy w3 vL.ownBlock)
    (hown : w3.ownsRow (gd + 1) 4 1 (.slice (some ⟨gg, 0, none⟩) (L.length + 1) cap) (L.length + 1) (L.map Value.bool ++ [.bool ub])) :
    (w3.setCell ⟨gd, 1, none⟩ (.slice (some ⟨gg, 0, none⟩) (L.length + 1) cap)).heap[gd]? = some (.cells #[.int .i64 g, .slice (some ⟨gg, 0, none⟩) (L.length + 1) cap] T (0, 0)) ∧
    KR (w3.setCell ⟨gd, 1, none⟩ (.slice (some ⟨gg, 0, none⟩) (L.length + 1) cap)) (gd + 1) (.slice (some ⟨gg, 0, none⟩) (L.length + 1) cap) (L ++ [ub]) ∧
    (w3.setCell ⟨gd, 1, none⟩ (.slice (some ⟨gg, 0, none⟩) (L.length + 1) cap)).heap[w.heap.size]? = some Z ∧ Below w.heap.size w (w3.setCell ⟨gd, 1, none⟩ (.slice (some ⟨gg, 0, none⟩) (L.length + 1) cap)) := by
  have hlt1 : gd < wr.heap.size := (Array.getElem?_eq_some_iff.1 hd).1
  have hune : ∀ m, vL.ownBlock = some m → gd + 1 ≤ m := fun m hm => (World.ownsRow.lt hkr m hm).1
  have hbx : Below wr.heap.size wr (wr.alloc (.cells #[.bool ub] 4)).drew := (below_box _ _).drew
  have old : ∀ k, k ≤ gd → w3.heap[k]? = wr.heap[k]? := fun k hk => by
    rw [hgrow.block k (by simp; omega) (fun e => by have := hune k e.symm; omega)]
    exact hbx.block k (by omega)
  refine ⟨?_, ?_, ?_, ?_⟩
  · rw [heap_setCell_same w3 gd 1 _ _ _ ((old gd (Nat.le_refl _)).trans hd)]; rfl
  · rcases hown.2 with ⟨hv, _⟩ | ⟨g', cap', cur, hv, hg, hh, r⟩
    · simp at hv
    · obtain ⟨rfl, rfl⟩ : gg = g' ∧ cap = cap' := by simpa using hv
      have e : (L ++ [ub]).length = L.length + 1 := by simp
      rw [KR, e, List.map_append]
      exact ⟨hown.1, .inr ⟨gg, cap, cur, rfl, hg, by rw [heap_setCell_other w3 ⟨gd, 1, none⟩ gg _ (show gg ≠ gd by omega)]; exact hh, r⟩⟩
  · rw [heap_setCell_other w3 ⟨gd, 1, none⟩ _ _ (show w.heap.size ≠ gd by omega), old _ (by omega)]; exact hz
  · have hb3 : Below w.heap.size w w3 := (hb.trans (hbx.mono hb.size)).grown hgrow (by simp; have := hb.size; omega) (fun k hk => by have := hune k hk; omega)
    exact hb3.setCell (p := ⟨gd, 1, none⟩) (by show w.heap.size ≤ gd; omega) _

set_option maxHeartbeats 2000000 in
theorem rrOf_good {w : World} {v : Value} {O : List (Int × Int)} (hs : OwSl w v O) (g : Int) (hg1 : 0 ≤ g) (hg2 : g < 12) (ha : allO O = true) :
    Calls Try.prog 21 #[.int .i64 g, v] w fun e w' => ∃ v, e = .returned (.tuple #[.agg #[.int .i64 g, v], .int .i64 0]) ∧ KR w' w.heap.size v (usedK O 64) ∧ Below w.heap.size w w' := by
  have hb1 := below_box w (.cells #[.int .i64 0, .slice none 0 0] 34)
  have hr1 := heap_alloc_new w (.cells #[.int .i64 0, .slice none 0 0] 34)
  obtain ⟨w1, hw1⟩ : ∃ w1, w1 = w.alloc (.cells #[.int .i64 0, .slice none 0 0] 34) := ⟨_, rfl⟩
  rw [← hw1] at hb1 hr1
  have hz1 : w.heap.size < w1.heap.size := by rw [hw1]; simp
  have H1 := Lib.hid hw1.symm
  have HR1 := Lib.hid hr1
  have hs1 := hs.below hb1
  have HA := Lib.hid (rrPage_is hs1 ha)
  have hO := allO_len ha
  obtain ⟨b, off, cap, rfl, hb, hc⟩ := hs.at (by omega)
  have HC := Lib.hid hc
  have HBB := Lib.hid hs.1
  have HO := Lib.hid hO
  have g1 : ¬ 11 < g := by omega
  have g0 : ¬ g < 0 := by omega
  rw [hO] at HA ⊢
  clear hs hs1 hw1 ha hc hO hr1
  go_enter Try.func21, Try.ntmps21
  go_wp2_with (first
    | (go_at_call 14; rw [H1.out]; refine HA.out.mono ?_; rintro e w2 ⟨v2, rfl, hs2, hb2⟩; have hr2 := below_hold HR1.out hb2))
  have hb3 := below_box w2 (.cells #[.int .i64 g, .slice none 0 0] 34)
  have hd3 := heap_alloc_new w2 (.cells #[.int .i64 g, .slice none 0 0] 34)
  generalize w2.alloc (.cells #[.int .i64 g, .slice none 0 0] 34) = w3 at hb3 hd3 ⊢
  have hr3 := below_hold hr2 hb3
  obtain ⟨gd, hgd⟩ : ∃ gd, gd = w2.heap.size := ⟨_, rfl⟩
  rw [← hgd] at hd3 ⊢
  have hwd : w.heap.size < gd := by have := hb2.size; omega
  have hb03 : Below w.heap.size w w3 := (hb1.trans (hb2.mono hb1.size)).trans (hb3.mono (by omega))
  have hdl : gd < w3.heap.size := (Array.getElem?_eq_some_iff.1 hd3).1
  have HD3 := Lib.hid hd3
  have HR3 := Lib.hid hr3
  clear hd3 hr3 hr2 hb3 hb2 hs2 hgd
  go_loopw [30] (fun i wr => ∃ k : Nat, k ≤ 64 ∧ i = .int .i64 k ∧ ∃ vL, Hid (wr.heap[gd]? = some (.cells #[.int .i64 g, vL] 34 (0, 0))) ∧ Hid (KR wr (gd + 1) vL (usedK O k)) ∧ Hid (wr.heap[w.heap.size]? = some (.cells #[.int .i64 0, .slice none 0 0] 34 (0, 0))) ∧ Below w.heap.size w wr) (fun i _ => 64 - (intOf i).toNat)
  case atStart => exact ⟨0, by omega, rfl, _, HD3, kr_nil _ _, HR3, hb03⟩
  case round =>
    obtain ⟨k, hk, rfl, vL, HD, HKR, HRC, hbr⟩ := hrel
    clear HD3 HR3 hb03
    by_cases hlt : k < 64
    · have hck := HC.out k (by rw [HO.out]; exact hlt)
      have hbd := HBB.out k
      have hus : usedJ O k = decide ((O.getD k (0, 0)).1 ≠ 0) := rfl
      have hsu := usedK_succ O k
      obtain ⟨x, hx⟩ : ∃ x, x = (O.getD k (0, 0)).1 := ⟨_, rfl⟩
      rw [← hx] at hck hbd hus
      have c1 := (hbr.cell (p := ⟨b, off + k * 2, none⟩) hb).trans hck.1
      have c2 : wr.cell? ⟨gd, 1, none⟩ = some vL := by rw [cell_of_row _ _ _ _ _ _ HD.out]; rfl
      have ek : (k : Int) < 64 := by omega
      obtain ⟨ub, hub⟩ : ∃ ub, ub = usedJ O k := ⟨_, rfl⟩
      rw [← hub] at hsu hus
      have hxb : (x != 0) = ub := by rw [hus]; by_cases h0 : x = 0 <;> simp [h0]
      have HSU := Lib.hid hsu
      have HUL := Lib.hid (usedK_length O k)
      clear hx hck hus hub hsu
      obtain ⟨i, hi1, hi2, hi3, hi4⟩ := info_parts infoBool
      have hzz : (Value.bool false).cells.size = 1 := rfl
      have hlt1 : gd < wr.heap.size := (Array.getElem?_eq_some_iff.1 HD.out).1
      have hune : ∀ m, vL.ownBlock = some m → gd + 1 ≤ m := fun m hm => (World.ownsRow.lt HKR.out m hm).1
      have hune' : some gd ≠ vL.ownBlock := fun e => by have := hune gd e.symm; omega
      have fz : wr.frozen? ⟨gd, 1, none⟩ = false := frozen_of_row _ _ _ _ _ HD.out
      have hc3 : ∀ w3, ((wr.alloc (.cells #[.bool ub] 4)).drew).grownBy w3 vL.ownBlock → w3.cell? ⟨gd, 1, none⟩ = some vL ∧ w3.frozen? ⟨gd, 1, none⟩ = false := fun w3 hg => by
        have hlt' : gd < ((wr.alloc (.cells #[.bool ub] 4)).drew).heap.size := by simp; omega
        rw [hg.cell_far _ hlt' hune', hg.frozen_far _ hlt' hune']
        exact ⟨by rw [World.cell?_drew, World.cell?_alloc_lt _ _ _ hlt1]; exact c2, by rw [World.frozen?_drew, World.frozen?_alloc_past _ _ _ hlt1]; exact fz⟩
      have HC3 := Lib.hid hc3
      have HUNE := Lib.hid hune
      have hlb : (usedK O k).length ≤ 64 := by rw [HUL.out]; exact hk
      have hcu1 : ∀ u ∈ [Value.bool ub], u.oneCell' = true := fun u hu => by simp at hu; subst hu; rfl
      clear hc3 hune hune'
      go_wp2
      go_region_law
        ((refine step_append_lies _ (by rfl) _ _ _ (by rfl) (gd + 1) 4 i _ 1 1 Try.underlying22 hi1 hi2 hi3 hi4 hzz (by omega) vL (usedK O k).length ((usedK O k).map Value.bool) (by rfl) ((HKR.out.alloc _).drew)
            ⟨wr.heap.size, 0, none⟩ 1 1 [Value.bool ub] (by rfl) (by rfl) (World.news_of_block (cs := #[Value.bool ub]) (t := 4) (fr := (0, 0)) (heap_alloc_new wr _)) hcu1
            (by omega) (by simp only [maxLen]; omega) (by omega) (by simp; omega) (wr.heap.size + 1) (by simp) ?_; intro gg cap w3 hown3 hgrow hat hltg; obtain ⟨c3, f3⟩ := HC3.out w3 hgrow))
      all_goals
        have HST := Lib.hid (rrOf_step HD.out HKR.out HRC.out hwd hbr hgrow hown3)
        clear hown3 hgrow hat
        go_wp2
        go_roundw
        case rel => exact ⟨k + 1, by omega, by go_num, _, HST.out.1, by show KR _ _ _ (usedK O (k + 1)); rw [HSU.out]; exact HST.out.2.1, HST.out.2.2.1, HST.out.2.2.2⟩
        case measure => simp [intOf]; omega
    · obtain rfl : k = 64 := by omega
      have d0 : wr.cell? ⟨gd, 0, none⟩ = some (.int .i64 g) := by rw [cell_of_row _ _ _ _ _ _ HD.out]; rfl
      have d1 : wr.cell? ⟨gd, 1, none⟩ = some vL := by rw [cell_of_row _ _ _ _ _ _ HD.out]; rfl
      have hrc := HRC.out
      obtain ⟨aL, cL, rfl⟩ := HKR.out.ksl.shape
      go_wp2_with (with_reducible refine wpList_store2 rfl 34 sizeRD (.tmp 4) (.tmp 45) rfl w.heap.size rfl _ _ _ _ rfl rfl rfl _ hrc ?_; intro w5 hw5 hr5)
      refine bodyPost_ret (ret_cell2 rfl Try.underlying34 sizeRD _ _ w.heap.size _ _ _ _ rfl hr5 rfl) rfl ⟨_, rfl, ?_, hbr.trans (hw5.below (Nat.le_refl _))⟩
      exact (HKR.out.more (by omega)).wrote hw5 (fun m hm => by have := (World.ownsRow.lt HKR.out m hm).1; omega)
theorem rrOf_any {w : World} {v : Value} {O : List (Int × Int)} (hs : OwSl w v O) (g : Int) : Calls Try.prog 21 #[.int .i64 g, v] w (ROfOut g O w) := by
  by_cases h : (0 ≤ g ∧ g < 12) ∧ allO O = true
  · exact (rrOf_good hs g h.1.1 h.1.2 h.2).mono fun e w' he => .inl ⟨h, he⟩
  · exact (rrOf_bad hs g h).mono fun e w' he => .inr ⟨h, he⟩
end Go.Proofs.Ytflkggoknmgbnaa
