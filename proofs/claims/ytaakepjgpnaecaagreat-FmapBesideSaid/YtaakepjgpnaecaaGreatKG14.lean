/- What the law rests on: part 14. -/
import Derived.Test.YtaakepjgpnaecaaGreatKG13
set_option linter.unusedVariables false
namespace Go.Proofs.YtaakepjgpnaecaaGreat
set_option maxRecDepth 100000
open Go.RowKit BM
def preN (f : Nat → Bool) (c L : Nat) : List Bool := (List.range L).map fun i => if i < c then f i else false
theorem preN_length (f : Nat → Bool) (c L : Nat) : (preN f c L).length = L := by simp [preN]
theorem preN_set (f : Nat → Bool) (c L : Nat) : (preN f c L).set c (f c) = preN f (c + 1) L := by
  apply List.ext_getElem (by simp [preN])
  intro i h1 h2
  simp only [preN, List.getElem_set, List.getElem_map, List.getElem_range]
  by_cases e : c = i
  · subst e; rw [if_pos rfl, if_pos (by omega)]
  · rw [if_neg e]
    by_cases h : i < c
    · rw [if_pos h, if_pos (by omega)]
    · rw [if_neg h, if_neg (by omega)]
theorem preN_zero (f : Nat → Bool) (L : Nat) : preN f 0 L = List.replicate L false := by
  rw [List.eq_replicate_iff]
  refine ⟨preN_length f 0 L, fun b hb => ?_⟩
  obtain ⟨i, _, rfl⟩ := List.mem_map.1 hb
  rw [if_neg (by omega)]
theorem preN_full (O : List (Int × Int)) (L : Nat) : preN (usedJ O) L L = usedK O L := by
  unfold preN usedK
  apply List.map_congr_left
  intro i hi
  rw [if_pos (List.mem_range.1 hi)]
section
variable {w : World} {P : Nat → Prop} {d p : Value} {X : XSt} {O : List (Int × Int)} {k : Nat}
theorem SInv.lt (h : SInv w P d p X) : ∀ k, P k → k < w.heap.size := by
  obtain ⟨_, _, _, _, _, _, _, _, _, _, _, _, _, _, _, hl⟩ := h
  exact hl
theorem SInv.low (h : SInv w P d p X) {W : World} (hb : Below w.heap.size w W) : SInv W P d p X := h.keep hb.size fun i hi => hb.block i (h.lt i hi)
theorem spRead_at {g : Nat} (h : SInv w P d p X) (hH : Has X.cur O k) (hO : OOk O k) (hg : g < k) :
    Calls Tryz.prog 28 #[p, .int .i64 g] w fun e w' => ∃ b cap, e = .returned (.tuple #[.slice (some ⟨b, 0, none⟩) 64 cap, .int .i64 0]) ∧ w.heap.size ≤ b ∧ b < w'.heap.size ∧ OwR w' w.heap.size (.slice (some ⟨b, 0, none⟩) 64 cap) (grO O g) ∧
      (∀ j, j < 64 → w'.cell? ⟨b, j * 2, none⟩ = some (.int .u16 ((grO O g).getD j (0, 0)).1) ∧ w'.cell? ⟨b, j * 2 + 1, none⟩ = some (.int .u16 ((grO O g).getD j (0, 0)).2)) ∧ Below w.heap.size w w' := by
  refine (spRead_of h hH hO hg).mono fun e w' ⟨v, he, hv, hb⟩ => ?_
  have hl := grO_length hO.len hg
  obtain ⟨b, cap, rfl⟩ := ow_len hv 64 hl (by decide)
  obtain ⟨b', off, cap', e1, hbl, hc⟩ := hv.sl.at (by omega)
  injection e1 with e1 _ _
  injection e1 with e1
  injection e1 with e1 e2
  subst e1; subst e2
  exact ⟨b, cap, he, (World.ownsRow.lt hv.2 b rfl).1, hbl, hv, fun j hj => by have := hc j (by omega); rwa [Nat.zero_add] at this, hb⟩
theorem spUB_yes (h : SInv w P d p X) (hH : Has X.cur O k) (hO : OOk O k) {m : Nat} (hm1 : 1 ≤ m) (hm : m ≤ k) :
    Calls Tryz.prog 24 #[p, .int .i64 (64 * (m : Int))] w fun e w' => ∃ q r, e = .returned (.tuple #[.pointer (some ⟨q, 0, none⟩), .int .i64 0]) ∧ BRow w' q r (usedK O (64 * m)) ∧ Below w.heap.size w w' := by
  have h12 := hO.k12
  have KF := Lib.hid (fun (W : World) => gFormed_yes m hm1 (by omega) W)
  have KG := Lib.hid (fun (W : World) => gGroups_yes m hm1 (by omega) W)
  have KN := Lib.hid (bNew_len (64 * m) (by omega) w)
  rw [show ((64 * m : Nat) : Int) = 64 * (m : Int) by omega] at KN
  have KR : Hid (∀ (W : World), Below w.heap.size w W → ∀ g, g < m → Calls Tryz.prog 28 #[p, .int .i64 g] W fun e w' => ∃ b cap, e = .returned (.tuple #[.slice (some ⟨b, 0, none⟩) 64 cap, .int .i64 0]) ∧ W.heap.size ≤ b ∧ b < w'.heap.size ∧
      (∀ j, j < 64 → w'.cell? ⟨b, j * 2, none⟩ = some (.int .u16 ((grO O g).getD j (0, 0)).1) ∧ w'.cell? ⟨b, j * 2 + 1, none⟩ = some (.int .u16 ((grO O g).getD j (0, 0)).2)) ∧ Below W.heap.size W w') := Lib.hid fun W hb g hg => (spRead_at (h.low hb) hH hO (show g < k by omega)).mono fun e w' ⟨b, cap, h1, h2, h3, _, h4, h5⟩ => ⟨b, cap, h1, h2, h3, h4, h5⟩
  have HU : Hid (∀ g j x y, j < 64 → g < m → x = ((grO O g).getD j (0, 0)).1 → y = ((grO O g).getD j (0, 0)).2 → freeP x y = !usedJ O (64 * g + j)) := Lib.hid fun g j x y hj hg ex ey => by
    have e1 := grO_getD O g hj
    have hf := hO.frm (64 * g + j) (by omega)
    rw [e1] at ex ey
    unfold frmJ at hf
    rw [← ex, ← ey] at hf
    unfold usedJ
    rw [← ex]
    by_cases hx : x = 0
    · rw [hx] at hf ⊢
      rw [frm_zero hf]; rfl
    · have hxb : (x == 0) = false := by simpa using hx
      rw [freeP, hxb, decide_eq_true hx]; rfl
  have hm12 : m ≤ 12 := by omega
  clear h hH hO h12 hm
  go_enter Tryz.func24, Tryz.ntmps24
  go_wp2_with (first
    | (go_at_call 59; refine (KF.out _).mono ?_; rintro e w' ⟨rfl, rfl⟩)
    | (go_at_call 61; refine (KG.out _).mono ?_; rintro e w' ⟨rfl, rfl⟩)
    | (go_at_call 60; refine KN.out.mono ?_; rintro e w1 ⟨rfl, hrow1, hb1⟩))
  obtain ⟨r, hr⟩ : ∃ r, r = w.heap.size := ⟨_, rfl⟩
  rw [← hr] at hrow1 ⊢
  obtain ⟨q, hq⟩ : ∃ q, q = r + 1 := ⟨_, rfl⟩
  rw [← hq] at hrow1 ⊢
  have hrq : r < q := by omega
  have hwr : w.heap.size ≤ r := by omega
  obtain ⟨L, hL⟩ : ∃ L, L = 64 * m := ⟨_, rfl⟩
  rw [← hL] at hrow1
  rw [← preN_zero (usedJ O)] at hrow1
  have HL0 := Lib.hid hL
  have HR1 : Hid (BRow w1 q r (preN (usedJ O) (64 * 0) L)) := Lib.hid hrow1
  have hb1' : Below w.heap.size w w1 := hb1
  clear hr hq hrow1 hL hb1
  go_loopw [19] (fun i wr => ∃ g : Nat, g ≤ m ∧ i = .int .i64 g ∧ Hid (BRow wr q r (preN (usedJ O) (64 * g) L)) ∧ Below w.heap.size w wr) (fun i _ => m - (intOf i).toNat)
  case atStart => exact ⟨0, by omega, rfl, HR1, hb1'⟩
  case round =>
    obtain ⟨g, hg, rfl, HROW, hbr⟩ := hrel
    clear HR1 hb1'
    by_cases hlt : g < m
    · have eg : (g : Int) < 12 := by omega
      have egm : (g : Int) < (m : Int) := by omega
      have KR1 := Lib.hid (KR.out wr hbr g hlt)
      have hrl := HROW.out.lt
      have HRLT := Lib.hid hrl
      clear hrl
      go_wp2_with (go_at_call 28; refine KR1.out.mono ?_; rintro e w2 ⟨b, cap, rfl, hbb, hbl, hc, hb2⟩)
      have hrow2 := HROW.out.below hb2 HRLT.out.1 HRLT.out.2
      have hb02 := hbr.trans (hb2.mono hbr.size)
      have hbq : q < b := by have := HRLT.out.1; omega
      have hbr' : r < b := by omega
      have HC := Lib.hid hc
      have HR2 : Hid (BRow w2 q r (preN (usedJ O) (64 * g + 0) L)) := Lib.hid hrow2
      clear hrow2 hc hb2 hbr HROW HRLT KR1
      go_loopw [33] (fun i wr => ∃ j : Nat, j ≤ 64 ∧ i = .int .i64 j ∧ Hid (BRow wr q r (preN (usedJ O) (64 * g + j) L)) ∧ Hid (wr.heap[b]? = w2.heap[b]?) ∧ Below w.heap.size w wr) (fun i _ => 64 - (intOf i).toNat)
      case atStart => exact ⟨0, by omega, rfl, HR2, Lib.hid rfl, hb02⟩
      case round =>
        obtain ⟨j, hj, rfl, HROW, HE, hbi⟩ := hrel
        clear HR2 hb02
        by_cases hjt : j < 64
        · have hck := HC.out j hjt
          have hfr := HU.out g j _ _ hjt hlt rfl rfl
          obtain ⟨x, hx⟩ : ∃ x, x = ((grO O g).getD j (0, 0)).1 := ⟨_, rfl⟩
          obtain ⟨y, hy⟩ : ∃ y, y = ((grO O g).getD j (0, 0)).2 := ⟨_, rfl⟩
          rw [← hx, ← hy] at hck
          rw [← hx, ← hy] at hfr
          have c1 := (World.cell?_of_block (a := ⟨b, j * 2, none⟩) (w := w2) HE.out).trans hck.1
          have c2 := (World.cell?_of_block (a := ⟨b, j * 2 + 1, none⟩) (w := w2) HE.out).trans hck.2
          have ej : (j : Int) < 64 := by omega
          have hrl := HROW.out.lt
          obtain ⟨U, hU⟩ : ∃ U, U = usedJ O (64 * g + j) := ⟨_, rfl⟩
          rw [← hU] at hfr
          have hps := preN_set (usedJ O) (64 * g + j) L
          rw [← hU] at hps
          have HPS := Lib.hid hps
          have hb3 := below_box wr (.cells #[.int .u16 x, .int .u16 y] 36)
          have KFr := Lib.hid (spFree_is x y (!U) hfr (wr.alloc (.cells #[.int .u16 x, .int .u16 y] 36)))
          have KS : Hid (∀ (W : World), BRow W q r (preN (usedJ O) (64 * g + j) L) → Calls Tryz.prog 62 #[.pointer (some ⟨q, 0, none⟩), .int .i64 ((g : Int) * 64 + j), .bool U] W fun e w' => e = .returned (.int .i64 0) ∧ BRow w' q r (preN (usedJ O) (64 * g + (j + 1)) L) ∧ Wrote W w' r) := Lib.hid fun W hr => by
            have := bSet_nat hr (64 * g + j) (by rw [preN_length, HL0.out]; omega) U
            rw [HPS.out] at this
            rw [show ((64 * g + j : Nat) : Int) = (g : Int) * 64 + j by omega] at this
            exact this
          have HROW3 := Lib.hid (HROW.out.below hb3 hrl.1 hrl.2)
          clear hx hy hck hfr hU hps HPS
          cases U
          all_goals
            go_wp2_with (first
              | (go_at_call 63; refine KFr.out.mono ?_; rintro e w4 ⟨rfl, hb4⟩; have hrow4 := HROW3.out.below hb4 (by have := hrl.1; simp; omega) (by have := hrl.2; simp; omega); have hb34 := hb3.trans (hb4.mono hb3.size))
              | (go_at_call 62; refine (KS.out _ hrow4).mono ?_; rintro e w5 ⟨rfl, hrow5, hw5⟩))
            go_roundw
            case rel =>
              refine ⟨j + 1, by omega, by go_num, hrow5, ?_, (hbi.trans (hb34.mono hbi.size)).trans (hw5.below (by omega))⟩
              have hbw : b < wr.heap.size := by
                have := (Array.getElem?_eq_some_iff.1 (HE.out.trans (Array.getElem?_eq_getElem hbl))).1
                exact this
              exact (hw5.2.2.2.2 _ (by omega)).trans ((hb34.block b hbw).trans HE.out)
            case measure => simp [intOf]; omega
        · obtain rfl : j = 64 := by omega
          have HROW' : Hid (BRow wr q r (preN (usedJ O) (64 * (g + 1)) L)) := Lib.hid (by rw [show 64 * (g + 1) = 64 * g + 64 by omega]; exact HROW.out)
          go_wp2
          go_roundw
          case rel => exact ⟨g + 1, by omega, by go_num, HROW', hbi⟩
          case measure => simp [intOf]; omega
    · obtain rfl : g = m := by omega
      have hrow := HROW.out
      rw [← HL0.out, preN_full] at hrow
      go_wp2
      go_ret2
      exact ⟨q, r, rfl, by rw [← HL0.out]; exact hrow, hbr⟩
end
end Go.Proofs.YtaakepjgpnaecaaGreat
namespace Go.Proofs.YtaakepjgpnaecaaGreat
set_option maxRecDepth 100000
open Go.RowKit
theorem sWithin5_any (n lo hi : Int) (w : World) : Calls Tryz.prog 199 #[.int .i64 n, .int .i64 lo, .int .i64 hi] w fun e w' => e = .returned (.bool (decide (lo ≤ n ∧ n ≤ hi))) ∧ w = w' := by
  by_cases h1 : lo ≤ n
  · by_cases h2 : n ≤ hi
    · rw [decide_eq_true ⟨h1, h2⟩]
      go_enter Tryz.func199, Tryz.ntmps199
      go_wp2
      go_ret
      exact ⟨rfl, rfl⟩
    · rw [decide_eq_false (fun h => h2 h.2)]
      go_enter Tryz.func199, Tryz.ntmps199
      go_wp2
      go_ret
      exact ⟨rfl, rfl⟩
  · rw [decide_eq_false (fun h => h1 h.1)]
    go_enter Tryz.func199, Tryz.ntmps199
    go_wp2
    go_ret
    exact ⟨rfl, rfl⟩
theorem sWithin5_is (n lo hi : Int) (B : Bool) (h : decide (lo ≤ n ∧ n ≤ hi) = B) (w : World) : Calls Tryz.prog 199 #[.int .i64 n, .int .i64 lo, .int .i64 hi] w fun e w' => e = .returned (.bool B) ∧ w = w' := by
  rw [← h]; exact sWithin5_any n lo hi w
theorem gFormed_is (b : Int) (hm : b ≤ 9223372036854775807) (B : Bool) (h : frmB b = B) (w : World) : Calls Tryz.prog 59 #[.int .i64 b] w fun e w' => e = .returned (.bool B) ∧ w = w' := by
  rw [← h]; exact gFormed_any b hm w
theorem rFormed_is (b : Int) (hm : b ≤ 9223372036854775807) (B : Bool) (h : frmB b = B) (w : World) : Calls Tryz.prog 129 #[.int .i64 b] w fun e w' => e = .returned (.bool B) ∧ w = w' := by
  rw [← h]; exact rFormed_any b hm w
theorem frm_div {b : Int} (h : frmB b = true) : 0 ≤ b ∧ b ≤ 768 ∧ grsI b = b / 64 := by
  have := of_decide_eq_true h
  exact ⟨by omega, by omega, by unfold grsI; rw [if_pos h]⟩
theorem gGroups_is (b : Int) (h : frmB b = true) (G : Int) (hG : G = b / 64) (w : World) : Calls Tryz.prog 61 #[.int .i64 b] w fun e w' => e = .returned (.int .i64 G) ∧ w = w' := by
  have := gGroups_any b (by have := frm_div h; omega) w
  rw [(frm_div h).2.2] at this
  rw [hG]; exact this
def st1g (G1 G2 b tg cu io ba : Int) : Bool := frmB tg && (decide (b < tg) && (decide (G1 ≤ cu ∧ cu ≤ G2) && ((io == 0) && (ba == 0))))
def st1r (b tg cu io ba : Int) : Bool := frmB tg && (decide (b < tg) && (decide (b / 64 ≤ cu) && (decide (cu ≤ tg / 64) && ((io == 0) && (ba == 0)))))
def st3r (b tg cu io ba : Int) : Bool := (tg == 0) && (decide (1 ≤ io) && (decide (io ≤ 47) && (decide (0 ≤ ba) && (decide (ba ≤ b) && (decide (0 ≤ cu) && (decide (cu ≤ b)))))))
theorem st1r_eq (b tg cu io ba : Int) : st1r b tg cu io ba = st1 b tg cu io ba := by simp [st1r, st1, Bool.decide_and, Bool.and_assoc]
theorem st3r_eq (b tg cu io ba : Int) : st3r b tg cu io ba = st3 b tg cu io ba := by simp [st3r, st3, Bool.decide_and, Bool.and_assoc]
set_option maxHeartbeats 2000000 in
theorem sState0 (b tg cu io ba t0 t1 t2 t3 t4 t5 : Int) (w : World)  : Calls Tryz.prog 185 #[.agg #[.int .i64 b, .int .i64 0, .int .i64 tg, .int .i64 cu, .int .i64 io, .int .i64 ba, .int .i64 t0, .int .i64 t1, .int .i64 t2, .int .i64 t3, .int .i64 t4, .int .i64 t5]] w fun e w' => e = .returned (.bool (st0 tg cu io ba)) ∧ Below w.heap.size w w' := by
  have HR : st0 tg cu io ba = ((tg == 0) && ((cu == 0) && ((io == 0) && ((ba == 0))))) := rfl
  rcases h0 : (tg == 0) with _ | _
  · replace HR : st0 tg cu io ba = false := by rw [HR, h0] <;> rfl
    rw [HR]; clear HR
    go_enter Tryz.func185, Tryz.ntmps185
    go_wp2
    go_ret
    exact ⟨rfl, below_box _ _⟩
  · rw [h0, Bool.true_and] at HR
    rcases h1 : (cu == 0) with _ | _
    · replace HR : st0 tg cu io ba = false := by rw [HR, h1] <;> rfl
      rw [HR]; clear HR
      go_enter Tryz.func185, Tryz.ntmps185
      go_wp2
      go_ret
      exact ⟨rfl, below_box _ _⟩
    · rw [h1, Bool.true_and] at HR
      rcases h2 : (io == 0) with _ | _
      · replace HR : st0 tg cu io ba = false := by rw [HR, h2] <;> rfl
        rw [HR]; clear HR
        go_enter Tryz.func185, Tryz.ntmps185
        go_wp2
        go_ret
        exact ⟨rfl, below_box _ _⟩
      · rw [h2, Bool.true_and] at HR
        rcases h3 : (ba == 0) with _ | _
        · replace HR : st0 tg cu io ba = false := by rw [HR, h3] <;> rfl
          rw [HR]; clear HR
          go_enter Tryz.func185, Tryz.ntmps185
          go_wp2
          go_ret
          exact ⟨rfl, below_box _ _⟩
        · rw [h3] at HR
          rw [HR]; clear HR
          go_enter Tryz.func185, Tryz.ntmps185
          go_wp2
          go_ret
          exact ⟨rfl, below_box _ _⟩
set_option maxHeartbeats 2000000 in
theorem rState0 (b tg cu io ba t0 t1 t2 t3 t4 t5 : Int) (w : World)  : Calls Tryz.prog 171 #[.agg #[.int .i64 b, .int .i64 0, .int .i64 tg, .int .i64 cu, .int .i64 io, .int .i64 ba, .int .i64 t0, .int .i64 t1, .int .i64 t2, .int .i64 t3, .int .i64 t4, .int .i64 t5]] w fun e w' => e = .returned (.bool (st0 tg cu io ba)) ∧ Below w.heap.size w w' := by
  have HR : st0 tg cu io ba = ((tg == 0) && ((cu == 0) && ((io == 0) && ((ba == 0))))) := rfl
  rcases h0 : (tg == 0) with _ | _
  · replace HR : st0 tg cu io ba = false := by rw [HR, h0] <;> rfl
    rw [HR]; clear HR
    go_enter Tryz.func171, Tryz.ntmps171
    go_wp2
    go_ret
    exact ⟨rfl, below_box _ _⟩
  · rw [h0, Bool.true_and] at HR
    rcases h1 : (cu == 0) with _ | _
    · replace HR : st0 tg cu io ba = false := by rw [HR, h1] <;> rfl
      rw [HR]; clear HR
      go_enter Tryz.func171, Tryz.ntmps171
      go_wp2
      go_ret
      exact ⟨rfl, below_box _ _⟩
    · rw [h1, Bool.true_and] at HR
      rcases h2 : (io == 0) with _ | _
      · replace HR : st0 tg cu io ba = false := by rw [HR, h2] <;> rfl
        rw [HR]; clear HR
        go_enter Tryz.func171, Tryz.ntmps171
        go_wp2
        go_ret
        exact ⟨rfl, below_box _ _⟩
      · rw [h2, Bool.true_and] at HR
        rcases h3 : (ba == 0) with _ | _
        · replace HR : st0 tg cu io ba = false := by rw [HR, h3] <;> rfl
          rw [HR]; clear HR
          go_enter Tryz.func171, Tryz.ntmps171
          go_wp2
          go_ret
          exact ⟨rfl, below_box _ _⟩
        · rw [h3] at HR
          rw [HR]; clear HR
          go_enter Tryz.func171, Tryz.ntmps171
          go_wp2
          go_ret
          exact ⟨rfl, below_box _ _⟩
set_option maxHeartbeats 2000000 in
theorem sState1g (b tg cu io ba t0 t1 t2 t3 t4 t5 : Int) (w : World) (hb : frmB b = true) (hm : tg ≤ 9223372036854775807) (G1 G2 : Int) (hG1 : G1 = b / 64) (hG2 : G2 = tg / 64) : Calls Tryz.prog 185 #[.agg #[.int .i64 b, .int .i64 1, .int .i64 tg, .int .i64 cu, .int .i64 io, .int .i64 ba, .int .i64 t0, .int .i64 t1, .int .i64 t2, .int .i64 t3, .int .i64 t4, .int .i64 t5]] w fun e w' => e = .returned (.bool (st1g G1 G2 b tg cu io ba)) ∧ Below w.heap.size w w' := by
  have HR : st1g G1 G2 b tg cu io ba = ((frmB tg) && ((decide (b < tg)) && ((decide (G1 ≤ cu ∧ cu ≤ G2)) && ((io == 0) && ((ba == 0)))))) := rfl
  rcases h0 : (frmB tg) with _ | _
  · replace HR : st1g G1 G2 b tg cu io ba = false := by rw [HR, h0] <;> rfl
    rw [HR]; clear HR
    have K0 := Lib.hid (gFormed_is tg hm false h0)
    clear h0
    clear hb hm hG1 hG2
    go_enter Tryz.func185, Tryz.ntmps185
    go_wp2
    have hB := below_box w (.cells #[.int .i64 b, .int .i64 1, .int .i64 tg, .int .i64 cu, .int .i64 io, .int .i64 ba, .int .i64 t0, .int .i64 t1, .int .i64 t2, .int .i64 t3, .int .i64 t4, .int .i64 t5] 155)
    have hh := heap_alloc_new w (.cells #[.int .i64 b, .int .i64 1, .int .i64 tg, .int .i64 cu, .int .i64 io, .int .i64 ba, .int .i64 t0, .int .i64 t1, .int .i64 t2, .int .i64 t3, .int .i64 t4, .int .i64 t5] 155)
    generalize w.alloc (.cells #[.int .i64 b, .int .i64 1, .int .i64 tg, .int .i64 cu, .int .i64 io, .int .i64 ba, .int .i64 t0, .int .i64 t1, .int .i64 t2, .int .i64 t3, .int .i64 t4, .int .i64 t5] 155) = W1 at hB hh ⊢
    have c0 : W1.cell? ⟨w.heap.size, 0, none⟩ = some (.int .i64 b) := by rw [cell_of_row _ _ _ _ _ _ hh]; rfl
    have c2 : W1.cell? ⟨w.heap.size, 2, none⟩ = some (.int .i64 tg) := by rw [cell_of_row _ _ _ _ _ _ hh]; rfl
    have c3 : W1.cell? ⟨w.heap.size, 3, none⟩ = some (.int .i64 cu) := by rw [cell_of_row _ _ _ _ _ _ hh]; rfl
    have c4 : W1.cell? ⟨w.heap.size, 4, none⟩ = some (.int .i64 io) := by rw [cell_of_row _ _ _ _ _ _ hh]; rfl
    have c5 : W1.cell? ⟨w.heap.size, 5, none⟩ = some (.int .i64 ba) := by rw [cell_of_row _ _ _ _ _ _ hh]; rfl
    clear hh
    go_quiet (first | (go_at_call 59; with_reducible refine quiet_back (K0.out _)))
    go_wp2
    go_ret
    exact ⟨rfl, below_drewN' hB _⟩
  · rw [h0, Bool.true_and] at HR
    have hK2 := Lib.hid (gGroups_is tg h0 G2 hG2)
    have K0 := Lib.hid (gFormed_is tg hm true h0)
    clear h0
    rcases h1 : (decide (b < tg)) with _ | _
    · replace HR : st1g G1 G2 b tg cu io ba = false := by rw [HR, h1] <;> rfl
      rw [HR]; clear HR
      have g1 : ¬ b < tg := of_decide_eq_false h1
      clear hb hm hG1 hG2
      go_enter Tryz.func185, Tryz.ntmps185
      go_wp2
      have hB := below_box w (.cells #[.int .i64 b, .int .i64 1, .int .i64 tg, .int .i64 cu, .int .i64 io, .int .i64 ba, .int .i64 t0, .int .i64 t1, .int .i64 t2, .int .i64 t3, .int .i64 t4, .int .i64 t5] 155)
      have hh := heap_alloc_new w (.cells #[.int .i64 b, .int .i64 1, .int .i64 tg, .int .i64 cu, .int .i64 io, .int .i64 ba, .int .i64 t0, .int .i64 t1, .int .i64 t2, .int .i64 t3, .int .i64 t4, .int .i64 t5] 155)
      generalize w.alloc (.cells #[.int .i64 b, .int .i64 1, .int .i64 tg, .int .i64 cu, .int .i64 io, .int .i64 ba, .int .i64 t0, .int .i64 t1, .int .i64 t2, .int .i64 t3, .int .i64 t4, .int .i64 t5] 155) = W1 at hB hh ⊢
      have c0 : W1.cell? ⟨w.heap.size, 0, none⟩ = some (.int .i64 b) := by rw [cell_of_row _ _ _ _ _ _ hh]; rfl
      have c2 : W1.cell? ⟨w.heap.size, 2, none⟩ = some (.int .i64 tg) := by rw [cell_of_row _ _ _ _ _ _ hh]; rfl
      have c3 : W1.cell? ⟨w.heap.size, 3, none⟩ = some (.int .i64 cu) := by rw [cell_of_row _ _ _ _ _ _ hh]; rfl
      have c4 : W1.cell? ⟨w.heap.size, 4, none⟩ = some (.int .i64 io) := by rw [cell_of_row _ _ _ _ _ _ hh]; rfl
      have c5 : W1.cell? ⟨w.heap.size, 5, none⟩ = some (.int .i64 ba) := by rw [cell_of_row _ _ _ _ _ _ hh]; rfl
      clear hh
      go_quiet (first | (go_at_call 59; with_reducible refine quiet_back (K0.out _)))
      go_wp2
      go_ret
      exact ⟨rfl, below_drewN' hB _⟩
    · rw [h1, Bool.true_and] at HR
      have g1 : b < tg := of_decide_eq_true h1
      rcases h2 : (decide (G1 ≤ cu ∧ cu ≤ G2)) with _ | _
      · replace HR : st1g G1 G2 b tg cu io ba = false := by rw [HR, h2] <;> rfl
        rw [HR]; clear HR
        have K1 := Lib.hid (gGroups_is b hb G1 hG1)
        have K2 := Lib.hid (hK2.out)
        have K3 := Lib.hid (sWithin5_is cu (G1) (G2) false h2)
        clear h2
        clear hb hm hG1 hG2
        go_enter Tryz.func185, Tryz.ntmps185
        go_wp2
        have hB := below_box w (.cells #[.int .i64 b, .int .i64 1, .int .i64 tg, .int .i64 cu, .int .i64 io, .int .i64 ba, .int .i64 t0, .int .i64 t1, .int .i64 t2, .int .i64 t3, .int .i64 t4, .int .i64 t5] 155)
        have hh := heap_alloc_new w (.cells #[.int .i64 b, .int .i64 1, .int .i64 tg, .int .i64 cu, .int .i64 io, .int .i64 ba, .int .i64 t0, .int .i64 t1, .int .i64 t2, .int .i64 t3, .int .i64 t4, .int .i64 t5] 155)
        generalize w.alloc (.cells #[.int .i64 b, .int .i64 1, .int .i64 tg, .int .i64 cu, .int .i64 io, .int .i64 ba, .int .i64 t0, .int .i64 t1, .int .i64 t2, .int .i64 t3, .int .i64 t4, .int .i64 t5] 155) = W1 at hB hh ⊢
        have c0 : W1.cell? ⟨w.heap.size, 0, none⟩ = some (.int .i64 b) := by rw [cell_of_row _ _ _ _ _ _ hh]; rfl
        have c2 : W1.cell? ⟨w.heap.size, 2, none⟩ = some (.int .i64 tg) := by rw [cell_of_row _ _ _ _ _ _ hh]; rfl
        have c3 : W1.cell? ⟨w.heap.size, 3, none⟩ = some (.int .i64 cu) := by rw [cell_of_row _ _ _ _ _ _ hh]; rfl
        have c4 : W1.cell? ⟨w.heap.size, 4, none⟩ = some (.int .i64 io) := by rw [cell_of_row _ _ _ _ _ _ hh]; rfl
        have c5 : W1.cell? ⟨w.heap.size, 5, none⟩ = some (.int .i64 ba) := by rw [cell_of_row _ _ _ _ _ _ hh]; rfl
        clear hh
        go_quiet (first | (go_at_call 59; with_reducible refine quiet_back (K0.out _)) | (go_at_call 61; with_reducible refine quiet_back (K1.out _)) | (go_at_call 61; with_reducible refine quiet_back (K2.out _)) | (go_at_call 199; with_reducible refine quiet_back (K3.out _)))
        go_wp2
        go_ret
        exact ⟨rfl, below_drewN' hB _⟩
      · rw [h2, Bool.true_and] at HR
        have K1 := Lib.hid (gGroups_is b hb G1 hG1)
        have K2 := Lib.hid (hK2.out)
        have K3 := Lib.hid (sWithin5_is cu (G1) (G2) true h2)
        clear h2
        rcases h3 : (io == 0) with _ | _
        · replace HR : st1g G1 G2 b tg cu io ba = false := by rw [HR, h3] <;> rfl
          rw [HR]; clear HR
          clear hb hm hG1 hG2
          go_enter Tryz.func185, Tryz.ntmps185
          go_wp2
          have hB := below_box w (.cells #[.int .i64 b, .int .i64 1, .int .i64 tg, .int .i64 cu, .int .i64 io, .int .i64 ba, .int .i64 t0, .int .i64 t1, .int .i64 t2, .int .i64 t3, .int .i64 t4, .int .i64 t5] 155)
          have hh := heap_alloc_new w (.cells #[.int .i64 b, .int .i64 1, .int .i64 tg, .int .i64 cu, .int .i64 io, .int .i64 ba, .int .i64 t0, .int .i64 t1, .int .i64 t2, .int .i64 t3, .int .i64 t4, .int .i64 t5] 155)
          generalize w.alloc (.cells #[.int .i64 b, .int .i64 1, .int .i64 tg, .int .i64 cu, .int .i64 io, .int .i64 ba, .int .i64 t0, .int .i64 t1, .int .i64 t2, .int .i64 t3, .int .i64 t4, .int .i64 t5] 155) = W1 at hB hh ⊢
          have c0 : W1.cell? ⟨w.heap.size, 0, none⟩ = some (.int .i64 b) := by rw [cell_of_row _ _ _ _ _ _ hh]; rfl
          have c2 : W1.cell? ⟨w.heap.size, 2, none⟩ = some (.int .i64 tg) := by rw [cell_of_row _ _ _ _ _ _ hh]; rfl
          have c3 : W1.cell? ⟨w.heap.size, 3, none⟩ = some (.int .i64 cu) := by rw [cell_of_row _ _ _ _ _ _ hh]; rfl
          have c4 : W1.cell? ⟨w.heap.size, 4, none⟩ = some (.int .i64 io) := by rw [cell_of_row _ _ _ _ _ _ hh]; rfl
          have c5 : W1.cell? ⟨w.heap.size, 5, none⟩ = some (.int .i64 ba) := by rw [cell_of_row _ _ _ _ _ _ hh]; rfl
          clear hh
          go_quiet (first | (go_at_call 59; with_reducible refine quiet_back (K0.out _)) | (go_at_call 61; with_reducible refine quiet_back (K1.out _)) | (go_at_call 61; with_reducible refine quiet_back (K2.out _)) | (go_at_call 199; with_reducible refine quiet_back (K3.out _)))
          go_wp2
          go_ret
          exact ⟨rfl, below_drewN' hB _⟩
        · rw [h3, Bool.true_and] at HR
          rcases h4 : (ba == 0) with _ | _
          · replace HR : st1g G1 G2 b tg cu io ba = false := by rw [HR, h4] <;> rfl
            rw [HR]; clear HR
            clear hb hm hG1 hG2
            go_enter Tryz.func185, Tryz.ntmps185
            go_wp2
            have hB := below_box w (.cells #[.int .i64 b, .int .i64 1, .int .i64 tg, .int .i64 cu, .int .i64 io, .int .i64 ba, .int .i64 t0, .int .i64 t1, .int .i64 t2, .int .i64 t3, .int .i64 t4, .int .i64 t5] 155)
            have hh := heap_alloc_new w (.cells #[.int .i64 b, .int .i64 1, .int .i64 tg, .int .i64 cu, .int .i64 io, .int .i64 ba, .int .i64 t0, .int .i64 t1, .int .i64 t2, .int .i64 t3, .int .i64 t4, .int .i64 t5] 155)
            generalize w.alloc (.cells #[.int .i64 b, .int .i64 1, .int .i64 tg, .int .i64 cu, .int .i64 io, .int .i64 ba, .int .i64 t0, .int .i64 t1, .int .i64 t2, .int .i64 t3, .int .i64 t4, .int .i64 t5] 155) = W1 at hB hh ⊢
            have c0 : W1.cell? ⟨w.heap.size, 0, none⟩ = some (.int .i64 b) := by rw [cell_of_row _ _ _ _ _ _ hh]; rfl
            have c2 : W1.cell? ⟨w.heap.size, 2, none⟩ = some (.int .i64 tg) := by rw [cell_of_row _ _ _ _ _ _ hh]; rfl
            have c3 : W1.cell? ⟨w.heap.size, 3, none⟩ = some (.int .i64 cu) := by rw [cell_of_row _ _ _ _ _ _ hh]; rfl
            have c4 : W1.cell? ⟨w.heap.size, 4, none⟩ = some (.int .i64 io) := by rw [cell_of_row _ _ _ _ _ _ hh]; rfl
            have c5 : W1.cell? ⟨w.heap.size, 5, none⟩ = some (.int .i64 ba) := by rw [cell_of_row _ _ _ _ _ _ hh]; rfl
            clear hh
            go_quiet (first | (go_at_call 59; with_reducible refine quiet_back (K0.out _)) | (go_at_call 61; with_reducible refine quiet_back (K1.out _)) | (go_at_call 61; with_reducible refine quiet_back (K2.out _)) | (go_at_call 199; with_reducible refine quiet_back (K3.out _)))
            go_wp2
            go_ret
            exact ⟨rfl, below_drewN' hB _⟩
          · rw [h4] at HR
            rw [HR]; clear HR
            clear hb hm hG1 hG2
            go_enter Tryz.func185, Tryz.ntmps185
            go_wp2
            have hB := below_box w (.cells #[.int .i64 b, .int .i64 1, .int .i64 tg, .int .i64 cu, .int .i64 io, .int .i64 ba, .int .i64 t0, .int .i64 t1, .int .i64 t2, .int .i64 t3, .int .i64 t4, .int .i64 t5] 155)
            have hh := heap_alloc_new w (.cells #[.int .i64 b, .int .i64 1, .int .i64 tg, .int .i64 cu, .int .i64 io, .int .i64 ba, .int .i64 t0, .int .i64 t1, .int .i64 t2, .int .i64 t3, .int .i64 t4, .int .i64 t5] 155)
            generalize w.alloc (.cells #[.int .i64 b, .int .i64 1, .int .i64 tg, .int .i64 cu, .int .i64 io, .int .i64 ba, .int .i64 t0, .int .i64 t1, .int .i64 t2, .int .i64 t3, .int .i64 t4, .int .i64 t5] 155) = W1 at hB hh ⊢
            have c0 : W1.cell? ⟨w.heap.size, 0, none⟩ = some (.int .i64 b) := by rw [cell_of_row _ _ _ _ _ _ hh]; rfl
            have c2 : W1.cell? ⟨w.heap.size, 2, none⟩ = some (.int .i64 tg) := by rw [cell_of_row _ _ _ _ _ _ hh]; rfl
            have c3 : W1.cell? ⟨w.heap.size, 3, none⟩ = some (.int .i64 cu) := by rw [cell_of_row _ _ _ _ _ _ hh]; rfl
            have c4 : W1.cell? ⟨w.heap.size, 4, none⟩ = some (.int .i64 io) := by rw [cell_of_row _ _ _ _ _ _ hh]; rfl
            have c5 : W1.cell? ⟨w.heap.size, 5, none⟩ = some (.int .i64 ba) := by rw [cell_of_row _ _ _ _ _ _ hh]; rfl
            clear hh
            go_quiet (first | (go_at_call 59; with_reducible refine quiet_back (K0.out _)) | (go_at_call 61; with_reducible refine quiet_back (K1.out _)) | (go_at_call 61; with_reducible refine quiet_back (K2.out _)) | (go_at_call 199; with_reducible refine quiet_back (K3.out _)))
            go_wp2
            go_ret
            exact ⟨rfl, below_drewN' hB _⟩
set_option maxHeartbeats 2000000 in
theorem sState2 (b tg cu io ba t0 t1 t2 t3 t4 t5 : Int) (w : World) (hb : frmB b = true) (hm : tg ≤ 9223372036854775807) : Calls Tryz.prog 185 #[.agg #[.int .i64 b, .int .i64 2, .int .i64 tg, .int .i64 cu, .int .i64 io, .int .i64 ba, .int .i64 t0, .int .i64 t1, .int .i64 t2, .int .i64 t3, .int .i64 t4, .int .i64 t5]] w fun e w' => e = .returned (.bool (st2 b tg cu io ba)) ∧ Below w.heap.size w w' := by
  have hb0 : 0 ≤ b := (frm_div hb).1
  have hb1 : b ≤ 768 := (frm_div hb).2.1
  have HR : st2 b tg cu io ba = ((frmB tg) && ((decide (tg < b)) && ((cu == 0) && ((io == 0) && ((ba == 0)))))) := rfl
  rcases h0 : (frmB tg) with _ | _
  · replace HR : st2 b tg cu io ba = false := by rw [HR, h0] <;> rfl
    rw [HR]; clear HR
    have K0 := Lib.hid (gFormed_is tg hm false h0)
    clear h0
    clear hb hm
    go_enter Tryz.func185, Tryz.ntmps185
    go_wp2_with (first | (go_at_call 59; with_reducible refine (K0.out _).mono ?_; rintro e w' ⟨rfl, rfl⟩))
    go_ret
    exact ⟨rfl, below_box _ _⟩
  · rw [h0, Bool.true_and] at HR
    have ht0 : 0 ≤ tg := (frm_div h0).1
    have ht1 : tg ≤ 768 := (frm_div h0).2.1
    have K0 := Lib.hid (gFormed_is tg hm true h0)
    clear h0
    rcases h1 : (decide (tg < b)) with _ | _
    · replace HR : st2 b tg cu io ba = false := by rw [HR, h1] <;> rfl
      rw [HR]; clear HR
      have g1 : ¬ tg < b := of_decide_eq_false h1
      clear hb hm
      go_enter Tryz.func185, Tryz.ntmps185
      go_wp2_with (first | (go_at_call 59; with_reducible refine (K0.out _).mono ?_; rintro e w' ⟨rfl, rfl⟩))
      go_ret
      exact ⟨rfl, below_box _ _⟩
    · rw [h1, Bool.true_and] at HR
      have g1 : tg < b := of_decide_eq_true h1
      rcases h2 : (cu == 0) with _ | _
      · replace HR : st2 b tg cu io ba = false := by rw [HR, h2] <;> rfl
        rw [HR]; clear HR
        clear hb hm
        go_enter Tryz.func185, Tryz.ntmps185
        go_wp2_with (first | (go_at_call 59; with_reducible refine (K0.out _).mono ?_; rintro e w' ⟨rfl, rfl⟩))
        go_ret
        exact ⟨rfl, below_box _ _⟩
      · rw [h2, Bool.true_and] at HR
        rcases h3 : (io == 0) with _ | _
        · replace HR : st2 b tg cu io ba = false := by rw [HR, h3] <;> rfl
          rw [HR]; clear HR
          clear hb hm
          go_enter Tryz.func185, Tryz.ntmps185
          go_wp2_with (first | (go_at_call 59; with_reducible refine (K0.out _).mono ?_; rintro e w' ⟨rfl, rfl⟩))
          go_ret
          exact ⟨rfl, below_box _ _⟩
        · rw [h3, Bool.true_and] at HR
          rcases h4 : (ba == 0) with _ | _
          · replace HR : st2 b tg cu io ba = false := by rw [HR, h4] <;> rfl
            rw [HR]; clear HR
            clear hb hm
            go_enter Tryz.func185, Tryz.ntmps185
            go_wp2_with (first | (go_at_call 59; with_reducible refine (K0.out _).mono ?_; rintro e w' ⟨rfl, rfl⟩))
            go_ret
            exact ⟨rfl, below_box _ _⟩
          · rw [h4] at HR
            rw [HR]; clear HR
            clear hb hm
            go_enter Tryz.func185, Tryz.ntmps185
            go_wp2_with (first | (go_at_call 59; with_reducible refine (K0.out _).mono ?_; rintro e w' ⟨rfl, rfl⟩))
            go_ret
            exact ⟨rfl, below_box _ _⟩
set_option maxHeartbeats 2000000 in
theorem sState3 (b tg cu io ba t0 t1 t2 t3 t4 t5 : Int) (w : World) (hb : frmB b = true) (hm : tg ≤ 9223372036854775807) : Calls Tryz.prog 185 #[.agg #[.int .i64 b, .int .i64 3, .int .i64 tg, .int .i64 cu, .int .i64 io, .int .i64 ba, .int .i64 t0, .int .i64 t1, .int .i64 t2, .int .i64 t3, .int .i64 t4, .int .i64 t5]] w fun e w' => e = .returned (.bool (st3 b tg cu io ba)) ∧ Below w.heap.size w w' := by
  have HR : st3 b tg cu io ba = ((tg == 0) && ((decide (1 ≤ io ∧ io ≤ 47)) && ((decide (0 ≤ ba ∧ ba ≤ b)) && ((decide (0 ≤ cu ∧ cu ≤ b)))))) := rfl
  rcases h0 : (tg == 0) with _ | _
  · replace HR : st3 b tg cu io ba = false := by rw [HR, h0] <;> rfl
    rw [HR]; clear HR
    clear hb hm
    go_enter Tryz.func185, Tryz.ntmps185
    go_wp2
    go_ret
    exact ⟨rfl, below_box _ _⟩
  · rw [h0, Bool.true_and] at HR
    rcases h1 : (decide (1 ≤ io ∧ io ≤ 47)) with _ | _
    · replace HR : st3 b tg cu io ba = false := by rw [HR, h1] <;> rfl
      rw [HR]; clear HR
      have K0 := Lib.hid (sWithin5_is io (1) (47) false h1)
      clear h1
      clear hb hm
      go_enter Tryz.func185, Tryz.ntmps185
      go_wp2_with (first | (go_at_call 199; with_reducible refine (K0.out _).mono ?_; rintro e w' ⟨rfl, rfl⟩))
      go_ret
      exact ⟨rfl, below_box _ _⟩
    · rw [h1, Bool.true_and] at HR
      have K0 := Lib.hid (sWithin5_is io (1) (47) true h1)
      clear h1
      rcases h2 : (decide (0 ≤ ba ∧ ba ≤ b)) with _ | _
      · replace HR : st3 b tg cu io ba = false := by rw [HR, h2] <;> rfl
        rw [HR]; clear HR
        have K1 := Lib.hid (sWithin5_is ba (0) (b) false h2)
        clear h2
        clear hb hm
        go_enter Tryz.func185, Tryz.ntmps185
        go_wp2_with (first | (go_at_call 199; with_reducible refine (K0.out _).mono ?_; rintro e w' ⟨rfl, rfl⟩) | (go_at_call 199; with_reducible refine (K1.out _).mono ?_; rintro e w' ⟨rfl, rfl⟩))
        go_ret
        exact ⟨rfl, below_box _ _⟩
      · rw [h2, Bool.true_and] at HR
        have K1 := Lib.hid (sWithin5_is ba (0) (b) true h2)
        clear h2
        rcases h3 : (decide (0 ≤ cu ∧ cu ≤ b)) with _ | _
        · replace HR : st3 b tg cu io ba = false := by rw [HR, h3] <;> rfl
          rw [HR]; clear HR
          have K2 := Lib.hid (sWithin5_is cu (0) (b) false h3)
          clear h3
          clear hb hm
          go_enter Tryz.func185, Tryz.ntmps185
          go_wp2_with (first | (go_at_call 199; with_reducible refine (K0.out _).mono ?_; rintro e w' ⟨rfl, rfl⟩) | (go_at_call 199; with_reducible refine (K1.out _).mono ?_; rintro e w' ⟨rfl, rfl⟩) | (go_at_call 199; with_reducible refine (K2.out _).mono ?_; rintro e w' ⟨rfl, rfl⟩))
          go_ret
          exact ⟨rfl, below_box _ _⟩
        · rw [h3] at HR
          have K2 := Lib.hid (sWithin5_is cu (0) (b) true h3)
          clear h3
          rw [HR]; clear HR
          clear hb hm
          go_enter Tryz.func185, Tryz.ntmps185
          go_wp2_with (first | (go_at_call 199; with_reducible refine (K0.out _).mono ?_; rintro e w' ⟨rfl, rfl⟩) | (go_at_call 199; with_reducible refine (K1.out _).mono ?_; rintro e w' ⟨rfl, rfl⟩) | (go_at_call 199; with_reducible refine (K2.out _).mono ?_; rintro e w' ⟨rfl, rfl⟩))
          go_ret
          exact ⟨rfl, below_box _ _⟩
set_option maxHeartbeats 2000000 in
theorem rState1 (b tg cu io ba t0 t1 t2 t3 t4 t5 : Int) (w : World) (hb : frmB b = true) (hm : tg ≤ 9223372036854775807) : Calls Tryz.prog 171 #[.agg #[.int .i64 b, .int .i64 1, .int .i64 tg, .int .i64 cu, .int .i64 io, .int .i64 ba, .int .i64 t0, .int .i64 t1, .int .i64 t2, .int .i64 t3, .int .i64 t4, .int .i64 t5]] w fun e w' => e = .returned (.bool (st1r b tg cu io ba)) ∧ Below w.heap.size w w' := by
  have hb0 : 0 ≤ b := (frm_div hb).1
  have hb1 : b ≤ 768 := (frm_div hb).2.1
  have HR : st1r b tg cu io ba = ((frmB tg) && ((decide (b < tg)) && ((decide (b / 64 ≤ cu)) && ((decide (cu ≤ tg / 64)) && ((io == 0) && ((ba == 0))))))) := rfl
  rcases h0 : (frmB tg) with _ | _
  · replace HR : st1r b tg cu io ba = false := by rw [HR, h0] <;> rfl
    rw [HR]; clear HR
    have K0 := Lib.hid (rFormed_is tg hm false h0)
    clear h0
    clear hb hm
    go_enter Tryz.func171, Tryz.ntmps171
    go_wp2_with (first | (go_at_call 129; with_reducible refine (K0.out _).mono ?_; rintro e w' ⟨rfl, rfl⟩))
    go_ret
    exact ⟨rfl, below_box _ _⟩
  · rw [h0, Bool.true_and] at HR
    have ht0 : 0 ≤ tg := (frm_div h0).1
    have ht1 : tg ≤ 768 := (frm_div h0).2.1
    have K0 := Lib.hid (rFormed_is tg hm true h0)
    clear h0
    rcases h1 : (decide (b < tg)) with _ | _
    · replace HR : st1r b tg cu io ba = false := by rw [HR, h1] <;> rfl
      rw [HR]; clear HR
      have g1 : ¬ b < tg := of_decide_eq_false h1
      clear hb hm
      go_enter Tryz.func171, Tryz.ntmps171
      go_wp2_with (first | (go_at_call 129; with_reducible refine (K0.out _).mono ?_; rintro e w' ⟨rfl, rfl⟩))
      go_ret
      exact ⟨rfl, below_box _ _⟩
    · rw [h1, Bool.true_and] at HR
      have g1 : b < tg := of_decide_eq_true h1
      rcases h2 : (decide (b / 64 ≤ cu)) with _ | _
      · replace HR : st1r b tg cu io ba = false := by rw [HR, h2] <;> rfl
        rw [HR]; clear HR
        have g2 : ¬ b / 64 ≤ cu := of_decide_eq_false h2
        clear hb hm
        go_enter Tryz.func171, Tryz.ntmps171
        go_wp2_with (first | (go_at_call 129; with_reducible refine (K0.out _).mono ?_; rintro e w' ⟨rfl, rfl⟩))
        go_ret
        exact ⟨rfl, below_box _ _⟩
      · rw [h2, Bool.true_and] at HR
        have g2 : b / 64 ≤ cu := of_decide_eq_true h2
        rcases h3 : (decide (cu ≤ tg / 64)) with _ | _
        · replace HR : st1r b tg cu io ba = false := by rw [HR, h3] <;> rfl
          rw [HR]; clear HR
          have g3 : ¬ cu ≤ tg / 64 := of_decide_eq_false h3
          clear hb hm
          go_enter Tryz.func171, Tryz.ntmps171
          go_wp2_with (first | (go_at_call 129; with_reducible refine (K0.out _).mono ?_; rintro e w' ⟨rfl, rfl⟩))
          go_ret
          exact ⟨rfl, below_box _ _⟩
        · rw [h3, Bool.true_and] at HR
          have g3 : cu ≤ tg / 64 := of_decide_eq_true h3
          rcases h4 : (io == 0) with _ | _
          · replace HR : st1r b tg cu io ba = false := by rw [HR, h4] <;> rfl
            rw [HR]; clear HR
            clear hb hm
            go_enter Tryz.func171, Tryz.ntmps171
            go_wp2_with (first | (go_at_call 129; with_reducible refine (K0.out _).mono ?_; rintro e w' ⟨rfl, rfl⟩))
            go_ret
            exact ⟨rfl, below_box _ _⟩
          · rw [h4, Bool.true_and] at HR
            rcases h5 : (ba == 0) with _ | _
            · replace HR : st1r b tg cu io ba = false := by rw [HR, h5] <;> rfl
              rw [HR]; clear HR
              clear hb hm
              go_enter Tryz.func171, Tryz.ntmps171
              go_wp2_with (first | (go_at_call 129; with_reducible refine (K0.out _).mono ?_; rintro e w' ⟨rfl, rfl⟩))
              go_ret
              exact ⟨rfl, below_box _ _⟩
            · rw [h5] at HR
              rw [HR]; clear HR
              clear hb hm
              go_enter Tryz.func171, Tryz.ntmps171
              go_wp2_with (first | (go_at_call 129; with_reducible refine (K0.out _).mono ?_; rintro e w' ⟨rfl, rfl⟩))
              go_ret
              exact ⟨rfl, below_box _ _⟩
set_option maxHeartbeats 2000000 in
theorem rState2 (b tg cu io ba t0 t1 t2 t3 t4 t5 : Int) (w : World) (hb : frmB b = true) (hm : tg ≤ 9223372036854775807) : Calls Tryz.prog 171 #[.agg #[.int .i64 b, .int .i64 2, .int .i64 tg, .int .i64 cu, .int .i64 io, .int .i64 ba, .int .i64 t0, .int .i64 t1, .int .i64 t2, .int .i64 t3, .int .i64 t4, .int .i64 t5]] w fun e w' => e = .returned (.bool (st2 b tg cu io ba)) ∧ Below w.heap.size w w' := by
  have hb0 : 0 ≤ b := (frm_div hb).1
  have hb1 : b ≤ 768 := (frm_div hb).2.1
  have HR : st2 b tg cu io ba = ((frmB tg) && ((decide (tg < b)) && ((cu == 0) && ((io == 0) && ((ba == 0)))))) := rfl
  rcases h0 : (frmB tg) with _ | _
  · replace HR : st2 b tg cu io ba = false := by rw [HR, h0] <;> rfl
    rw [HR]; clear HR
    have K0 := Lib.hid (rFormed_is tg hm false h0)
    clear h0
    clear hb hm
    go_enter Tryz.func171, Tryz.ntmps171
    go_wp2_with (first | (go_at_call 129; with_reducible refine (K0.out _).mono ?_; rintro e w' ⟨rfl, rfl⟩))
    go_ret
    exact ⟨rfl, below_box _ _⟩
  · rw [h0, Bool.true_and] at HR
    have ht0 : 0 ≤ tg := (frm_div h0).1
    have ht1 : tg ≤ 768 := (frm_div h0).2.1
    have K0 := Lib.hid (rFormed_is tg hm true h0)
    clear h0
    rcases h1 : (decide (tg < b)) with _ | _
    · replace HR : st2 b tg cu io ba = false := by rw [HR, h1] <;> rfl
      rw [HR]; clear HR
      have g1 : ¬ tg < b := of_decide_eq_false h1
      clear hb hm
      go_enter Tryz.func171, Tryz.ntmps171
      go_wp2_with (first | (go_at_call 129; with_reducible refine (K0.out _).mono ?_; rintro e w' ⟨rfl, rfl⟩))
      go_ret
      exact ⟨rfl, below_box _ _⟩
    · rw [h1, Bool.true_and] at HR
      have g1 : tg < b := of_decide_eq_true h1
      rcases h2 : (cu == 0) with _ | _
      · replace HR : st2 b tg cu io ba = false := by rw [HR, h2] <;> rfl
        rw [HR]; clear HR
        clear hb hm
        go_enter Tryz.func171, Tryz.ntmps171
        go_wp2_with (first | (go_at_call 129; with_reducible refine (K0.out _).mono ?_; rintro e w' ⟨rfl, rfl⟩))
        go_ret
        exact ⟨rfl, below_box _ _⟩
      · rw [h2, Bool.true_and] at HR
        rcases h3 : (io == 0) with _ | _
        · replace HR : st2 b tg cu io ba = false := by rw [HR, h3] <;> rfl
          rw [HR]; clear HR
          clear hb hm
          go_enter Tryz.func171, Tryz.ntmps171
          go_wp2_with (first | (go_at_call 129; with_reducible refine (K0.out _).mono ?_; rintro e w' ⟨rfl, rfl⟩))
          go_ret
          exact ⟨rfl, below_box _ _⟩
        · rw [h3, Bool.true_and] at HR
          rcases h4 : (ba == 0) with _ | _
          · replace HR : st2 b tg cu io ba = false := by rw [HR, h4] <;> rfl
            rw [HR]; clear HR
            clear hb hm
            go_enter Tryz.func171, Tryz.ntmps171
            go_wp2_with (first | (go_at_call 129; with_reducible refine (K0.out _).mono ?_; rintro e w' ⟨rfl, rfl⟩))
            go_ret
            exact ⟨rfl, below_box _ _⟩
          · rw [h4] at HR
            rw [HR]; clear HR
            clear hb hm
            go_enter Tryz.func171, Tryz.ntmps171
            go_wp2_with (first | (go_at_call 129; with_reducible refine (K0.out _).mono ?_; rintro e w' ⟨rfl, rfl⟩))
            go_ret
            exact ⟨rfl, below_box _ _⟩
set_option maxHeartbeats 2000000 in
theorem rState3 (b tg cu io ba t0 t1 t2 t3 t4 t5 : Int) (w : World) (hb : frmB b = true) (hm : tg ≤ 9223372036854775807) : Calls Tryz.prog 171 #[.agg #[.int .i64 b, .int .i64 3, .int .i64 tg, .int .i64 cu, .int .i64 io, .int .i64 ba, .int .i64 t0, .int .i64 t1, .int .i64 t2, .int .i64 t3, .int .i64 t4, .int .i64 t5]] w fun e w' => e = .returned (.bool (st3r b tg cu io ba)) ∧ Below w.heap.size w w' := by
  have hb0 : 0 ≤ b := (frm_div hb).1
  have hb1 : b ≤ 768 := (frm_div hb).2.1
  have HR : st3r b tg cu io ba = ((tg == 0) && ((decide (1 ≤ io)) && ((decide (io ≤ 47)) && ((decide (0 ≤ ba)) && ((decide (ba ≤ b)) && ((decide (0 ≤ cu)) && ((decide (cu ≤ b))))))))) := rfl
  rcases h0 : (tg == 0) with _ | _
  · replace HR : st3r b tg cu io ba = false := by rw [HR, h0] <;> rfl
    rw [HR]; clear HR
    clear hb hm
    go_enter Tryz.func171, Tryz.ntmps171
    go_wp2
    go_ret
    exact ⟨rfl, below_box _ _⟩
  · rw [h0, Bool.true_and] at HR
    rcases h1 : (decide (1 ≤ io)) with _ | _
    · replace HR : st3r b tg cu io ba = false := by rw [HR, h1] <;> rfl
      rw [HR]; clear HR
      have g1 : ¬ 1 ≤ io := of_decide_eq_false h1
      clear hb hm
      go_enter Tryz.func171, Tryz.ntmps171
      go_wp2
      go_ret
      exact ⟨rfl, below_box _ _⟩
    · rw [h1, Bool.true_and] at HR
      have g1 : 1 ≤ io := of_decide_eq_true h1
      rcases h2 : (decide (io ≤ 47)) with _ | _
      · replace HR : st3r b tg cu io ba = false := by rw [HR, h2] <;> rfl
        rw [HR]; clear HR
        have g2 : ¬ io ≤ 47 := of_decide_eq_false h2
        clear hb hm
        go_enter Tryz.func171, Tryz.ntmps171
        go_wp2
        go_ret
        exact ⟨rfl, below_box _ _⟩
      · rw [h2, Bool.true_and] at HR
        have g2 : io ≤ 47 := of_decide_eq_true h2
        rcases h3 : (decide (0 ≤ ba)) with _ | _
        · replace HR : st3r b tg cu io ba = false := by rw [HR, h3] <;> rfl
          rw [HR]; clear HR
          have g3 : ¬ 0 ≤ ba := of_decide_eq_false h3
          clear hb hm
          go_enter Tryz.func171, Tryz.ntmps171
          go_wp2
          go_ret
          exact ⟨rfl, below_box _ _⟩
        · rw [h3, Bool.true_and] at HR
          have g3 : 0 ≤ ba := of_decide_eq_true h3
          rcases h4 : (decide (ba ≤ b)) with _ | _
          · replace HR : st3r b tg cu io ba = false := by rw [HR, h4] <;> rfl
            rw [HR]; clear HR
            have g4 : ¬ ba ≤ b := of_decide_eq_false h4
            clear hb hm
            go_enter Tryz.func171, Tryz.ntmps171
            go_wp2
            go_ret
            exact ⟨rfl, below_box _ _⟩
          · rw [h4, Bool.true_and] at HR
            have g4 : ba ≤ b := of_decide_eq_true h4
            rcases h5 : (decide (0 ≤ cu)) with _ | _
            · replace HR : st3r b tg cu io ba = false := by rw [HR, h5] <;> rfl
              rw [HR]; clear HR
              have g5 : ¬ 0 ≤ cu := of_decide_eq_false h5
              clear hb hm
              go_enter Tryz.func171, Tryz.ntmps171
              go_wp2
              go_ret
              exact ⟨rfl, below_box _ _⟩
            · rw [h5, Bool.true_and] at HR
              have g5 : 0 ≤ cu := of_decide_eq_true h5
              rcases h6 : (decide (cu ≤ b)) with _ | _
              · replace HR : st3r b tg cu io ba = false := by rw [HR, h6] <;> rfl
                rw [HR]; clear HR
                have g6 : ¬ cu ≤ b := of_decide_eq_false h6
                clear hb hm
                go_enter Tryz.func171, Tryz.ntmps171
                go_wp2
                go_ret
                exact ⟨rfl, below_box _ _⟩
              · rw [h6] at HR
                have g6 : cu ≤ b := of_decide_eq_true h6
                rw [HR]; clear HR
                clear hb hm
                go_enter Tryz.func171, Tryz.ntmps171
                go_wp2
                go_ret
                exact ⟨rfl, below_box _ _⟩
theorem sStateN (st : Int) (b tg cu io ba t0 t1 t2 t3 t4 t5 : Int) (w : World) (h0 : st ≠ 0) (h1 : st ≠ 1) (h2 : st ≠ 2) (h3 : st ≠ 3) : Calls Tryz.prog 185 #[.agg #[.int .i64 b, .int .i64 st, .int .i64 tg, .int .i64 cu, .int .i64 io, .int .i64 ba, .int .i64 t0, .int .i64 t1, .int .i64 t2, .int .i64 t3, .int .i64 t4, .int .i64 t5]] w fun e w' => e = .returned (.bool false) ∧ Below w.heap.size w w' := by
  have e0 : (st == 0) = false := by simp [h0]
  have e1 : (st == 1) = false := by simp [h1]
  have e2 : (st == 2) = false := by simp [h2]
  have e3 : (st == 3) = false := by simp [h3]
  clear h0 h1 h2 h3
  go_enter Tryz.func185, Tryz.ntmps185
  go_wp2
  go_ret
  exact ⟨rfl, below_box _ _⟩
theorem rStateN (st : Int) (b tg cu io ba t0 t1 t2 t3 t4 t5 : Int) (w : World) (h0 : st ≠ 0) (h1 : st ≠ 1) (h2 : st ≠ 2) (h3 : st ≠ 3) : Calls Tryz.prog 171 #[.agg #[.int .i64 b, .int .i64 st, .int .i64 tg, .int .i64 cu, .int .i64 io, .int .i64 ba, .int .i64 t0, .int .i64 t1, .int .i64 t2, .int .i64 t3, .int .i64 t4, .int .i64 t5]] w fun e w' => e = .returned (.bool false) ∧ Below w.heap.size w w' := by
  have e0 : (st == 0) = false := by simp [h0]
  have e1 : (st == 1) = false := by simp [h1]
  have e2 : (st == 2) = false := by simp [h2]
  have e3 : (st == 3) = false := by simp [h3]
  clear h0 h1 h2 h3
  go_enter Tryz.func171, Tryz.ntmps171
  go_wp2
  go_ret
  exact ⟨rfl, below_box _ _⟩
end Go.Proofs.YtaakepjgpnaecaaGreat
