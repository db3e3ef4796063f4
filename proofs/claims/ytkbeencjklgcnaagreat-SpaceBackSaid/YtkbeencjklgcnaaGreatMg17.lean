/- The landed space reads a group. -/
import Derived.Test.YtkbeencjklgcnaaGreatMg15
import Derived.Test.YtkbeencjklgcnaaGreatMg16
import Derived.Test.YtkbeencjklgcnaaGreatMg3
import Derived.Test.YtkbeencjklgcnaaGreatMg4
import Derived.Test.YtkbeencjklgcnaaGreatMg6
import Derived.Test.YtkbeencjklgcnaaGreatMg7
import Derived.Test.YtkbeencjklgcnaaGreatMg8
namespace Go.Proofs.YtkbeencjklgcnaaGreat
set_option maxRecDepth 100000
open Go.RowKit BM
set_option linter.unusedVariables false

theorem spLaid_is {w : World} {v : Value} {O : List (Int × Int)} (hs : OwSl w v O) (hO : O.length = 64) {g : Nat} (hg : g < 12) (hx : ∀ j, j < 64 → decide ((O.getD j (0, 0)).1 = 65535) = fixB (64 * (g : Int) + j)) :
    Calls Tryz.prog 69 #[.int .i64 g, v] w fun e w' => e = .returned (.bool true) ∧ Below w.heap.size w w' := by
  obtain ⟨b, off, cap, rfl, hb, hc⟩ := hs.at (by omega)
  have HC := Lib.hid hc
  have HBB := Lib.hid hs.1
  have HX := Lib.hid hx
  have HO := Lib.hid hO
  rw [hO]
  clear hc hs hx hO
  go_enter Tryz.func69, Tryz.ntmps69
  go_wp2
  go_loopw [9] (fun i wr => ∃ k : Nat, k ≤ 64 ∧ i = .int .i64 k ∧ Below w.heap.size w wr) (fun i _ => 64 - (intOf i).toNat)
  case atStart => exact ⟨0, by omega, rfl, Below.refl _ _⟩
  case round =>
    obtain ⟨k, hk, rfl, hbr⟩ := hrel
    by_cases hlt : k < 64
    · have hck := HC.out k (by rw [HO.out]; exact hlt)
      have hxk := HX.out k hlt
      have hbd := HBB.out k
      obtain ⟨x, hx⟩ : ∃ x, x = (O.getD k (0, 0)).1 := ⟨_, rfl⟩
      obtain ⟨y, hy⟩ : ∃ y, y = (O.getD k (0, 0)).2 := ⟨_, rfl⟩
      rw [← hx, ← hy] at hck hbd
      rw [← hx] at hxk
      have c1 := (hbr.cell (p := ⟨b, off + k * 2, none⟩) hb).trans hck.1
      have c2 := (hbr.cell (p := ⟨b, off + k * 2 + 1, none⟩) hb).trans hck.2
      have ek : (k : Int) < 64 := by omega
      have eg : (g : Int) < 12 := by omega
      have HB2 := Lib.hid (hbr.trans ((below_box wr (.cells #[.int .u16 x, .int .u16 y] 32)).mono hbr.size))
      obtain ⟨F, hF⟩ : ∃ F, F = fixB (64 * (g : Int) + k) := ⟨_, rfl⟩
      rw [← hF] at hxk
      have eF : fixB ((g : Int) * 64 + k) = F := by rw [hF, Int.mul_comm]
      have K1 := Lib.hid (gFixed_is ((g : Int) * 64 + k) (by omega) F eF)
      have hxb : (x == 65535) = F := hxk
      clear hx hy hck hF eF hxk
      go_wp2
      cases F
      all_goals
        go_quiet ((go_at_call 83; exact quiet_back (K1.out _)))
        go_wp2
        go_roundw
        case rel => exact ⟨k + 1, by omega, by go_num, below_drewN' HB2.out _⟩
        case measure => simp [intOf]; omega
    · go_wp2
      go_ret
      exact ⟨rfl, hbr⟩
/-- The blocks that are looked at. -/
def XSt.cur (X : XSt) : List (List Int) := if X.wi = true then X.call else X.is
theorem XOk.curLen {X : XSt} (h : XOk X) : X.cur.length = X.is.length := by
  unfold XSt.cur; split
  · next hw => exact h.call hw
  · rfl
theorem pageS_bd {O : List (Int × Int)} (hO : O.length = 64) (hB : OwB O) (ha : allO O = true) : pagesB (pageS O) ∧ ownK (pageS O) 64 = O := by
  have e := ownK_page hB hO
  refine ⟨⟨pageS_length hO, ?_⟩, e⟩
  rw [e]
  unfold allO at ha
  rw [hO] at ha
  simpa using ha
theorem spRead_of {w : World} {P : Nat → Prop} {d p : Value} {X : XSt} {O : List (Int × Int)} {k g : Nat} (h : SInv w P d p X) (hH : Has X.cur O k) (hO : OOk O k) (hg : g < k) :
    Calls Tryz.prog 35 #[p, .int .i64 g] w fun e w' => ∃ v, e = .returned (.tuple #[v, .int .i64 0]) ∧ OwR w' w.heap.size v (grO O g) ∧ Below w.heap.size w w' := by
  have hlen : X.is.length = 64 * k := by
    obtain ⟨_, _, _, _, _, _, _, _, _, _, _, _, _, hpl, _⟩ := h
    rw [← hpl.ok.curLen]; exact hH.len
  have hlt : ∀ k, P k → k < w.heap.size := by
    obtain ⟨_, _, _, _, _, _, _, _, _, _, _, _, _, _, _, hl⟩ := h
    exact hl
  have h12 := hO.k12
  have hin := dscN_in hg
  obtain ⟨gB, gA, gX⟩ := hO.gr hg
  have gL := grO_length hO.len hg
  obtain ⟨Og, hOg⟩ : ∃ Og, Og = grO O g := ⟨_, rfl⟩
  obtain ⟨D, hD⟩ : ∃ D, D = descS (g : Int) (usedK Og 64) := ⟨_, rfl⟩
  obtain ⟨E, hE⟩ : ∃ E, E = pageS Og := ⟨_, rfl⟩
  have eD : X.cur.getD (dscN g) [] = D := by rw [hH.ds g hg, hD, hOg]
  have eE : X.cur.getD (dscN g + 1) [] = E := by rw [hH.ow g hg, hE, hOg]
  rw [← hOg] at gB gA gX gL ⊢
  obtain ⟨pB, pE⟩ := pageS_bd gL gB gA
  rw [← hE] at pB pE
  have KD : Hid (∀ W : World, Below w.heap.size w W → Calls Tryz.prog 65 #[p, .int .i64 (dscN g : Nat)] W fun e w' => ∃ v, e = .returned (.tuple #[v, .int .i64 0]) ∧ BSl w' v D ∧ Below W.heap.size W w') := Lib.hid fun W hb => (sGet_own (h.keep hb.size fun i hi => hb.block i (hlt i hi)) (n := dscN g) (by omega)).mono fun e w' ⟨v, l, a, b, c, f⟩ => ⟨v, a, by rw [← eD]; exact (c hin.2.1) ▸ b, f⟩
  have KE : Hid (∀ W : World, Below w.heap.size w W → Calls Tryz.prog 65 #[p, .int .i64 (((dscN g : Nat) : Int) + 1)] W fun e w' => ∃ v, e = .returned (.tuple #[v, .int .i64 0]) ∧ BSl w' v E ∧ Below W.heap.size W w') := Lib.hid fun W hb => (sGet_own (h.keep hb.size fun i hi => hb.block i (hlt i hi)) (n := dscN g + 1) (by omega)).mono fun e w' ⟨v, l, a, b, c, f⟩ => ⟨v, a, by rw [← eE]; exact (c hin.2.2) ▸ b, f⟩
  have KO : Hid (∀ (W : World) (v : Value), BSl W v E → Calls Tryz.prog 68 #[v] W fun e w' => ∃ u, e = .returned (.tuple #[u, .int .i64 0]) ∧ OwR w' W.heap.size u Og ∧ Below W.heap.size W w') := Lib.hid fun W v hb => (grOwn_any hb).mono fun e w' ho => by
    rcases ho with ⟨_, u, a, b, c⟩ | ⟨hn, _⟩
    · exact ⟨u, a, pE ▸ b, c⟩
    · exact absurd pB hn
  have KL := Lib.hid (fun (W : World) (v : Value) (hs : OwSl W v Og) => spLaid_is hs gL (show g < 12 by omega) gX)
  have KC : Hid (∀ (W : World) (v : Value), OwSl W v Og → Calls Tryz.prog 70 #[.int .i64 g, v] W fun e w' => ∃ u, e = .returned (.tuple #[u, .int .i64 0]) ∧ OB w' W.heap.size u D ∧ Below W.heap.size W w') := Lib.hid fun W v hs => (spDesc_is hs (g : Int) (by omega) (by omega) gA).mono fun e w' ho => by rw [hD]; exact ho
  have KEq : Hid (∀ (W : World) (u v : Value), BSl W u D → BSl W v D → Calls Tryz.prog 71 #[u, v] W fun e w' => e = .returned (.bool true) ∧ W = w') := Lib.hid fun W u v hu hv => (bEqual_of hu hv).mono fun e w' ho => by rw [decide_eq_true rfl] at ho; exact ho
  have KGd := Lib.hid (fun (W : World) => gDesc_any (g : Int) W)
  have KGo := Lib.hid (fun (W : World) => gOwners_any (g : Int) W)
  rw [dscN_I (show g < 12 by omega)] at KGd
  rw [ownN_I (show g < 12 by omega)] at KGo
  clear h hH hO eD eE hD hE hOg gB gA gX gL pB pE hin hlt hlen h12 hg
  go_enter Tryz.func35, Tryz.ntmps35
  go_wp2_with (first
    | (go_at_call 66; refine (KGd.out _).mono ?_; rintro e w' ⟨rfl, rfl⟩)
    | (go_at_call 67; refine (KGo.out _).mono ?_; rintro e w' ⟨rfl, rfl⟩)
    | (go_at_call 65; (with_reducible refine (KD.out _ (Below.refl _ _)).mono ?_); rintro e w1 ⟨vd, rfl, hvd, hb1⟩)
    | (go_at_call 65; (with_reducible refine (KE.out _ hb1).mono ?_); rintro e w2 ⟨vp, rfl, hvp, hb2⟩; have hvd2 := hvd.below hb2; have hb02 := hb1.trans (hb2.mono hb1.size))
    | (go_at_call 68; refine (KO.out _ _ hvp).mono ?_; rintro e w3 ⟨u, rfl, hu, hb3⟩; have hvd3 := hvd2.below hb3; have hb03 := hb02.trans (hb3.mono hb02.size))
    | (go_at_call 69; refine (KL.out _ _ hu.sl).mono ?_; rintro e w4 ⟨rfl, hb4⟩; have hvd4 := hvd3.below hb4; have hu4 := hu.below hb4; have hb04 := hb03.trans (hb4.mono hb03.size))
    | (go_at_call 70; refine (KC.out _ _ hu4.sl).mono ?_; rintro e w5 ⟨vw, rfl, hvw, hb5⟩; have hvd5 := hvd4.below hb5; have hu5 := hu4.below hb5; have hb05 := hb04.trans (hb5.mono hb04.size))
    | (go_at_call 71; refine (KEq.out _ _ _ hvd5 hvw.bsl).mono ?_; rintro e w6 ⟨rfl, rfl⟩))
  go_ret2
  exact ⟨u, rfl, hu5.more hb02.size, hb05⟩
end Go.Proofs.YtkbeencjklgcnaaGreat

/- The landed space: a bit for each block. -/
namespace Go.Proofs.YtkbeencjklgcnaaGreat
set_option maxRecDepth 100000
open Go.RowKit BM
set_option linter.unusedVariables false

/-- A row of L bits of which the first c are laid. -/
def preN (f : Nat → Bool) (c L : Nat) : List Bool := (List.range L).map fun i => if i < c then f i else false
theorem preN_length (f : Nat → Bool) (c L : Nat) : (preN f c L).length = L := by simp [preN]
theorem preN_set (f : Nat → Bool) (c L : Nat) : (preN f c L).set c (f c) = preN f (c + 1) L := by
  apply List.ext_getElem (by simp [preN])
  intro i h1 h2
  simp only [preN, List.getElem_set, List.getElem_map, List.getElem_range]
  by_cases e : c = i
  · subst e; rw [if_pos rfl, if_pos (by omega)]
  · rw [if_neg e]
    by_cases h : i < c
    · rw [if_pos h, if_pos (by omega)]
    · rw [if_neg h, if_neg (by omega)]
theorem preN_zero (f : Nat → Bool) (L : Nat) : preN f 0 L = List.replicate L false := by
  rw [List.eq_replicate_iff]
  refine ⟨preN_length f 0 L, fun b hb => ?_⟩
  obtain ⟨i, _, rfl⟩ := List.mem_map.1 hb
  rw [if_neg (by omega)]
theorem preN_full (O : List (Int × Int)) (L : Nat) : preN (usedJ O) L L = usedK O L := by
  unfold preN usedK
  apply List.map_congr_left
  intro i hi
  rw [if_pos (List.mem_range.1 hi)]

theorem spUB_no (b : Int) (hm : b ≤ 9223372036854775807) (hf : frmB b = false) (p : Value) (w : World) : Calls Tryz.prog 45 #[p, .int .i64 b] w fun e w' => e = .returned (.tuple #[.pointer none, .int .i64 1]) ∧ w = w' := by
  have KF := Lib.hid (fun (W : World) => gFormed_no b hm hf W)
  clear hf
  go_enter Tryz.func45, Tryz.ntmps45
  go_wp2_with (go_at_call 38; refine (KF.out _).mono ?_; rintro e w' ⟨rfl, rfl⟩)
  go_ret2
  exact ⟨rfl, rfl⟩
section
variable {w : World} {P : Nat → Prop} {d p : Value} {X : XSt} {O : List (Int × Int)} {k : Nat}
theorem SInv.lt (h : SInv w P d p X) : ∀ k, P k → k < w.heap.size := by
  obtain ⟨_, _, _, _, _, _, _, _, _, _, _, _, _, _, _, hl⟩ := h
  exact hl
theorem SInv.low (h : SInv w P d p X) {W : World} (hb : Below w.heap.size w W) : SInv W P d p X := h.keep hb.size fun i hi => hb.block i (h.lt i hi)
theorem spRead_at {g : Nat} (h : SInv w P d p X) (hH : Has X.cur O k) (hO : OOk O k) (hg : g < k) :
    Calls Tryz.prog 35 #[p, .int .i64 g] w fun e w' => ∃ b cap, e = .returned (.tuple #[.slice (some ⟨b, 0, none⟩) 64 cap, .int .i64 0]) ∧ w.heap.size ≤ b ∧ b < w'.heap.size ∧ OwR w' w.heap.size (.slice (some ⟨b, 0, none⟩) 64 cap) (grO O g) ∧
      (∀ j, j < 64 → w'.cell? ⟨b, j * 2, none⟩ = some (.int .u16 ((grO O g).getD j (0, 0)).1) ∧ w'.cell? ⟨b, j * 2 + 1, none⟩ = some (.int .u16 ((grO O g).getD j (0, 0)).2)) ∧ Below w.heap.size w w' := by
  refine (spRead_of h hH hO hg).mono fun e w' ⟨v, he, hv, hb⟩ => ?_
  have hl := grO_length hO.len hg
  obtain ⟨b, cap, rfl⟩ := ow_len hv 64 hl (by decide)
  obtain ⟨b', off, cap', e1, hbl, hc⟩ := hv.sl.at (by omega)
  injection e1 with e1 _ _
  injection e1 with e1
  injection e1 with e1 e2
  subst e1; subst e2
  exact ⟨b, cap, he, (World.ownsRow.lt hv.2 b rfl).1, hbl, hv, fun j hj => by have := hc j (by omega); rwa [Nat.zero_add] at this, hb⟩
theorem spUB_yes (h : SInv w P d p X) (hH : Has X.cur O k) (hO : OOk O k) {m : Nat} (hm1 : 1 ≤ m) (hm : m ≤ k) :
    Calls Tryz.prog 45 #[p, .int .i64 (64 * (m : Int))] w fun e w' => ∃ q r, e = .returned (.tuple #[.pointer (some ⟨q, 0, none⟩), .int .i64 0]) ∧ BRow w' q r (usedK O (64 * m)) ∧ Below w.heap.size w w' := by
  have h12 := hO.k12
  have KF := Lib.hid (fun (W : World) => gFormed_yes m hm1 (by omega) W)
  have KG := Lib.hid (fun (W : World) => gGroups_yes m hm1 (by omega) W)
  have KN := Lib.hid (bNew_len (64 * m) (by omega) w)
  rw [show ((64 * m : Nat) : Int) = 64 * (m : Int) by omega] at KN
  have KR : Hid (∀ (W : World), Below w.heap.size w W → ∀ g, g < m → Calls Tryz.prog 35 #[p, .int .i64 g] W fun e w' => ∃ b cap, e = .returned (.tuple #[.slice (some ⟨b, 0, none⟩) 64 cap, .int .i64 0]) ∧ W.heap.size ≤ b ∧ b < w'.heap.size ∧
      (∀ j, j < 64 → w'.cell? ⟨b, j * 2, none⟩ = some (.int .u16 ((grO O g).getD j (0, 0)).1) ∧ w'.cell? ⟨b, j * 2 + 1, none⟩ = some (.int .u16 ((grO O g).getD j (0, 0)).2)) ∧ Below W.heap.size W w') := Lib.hid fun W hb g hg => (spRead_at (h.low hb) hH hO (show g < k by omega)).mono fun e w' ⟨b, cap, h1, h2, h3, _, h4, h5⟩ => ⟨b, cap, h1, h2, h3, h4, h5⟩
  have HU : Hid (∀ g j x y, j < 64 → g < m → x = ((grO O g).getD j (0, 0)).1 → y = ((grO O g).getD j (0, 0)).2 → freeP x y = !usedJ O (64 * g + j)) := Lib.hid fun g j x y hj hg ex ey => by
    have e1 := grO_getD O g hj
    have hf := hO.frm (64 * g + j) (by omega)
    rw [e1] at ex ey
    unfold frmJ at hf
    rw [← ex, ← ey] at hf
    unfold usedJ
    rw [← ex]
    by_cases hx : x = 0
    · rw [hx] at hf ⊢
      rw [frm_zero hf]; rfl
    · have hxb : (x == 0) = false := by simpa using hx
      rw [freeP, hxb, decide_eq_true hx]; rfl
  have hm12 : m ≤ 12 := by omega
  clear h hH hO h12 hm
  go_enter Tryz.func45, Tryz.ntmps45
  go_wp2_with (first
    | (go_at_call 38; refine (KF.out _).mono ?_; rintro e w' ⟨rfl, rfl⟩)
    | (go_at_call 73; refine (KG.out _).mono ?_; rintro e w' ⟨rfl, rfl⟩)
    | (go_at_call 77; refine KN.out.mono ?_; rintro e w1 ⟨rfl, hrow1, hb1⟩))
  obtain ⟨r, hr⟩ : ∃ r, r = w.heap.size := ⟨_, rfl⟩
  rw [← hr] at hrow1 ⊢
  obtain ⟨q, hq⟩ : ∃ q, q = r + 1 := ⟨_, rfl⟩
  rw [← hq] at hrow1 ⊢
  have hrq : r < q := by omega
  have hwr : w.heap.size ≤ r := by omega
  obtain ⟨L, hL⟩ : ∃ L, L = 64 * m := ⟨_, rfl⟩
  rw [← hL] at hrow1
  rw [← preN_zero (usedJ O)] at hrow1
  have HL0 := Lib.hid hL
  have HR1 : Hid (BRow w1 q r (preN (usedJ O) (64 * 0) L)) := Lib.hid hrow1
  have hb1' : Below w.heap.size w w1 := hb1
  clear hr hq hrow1 hL hb1
  go_loopw [19] (fun i wr => ∃ g : Nat, g ≤ m ∧ i = .int .i64 g ∧ Hid (BRow wr q r (preN (usedJ O) (64 * g) L)) ∧ Below w.heap.size w wr) (fun i _ => m - (intOf i).toNat)
  case atStart => exact ⟨0, by omega, rfl, HR1, hb1'⟩
  case round =>
    obtain ⟨g, hg, rfl, HROW, hbr⟩ := hrel
    clear HR1 hb1'
    by_cases hlt : g < m
    · have eg : (g : Int) < 12 := by omega
      have egm : (g : Int) < (m : Int) := by omega
      have KR1 := Lib.hid (KR.out wr hbr g hlt)
      have hrl := HROW.out.lt
      have HRLT := Lib.hid hrl
      clear hrl
      go_wp2_with (go_at_call 35; refine KR1.out.mono ?_; rintro e w2 ⟨b, cap, rfl, hbb, hbl, hc, hb2⟩)
      have hrow2 := HROW.out.below hb2 HRLT.out.1 HRLT.out.2
      have hb02 := hbr.trans (hb2.mono hbr.size)
      have hbq : q < b := by have := HRLT.out.1; omega
      have hbr' : r < b := by omega
      have HC := Lib.hid hc
      have HR2 : Hid (BRow w2 q r (preN (usedJ O) (64 * g + 0) L)) := Lib.hid hrow2
      clear hrow2 hc hb2 hbr HROW HRLT KR1
      go_loopw [33] (fun i wr => ∃ j : Nat, j ≤ 64 ∧ i = .int .i64 j ∧ Hid (BRow wr q r (preN (usedJ O) (64 * g + j) L)) ∧ Hid (wr.heap[b]? = w2.heap[b]?) ∧ Below w.heap.size w wr) (fun i _ => 64 - (intOf i).toNat)
      case atStart => exact ⟨0, by omega, rfl, HR2, Lib.hid rfl, hb02⟩
      case round =>
        obtain ⟨j, hj, rfl, HROW, HE, hbi⟩ := hrel
        clear HR2 hb02
        by_cases hjt : j < 64
        · have hck := HC.out j hjt
          have hfr := HU.out g j _ _ hjt hlt rfl rfl
          obtain ⟨x, hx⟩ : ∃ x, x = ((grO O g).getD j (0, 0)).1 := ⟨_, rfl⟩
          obtain ⟨y, hy⟩ : ∃ y, y = ((grO O g).getD j (0, 0)).2 := ⟨_, rfl⟩
          rw [← hx, ← hy] at hck
          rw [← hx, ← hy] at hfr
          have c1 := (World.cell?_of_block (a := ⟨b, j * 2, none⟩) (w := w2) HE.out).trans hck.1
          have c2 := (World.cell?_of_block (a := ⟨b, j * 2 + 1, none⟩) (w := w2) HE.out).trans hck.2
          have ej : (j : Int) < 64 := by omega
          have hrl := HROW.out.lt
          obtain ⟨U, hU⟩ : ∃ U, U = usedJ O (64 * g + j) := ⟨_, rfl⟩
          rw [← hU] at hfr
          have hps := preN_set (usedJ O) (64 * g + j) L
          rw [← hU] at hps
          have HPS := Lib.hid hps
          have hb3 := below_box wr (.cells #[.int .u16 x, .int .u16 y] 32)
          have KFr := Lib.hid (spFree_is x y (!U) hfr (wr.alloc (.cells #[.int .u16 x, .int .u16 y] 32)))
          have KS : Hid (∀ (W : World), BRow W q r (preN (usedJ O) (64 * g + j) L) → Calls Tryz.prog 78 #[.pointer (some ⟨q, 0, none⟩), .int .i64 ((g : Int) * 64 + j), .bool U] W fun e w' => e = .returned (.int .i64 0) ∧ BRow w' q r (preN (usedJ O) (64 * g + (j + 1)) L) ∧ Wrote W w' r) := Lib.hid fun W hr => by
            have := bSet_nat hr (64 * g + j) (by rw [preN_length, HL0.out]; omega) U
            rw [HPS.out] at this
            rw [show ((64 * g + j : Nat) : Int) = (g : Int) * 64 + j by omega] at this
            exact this
          have HROW3 := Lib.hid (HROW.out.below hb3 hrl.1 hrl.2)
          clear hx hy hck hfr hU hps HPS
          cases U
          all_goals
            go_wp2_with (first
              | (go_at_call 39; refine KFr.out.mono ?_; rintro e w4 ⟨rfl, hb4⟩; have hrow4 := HROW3.out.below hb4 (by have := hrl.1; simp; omega) (by have := hrl.2; simp; omega); have hb34 := hb3.trans (hb4.mono hb3.size))
              | (go_at_call 78; refine (KS.out _ hrow4).mono ?_; rintro e w5 ⟨rfl, hrow5, hw5⟩))
            go_roundw
            case rel =>
              refine ⟨j + 1, by omega, by go_num, hrow5, ?_, (hbi.trans (hb34.mono hbi.size)).trans (hw5.below (by omega))⟩
              have hbw : b < wr.heap.size := by
                have := (Array.getElem?_eq_some_iff.1 (HE.out.trans (Array.getElem?_eq_getElem hbl))).1
                exact this
              exact (hw5.2.2.2.2 _ (by omega)).trans ((hb34.block b hbw).trans HE.out)
            case measure => simp [intOf]; omega
        · obtain rfl : j = 64 := by omega
          have HROW' : Hid (BRow wr q r (preN (usedJ O) (64 * (g + 1)) L)) := Lib.hid (by rw [show 64 * (g + 1) = 64 * g + 64 by omega]; exact HROW.out)
          go_wp2
          go_roundw
          case rel => exact ⟨g + 1, by omega, by go_num, HROW', hbi⟩
          case measure => simp [intOf]; omega
    · obtain rfl : g = m := by omega
      have hrow := HROW.out
      rw [← HL0.out, preN_full] at hrow
      go_wp2
      go_ret2
      exact ⟨q, r, rfl, by rw [← HL0.out]; exact hrow, hbr⟩
end
end Go.Proofs.YtkbeencjklgcnaaGreat

/- The landed space: Used, Find, Run, Owner. -/
namespace Go.Proofs.YtkbeencjklgcnaaGreat
set_option maxRecDepth 100000
open Go.RowKit BM
set_option linter.unusedVariables false

section
variable {w : World} {P : Nat → Prop} {d p : Value} {X : XSt} {O : List (Int × Int)} {k : Nat}
theorem spUsed_no (b : Int) (hm : b ≤ 9223372036854775807) (hf : frmB b = false) (p : Value) (w : World) : Calls Tryz.prog 18 #[p, .int .i64 b] w fun e w' => e = .returned (.tuple #[.int .i64 0, .int .i64 1]) ∧ w = w' := by
  have KU := Lib.hid (spUB_no b hm hf)
  clear hf
  go_enter Tryz.func18, Tryz.ntmps18
  go_wp2_with (go_at_call 45; refine (KU.out _ _).mono ?_; rintro e w' ⟨rfl, rfl⟩)
  go_ret2
  exact ⟨rfl, rfl⟩
theorem spFind_no (b g : Int) (hm : b ≤ 9223372036854775807) (hf : frmB b = false) (p : Value) (w : World) : Calls Tryz.prog 20 #[p, .int .i64 b, .int .i64 g] w fun e w' => e = .returned (.tuple #[.int .i64 0, .int .i64 1]) ∧ w = w' := by
  have KU := Lib.hid (spUB_no b hm hf)
  clear hf
  go_enter Tryz.func20, Tryz.ntmps20
  go_wp2_with (go_at_call 45; refine (KU.out _ _).mono ?_; rintro e w' ⟨rfl, rfl⟩)
  go_ret2
  exact ⟨rfl, rfl⟩
theorem spRun_no (b q : Int) (hm : b ≤ 9223372036854775807) (hf : frmB b = false ∨ q < 1) (p : Value) (w : World) : Calls Tryz.prog 21 #[p, .int .i64 b, .int .i64 q] w fun e w' => e = .returned (.tuple #[.int .i64 0, .int .i64 1]) ∧ w = w' := by
  by_cases hq : q < 1
  · go_enter Tryz.func21, Tryz.ntmps21
    go_wp2
    go_ret2
    exact ⟨rfl, rfl⟩
  · have KU := Lib.hid (spUB_no b hm (hf.resolve_right hq))
    clear hf
    go_enter Tryz.func21, Tryz.ntmps21
    go_wp2_with (go_at_call 45; refine (KU.out _ _).mono ?_; rintro e w' ⟨rfl, rfl⟩)
    go_ret2
    exact ⟨rfl, rfl⟩
theorem spUsed_yes (h : SInv w P d p X) (hH : Has X.cur O k) (hO : OOk O k) {m : Nat} (hm1 : 1 ≤ m) (hm : m ≤ k) :
    Calls Tryz.prog 18 #[p, .int .i64 (64 * (m : Int))] w fun e w' => e = .returned (.tuple #[.int .i64 (cntU O (64 * m)), .int .i64 0]) ∧ Below w.heap.size w w' := by
  have h12 := hO.k12
  have KU := Lib.hid (spUB_yes h hH hO hm1 hm)
  have KO := Lib.hid (fun (W : World) => gOpen_yes m hm1 (by omega) W)
  obtain ⟨R, hR⟩ : ∃ R, R = usedK O (64 * m) := ⟨_, rfl⟩
  have hc := count_used hO (64 * m) (by omega)
  rw [← hR] at hc KU
  have h1 := cnt_all (64 * m)
  have h2 := cntO_mul m hm1 (by omega)
  have KC : Hid (∀ W q r, BRow W q r R → Calls Tryz.prog 46 #[.pointer (some ⟨q, 0, none⟩)] W fun e w' => e = .returned (.int .i64 (countB R)) ∧ ∃ m, w' = W.drewN m) := Lib.hid fun W q r hb => bCount_any hb
  have hcl := countB_le R
  have hRl : R.length = 64 * m := by rw [hR, usedK_length]
  obtain ⟨C, hC⟩ : ∃ C, C = countB R := ⟨_, rfl⟩
  rw [← hC] at KC hc hcl
  obtain ⟨U, hU⟩ : ∃ U, U = cntU O (64 * m) := ⟨_, rfl⟩
  have HE : Hid ((C : Int) - (64 * (m : Int) - (62 * (m : Int) - 42)) = U) := Lib.hid (by omega)
  have hC2 : (C : Int) ≤ 768 := by omega
  have hm12 : (m : Int) ≤ 12 := by omega
  have hm11 : (1 : Int) ≤ m := by omega
  rw [← hU]
  clear hR hc h1 h2 hcl hRl hC hU h hH hO hm hm1 h12
  go_enter Tryz.func18, Tryz.ntmps18
  go_wp2_with (first
    | (go_at_call 45; refine KU.out.mono ?_; rintro e w1 ⟨q, r, rfl, hrow, hb1⟩)
    | (go_at_call 41; refine (KO.out _).mono ?_; rintro e w' ⟨rfl, rfl⟩)
    | (go_at_call 46; refine (KC.out _ _ _ hrow).mono ?_; rintro e w2 ⟨rfl, n, rfl⟩))
  go_ret2
  exact ⟨by first | rfl | (rw [HE.out]; rfl), below_drewN' hb1 _⟩
theorem spFind_yes (h : SInv w P d p X) (hH : Has X.cur O k) (hO : OOk O k) {m : Nat} (hm1 : 1 ≤ m) (hm : m ≤ k) (g : Int) :
    Calls Tryz.prog 20 #[p, .int .i64 (64 * (m : Int)), .int .i64 g] w fun e w' => e = .returned (.tuple #[.int .i64 (findS O (64 * m) (goalS (64 * m) g)), .int .i64 0]) ∧ Below w.heap.size w w' := by
  have KU := Lib.hid (spUB_yes h hH hO hm1 hm)
  rw [← find_is (show 0 < 64 * m by omega)]
  obtain ⟨R, hR⟩ : ∃ R, R = usedK O (64 * m) := ⟨_, rfl⟩
  rw [← hR] at KU ⊢
  have KC : Hid (∀ W q r, BRow W q r R → Calls Tryz.prog 48 #[.pointer (some ⟨q, 0, none⟩), .int .i64 g] W fun e w' => e = .returned (.int .i64 (firstS R g)) ∧ ∃ m, w' = W.drewN m) := Lib.hid fun W q r hb => bFirst_any hb g
  clear hR h hH hO hm hm1
  go_enter Tryz.func20, Tryz.ntmps20
  go_wp2_with (first
    | (go_at_call 45; refine KU.out.mono ?_; rintro e w1 ⟨q, r, rfl, hrow, hb1⟩)
    | (go_at_call 48; refine (KC.out _ _ _ hrow).mono ?_; rintro e w2 ⟨rfl, n, rfl⟩))
  go_ret2
  exact ⟨rfl, below_drewN' hb1 _⟩
theorem spRun_yes (h : SInv w P d p X) (hH : Has X.cur O k) (hO : OOk O k) {m : Nat} (hm1 : 1 ≤ m) (hm : m ≤ k) {q : Int} (hq : 1 ≤ q) :
    Calls Tryz.prog 21 #[p, .int .i64 (64 * (m : Int)), .int .i64 q] w fun e w' => e = .returned (.tuple #[.int .i64 (findR O (64 * m) q), .int .i64 0]) ∧ Below w.heap.size w w' := by
  have KU := Lib.hid (spUB_yes h hH hO hm1 hm)
  rw [← run_is hq]
  obtain ⟨R, hR⟩ : ∃ R, R = usedK O (64 * m) := ⟨_, rfl⟩
  rw [← hR] at KU ⊢
  have KC : Hid (∀ W t r, BRow W t r R → Calls Tryz.prog 49 #[.pointer (some ⟨t, 0, none⟩), .int .i64 q] W fun e w' => e = .returned (.int .i64 (runS R q)) ∧ ∃ m, w' = W.drewN m) := Lib.hid fun W t r hb => bRun_any hb q
  clear hR h hH hO hm hm1
  go_enter Tryz.func21, Tryz.ntmps21
  go_wp2_with (first
    | (go_at_call 45; refine KU.out.mono ?_; rintro e w1 ⟨t, r, rfl, hrow, hb1⟩)
    | (go_at_call 49; refine (KC.out _ _ _ hrow).mono ?_; rintro e w2 ⟨rfl, n, rfl⟩))
  go_ret2
  exact ⟨rfl, below_drewN' hb1 _⟩
theorem sizeOw : (Tryz.prog.info? 32).map (·.size) = some 2 := by kernel_rfl
theorem spOwner_no (n : Int) (hn : ¬ (0 ≤ n ∧ n < 768)) (p : Value) (w : World) : Calls Tryz.prog 12 #[p, .int .i64 n] w fun e w' => e = .returned (.tuple #[.agg #[.int .u16 0, .int .u16 0], .int .i64 1]) ∧ Below w.heap.size w w' := by
  have KP := Lib.hid (spPoss_is n false (decide_eq_false hn))
  have hb1 := below_box w (.cells #[.int .u16 0, .int .u16 0] 32)
  have hr1 := heap_alloc_new w (.cells #[.int .u16 0, .int .u16 0] 32)
  clear hn
  go_enter Tryz.func12, Tryz.ntmps12
  go_wp2_with (first
    | (go_at_call 34; refine (KP.out _).mono ?_; rintro e w' ⟨rfl, rfl⟩)
    | (with_reducible refine wpList_store2 rfl 32 sizeOw (.tmp 4) (.tmp 11) rfl w.heap.size rfl _ _ _ _ rfl rfl rfl _ hr1 ?_; intro w5 hw5 hr5))
  refine bodyPost_ret (ret_cell2 rfl Tryz.underlying32 sizeOw _ _ w.heap.size _ _ _ _ rfl hr5 rfl) rfl ⟨rfl, hb1.trans (hw5.below (Nat.le_refl _))⟩
theorem spOwner_yes (h : SInv w P d p X) (hH : Has X.cur O k) (hO : OOk O k) {n : Nat} (hn : n < 64 * k) :
    Calls Tryz.prog 12 #[p, .int .i64 n] w fun e w' => e = .returned (.tuple #[.agg #[.int .u16 (O.getD n (0, 0)).1, .int .u16 (O.getD n (0, 0)).2], .int .i64 0]) ∧ Below w.heap.size w w' := by
  have h12 := hO.k12
  obtain ⟨g, hg⟩ : ∃ g, g = n / 64 := ⟨_, rfl⟩
  obtain ⟨j, hj⟩ : ∃ j, j = n % 64 := ⟨_, rfl⟩
  have hgk : g < k := by omega
  have hj64 : j < 64 := by omega
  have hnj : n = 64 * g + j := by omega
  have KP := Lib.hid (spPoss_is (n : Int) true (decide_eq_true (by omega)))
  have KG := Lib.hid (fun (W : World) => gGroup_any (n : Int) (by omega) W)
  have eg : grpI (n : Int) = g := by unfold grpI; rw [if_neg (by omega)]; omega
  rw [eg] at KG
  have hb1 := below_box w (.cells #[.int .u16 0, .int .u16 0] 32)
  have hr1 := heap_alloc_new w (.cells #[.int .u16 0, .int .u16 0] 32)
  obtain ⟨W1, hW1⟩ : ∃ W1, W1 = w.alloc (.cells #[.int .u16 0, .int .u16 0] 32) := ⟨_, rfl⟩
  rw [← hW1] at hb1 hr1
  have KR := Lib.hid (spRead_at (h.low hb1) hH hO hgk)
  have hz1 : w.heap.size < W1.heap.size := by rw [hW1]; simp
  have e1 := grO_getD O g hj64
  rw [← hnj] at e1
  have KR2 : Hid (Calls Tryz.prog 35 #[p, .int .i64 g] W1 fun e w' => ∃ b cap, e = .returned (.tuple #[.slice (some ⟨b, 0, none⟩) 64 cap, .int .i64 0]) ∧ b < w'.heap.size ∧
      w'.cell? ⟨b, j * 2, none⟩ = some (.int .u16 (O.getD n (0, 0)).1) ∧ w'.cell? ⟨b, j * 2 + 1, none⟩ = some (.int .u16 (O.getD n (0, 0)).2) ∧ Below W1.heap.size W1 w') := Lib.hid (KR.out.mono fun e w' ⟨b, cap, h1, h2, h3, _, h4, h5⟩ => ⟨b, cap, h1, h3, by rw [← e1]; exact (h4 j hj64).1, by rw [← e1]; exact (h4 j hj64).2, h5⟩)
  obtain ⟨x, hx⟩ : ∃ x, x = (O.getD n (0, 0)).1 := ⟨_, rfl⟩
  obtain ⟨y, hy⟩ : ∃ y, y = (O.getD n (0, 0)).2 := ⟨_, rfl⟩
  rw [← hx, ← hy] at KR2 ⊢
  have H1 := Lib.hid hW1.symm
  have HR1 := Lib.hid hr1
  have HB1 := Lib.hid hb1
  have hrem : (n : Int).tmod 64 = j := by rw [Int.tmod_eq_emod_of_nonneg (by omega)]; omega
  have ej : (j : Int) < 64 := by omega
  have HM : Hid (w.heap.size < W1.heap.size) := Lib.hid hz1
  clear h hH hO hn h12 hg hj hgk hnj eg KR e1 hx hy hW1 hr1 hb1 hz1
  go_enter Tryz.func12, Tryz.ntmps12
  go_wp2_with (first
    | (go_at_call 34; refine (KP.out _).mono ?_; rintro e w' ⟨rfl, rfl⟩)
    | (go_at_call 36; refine (KG.out _).mono ?_; rintro e w' ⟨rfl, rfl⟩)
    | (go_at_call 35; rw [H1.out]; refine KR2.out.mono ?_; rintro e w2 ⟨b, cap, rfl, hbl, c1, c2, hb2⟩; have hr2 := below_hold HR1.out hb2)
    | (with_reducible refine wpList_store2 rfl 32 sizeOw (.tmp 4) (.tmp 27) rfl w.heap.size rfl _ _ _ _ rfl rfl rfl _ hr2 ?_; intro w5 hw5 hr5))
  refine bodyPost_ret (ret_cell2 rfl Tryz.underlying32 sizeOw _ _ w.heap.size _ _ _ _ rfl hr5 rfl) rfl ⟨rfl, (HB1.out.trans (hb2.mono (Nat.le_of_lt HM.out))).trans (hw5.below (Nat.le_refl _))⟩
end
end Go.Proofs.YtkbeencjklgcnaaGreat

/- The landed store: contract of Put. -/
namespace Go.Proofs.YtkbeencjklgcnaaGreat
set_option maxRecDepth 100000
open Go.RowKit Go.Maps
set_option linter.unusedVariables false

theorem grown_cellS {w w' : World} {m b o : Nat} (h : w.grownBy w' (some m)) (hb : b < w.heap.size) (hne : b ≠ m) : w'.cell? ⟨b, o, none⟩ = w.cell? ⟨b, o, none⟩ := by
  apply World.cell?_of_block
  exact h.block b hb fun e => hne (Option.some.inj e)
theorem addS_mem {N : List Int} {n y : Int} : y ∈ addS N n ↔ y ∈ N ∨ y = n := by
  unfold addS
  split
  · exact ⟨.inl, fun h => h.elim id fun e => by rw [e]; assumption⟩
  · simp
section
variable {w : World} {P : Nat → Prop} {d p : Value} {X : XSt}
/-- Put, where it does something, in memory. -/
theorem sPut_mem {Pd : Nat → Prop} {b be bp : Nat} {q : Int} {ek : List Int} {eg : Int → Value} {ev : Int → List Int} {pk : List Int} {pg : Int → Value} {pv : Int → List Int} {ds : DS} (h : SMem w Pd b be bp d q ek eg ev pk pg pv true ds)
    {n : Int} {v : Value} {l : List Int} (hv : BSl w v l) (hl : l.length = 256) (hn : 0 ≤ n ∧ n < ds.F.length) (h768 : ds.F.length ≤ 768) (hpl : pk.length ≤ 37) (hroom : n ∈ pk ∨ pk.length < 37) :
    Calls Tryz.prog 85 #[.pointer (some ⟨b, 0, none⟩), .int .i64 n, v] w fun e w' => e = .returned (.int .i64 0) ∧ ∃ u, SMem w' Pd b be bp d q ek eg ev (addS pk n) (fun y => if y = n then u else pg y) (fun y => if y = n then l else pv y) true ds ∧
      (∀ g, u.ownBlock = some g → w.heap.size ≤ g ∧ g < w'.heap.size) ∧ w.heap.size ≤ w'.heap.size ∧ Ext (fun k => k = bp) w w' := by
  have hwf : (Lit.int .i64 n).wf = true := i64wf (by omega)
  have KA := Lib.hid (sAllows_is h true)
  have KH := Lib.hid (sHas_is h n)
  rw [decide_eq_true hn] at KH
  have KL := Lib.hid (sLoggable_is w n)
  rw [decide_eq_true (by omega)] at KL
  have c3 := h.c3
  have hlo := h.mp.look_ok hwf
  have hlen := fun ty => h.mp.len ty
  have KC := Lib.hid (fun W (hb : Below w.heap.size w W) => bClone_of (hv.below hb) (by rw [hl]; decide))
  have HB := Lib.hid (fun W (hb : Below w.heap.size w W) => h.below hb)
  have HW := Lib.hid hwf
  have HP := Lib.hid hpl
  have HLL := Lib.hid hl
  obtain ⟨ao, cap, rfl, _⟩ := hv.shape
  rw [hl] at KC ⊢
  have HBL := Lib.hid h.bl
  have HN : Hid (b < w.heap.size ∧ b ≠ bp) := Lib.hid ⟨h.bl, fun e => h.nb.2 e.symm⟩
  refine Calls.mono (R := fun e w' => e = .returned (.int .i64 0) ∧ ∃ u w3, OB w3 w.heap.size u l ∧ Below w.heap.size w w3 ∧ Mp w' bp (addS pk n) (fun y => if y = n then u else pg y) ∧ w3.grownBy w' (some bp) ∧ w'.heap.size = w3.heap.size) ?_ ?_
  · obtain ⟨uu, huu⟩ : ∃ uu, uu = (if n ∈ pk then pg n else .slice none 0 0) := ⟨_, rfl⟩
    rw [← huu] at hlo
    obtain ⟨m, hm⟩ : ∃ m, m = pk.length := ⟨_, rfl⟩
    rw [← hm] at hlen HP hroom
    have HM := Lib.hid hm
    by_cases hin : n ∈ pk
    · rw [decide_eq_true hin] at hlo
      clear h hv hn h768 hroom hpl hwf huu hin hl hm
      go_enter Tryz.func85, Tryz.ntmps85
      go_wp2_with (first
        | (go_at_call 37; (with_reducible refine KA.out.mono ?_); rintro e w' ⟨rfl, rfl⟩)
        | (go_at_call 99; (with_reducible refine KH.out.mono ?_); rintro e w' ⟨rfl, rfl⟩)
        | (go_at_call 116; (with_reducible refine KL.out.mono ?_); rintro e w' ⟨rfl, rfl⟩))
      have KC1 := Lib.hid (KC.out w.drew (below_drewN' (Below.refl _ _) 1))
      have d3 : w.drew.cell? ⟨b, 3, none⟩ = some (.map (some bp)) := c3
      go_region_held3 (fun W => W.cell? ⟨b, 3, none⟩ = some (.map (some bp))) (first | exact f3 | exact e3 | exact d3) (first
        | (go_at_call 101; (with_reducible refine KC1.out.mono ?_); rintro e w3 ⟨u, rfl, hob, hbe⟩
           have e3 := (hbe.cell (p := ⟨b, 3, none⟩) HBL.out).trans c3
           have HOB := Lib.hid hob
           have HBE := Lib.hid (show Below w.heap.size w w3 from (below_drewN' (Below.refl _ _) 1).trans hbe)
           obtain ⟨dd, hdd⟩ := Blo.hdr (v := u) ⟨hob.more (Nat.zero_le _), HLL.out⟩
           obtain ⟨w4, hrun4, hm4, hg4, hs4⟩ := (HB.out _ HBE.out).mp.store HW.out hdd (by have := HP.out; have := HM.out; omega)
           have f3 : w4.cell? ⟨b, 3, none⟩ = some (.map (some bp)) := (grown_cellS hg4 (Nat.lt_of_lt_of_le HBL.out HBE.out.size) HN.out.2).trans e3
           have HM4 := Lib.hid hm4
           have HG4 := Lib.hid hg4
           have HS4 := Lib.hid hs4
           clear hob hbe hdd hm4 hg4 hs4))
      go_wp2
      go_ret
      exact ⟨rfl, u, w3, HOB.out, HBE.out, HM4.out, HG4.out, HS4.out⟩
    · have hm37 : (m : Int) < 37 := by have := hroom.resolve_left hin; omega
      rw [decide_eq_false hin] at hlo
      clear h hv hn h768 hroom hpl hwf huu hin hl hm
      go_enter Tryz.func85, Tryz.ntmps85
      go_wp2_with (first
        | (go_at_call 37; (with_reducible refine KA.out.mono ?_); rintro e w' ⟨rfl, rfl⟩)
        | (go_at_call 99; (with_reducible refine KH.out.mono ?_); rintro e w' ⟨rfl, rfl⟩)
        | (go_at_call 116; (with_reducible refine KL.out.mono ?_); rintro e w' ⟨rfl, rfl⟩))
      have KC1 := Lib.hid (KC.out w.drew (below_drewN' (Below.refl _ _) 1))
      have d3 : w.drew.cell? ⟨b, 3, none⟩ = some (.map (some bp)) := c3
      go_region_held3 (fun W => W.cell? ⟨b, 3, none⟩ = some (.map (some bp))) (first | exact f3 | exact e3 | exact d3) (first
        | (go_at_call 101; (with_reducible refine KC1.out.mono ?_); rintro e w3 ⟨u, rfl, hob, hbe⟩
           have e3 := (hbe.cell (p := ⟨b, 3, none⟩) HBL.out).trans c3
           have HOB := Lib.hid hob
           have HBE := Lib.hid (show Below w.heap.size w w3 from (below_drewN' (Below.refl _ _) 1).trans hbe)
           obtain ⟨dd, hdd⟩ := Blo.hdr (v := u) ⟨hob.more (Nat.zero_le _), HLL.out⟩
           obtain ⟨w4, hrun4, hm4, hg4, hs4⟩ := (HB.out _ HBE.out).mp.store HW.out hdd (by have := HP.out; have := HM.out; omega)
           have f3 : w4.cell? ⟨b, 3, none⟩ = some (.map (some bp)) := (grown_cellS hg4 (Nat.lt_of_lt_of_le HBL.out HBE.out.size) HN.out.2).trans e3
           have HM4 := Lib.hid hm4
           have HG4 := Lib.hid hg4
           have HS4 := Lib.hid hs4
           clear hob hbe hdd hm4 hg4 hs4))
      go_wp2
      go_ret
      exact ⟨rfl, u, w3, HOB.out, HBE.out, HM4.out, HG4.out, HS4.out⟩
  · rintro e w' ⟨rfl, u, w3, hob, hbe, hmp, hgr, hsz⟩
    have h3 := HB.out w3 hbe
    have hblo : Blo w3 u l := ⟨hob.more (Nat.zero_le _), HLL.out⟩
    have hk : ∀ k, k < w3.heap.size → k ≠ bp → w'.heap[k]? = w3.heap[k]? := fun k hk hn => hgr.block k hk fun e => hn (Option.some.inj e)
    have hext : Ext (fun k => k = bp) w w' := (Ext.of_below hbe).trans (P2 := fun k => k = bp) (Ext.of_grown hgr rfl) fun x _ e => e
    refine ⟨rfl, u, ⟨?_, ?_, h3.q0, ?_, hmp, h3.ne, ?_, ?_⟩, ?_, hext.size, hext⟩
    · rw [hk b h3.bl fun e => h3.nb.2 e.symm]; exact h3.hb
    · exact h3.dk.same fun k hp => hk k (h3.dk.lt k hp) fun e => Mp.nd h3.dk h3.mp (e ▸ hp)
    · exact h3.me.keep (hk be h3.me.lt h3.ne)
    · exact fun x hx => (h3.re x hx).keep fun g hg => hk g ((h3.re x hx).lt hg) ((h3.re x hx).nm hg h3.mp)
    · intro x hx
      by_cases e : x = n
      · rw [if_pos e, if_pos e]
        exact hblo.keep fun g hg => hk g (hblo.lt hg) (hblo.nm hg h3.mp)
      · rw [if_neg e, if_neg e]
        have hx' := (addS_mem.1 hx).resolve_right e
        exact (h3.rp x hx').keep fun g hg => hk g ((h3.rp x hx').lt hg) ((h3.rp x hx').nm hg h3.mp)
    · intro g hg
      have := World.ownsRow.lt hob.2 g hg
      exact ⟨this.1, by rw [hsz]; exact this.2⟩
theorem sPut_of (h : SInv w P d p X) {n : Int} {v : Value} {l : List Int} (hv : BSl w v l) (hn : -9223372036854775808 ≤ n ∧ n ≤ 9223372036854775807) (hj : OutJ n.toNat) : Calls Tryz.prog 85 #[p, .int .i64 n, v] w (XOut SInv w P d p (xPut X n l)) := by
  have h' := h
  obtain ⟨b, be, bp, Pd, q, ek, eg, ev, pk, pg, pv, rfl, hm, hpl, ho, hlt⟩ := h
  have hFl := hpl.ok.lst.1
  have h768 := hpl.n64.2
  have hwf : (Lit.int .i64 n).wf = true := i64wf hn
  have same : ∀ z : Int, Calls Tryz.prog 85 #[.pointer (some ⟨b, 0, none⟩), .int .i64 n, v] w (fun e w' => e = .returned (.int .i64 z) ∧ w = w') → Calls Tryz.prog 85 #[.pointer (some ⟨b, 0, none⟩), .int .i64 n, v] w (XOut SInv w P d (.pointer (some ⟨b, 0, none⟩)) (z, X)) := fun z h => h.mono fun e w' ⟨he, hw⟩ => by
    subst hw
    exact ⟨he, P, h', Chg.refl _ _⟩
  have KA := Lib.hid (sAllows_is hm true)
  have KH := Lib.hid (sHas_is hm n)
  have KL := Lib.hid (sLoggable_is w n)
  obtain ⟨ao, cap, hvv, _⟩ := hv.shape
  unfold xPut
  cases hw : X.wi
  · rw [if_pos rfl]
    refine same 17 ?_
    rw [hw] at KA
    clear h' hm hpl ho hlt hFl h768 same hv hj hn KH KL hwf
    go_enter Tryz.func85, Tryz.ntmps85
    go_wp2_with (go_at_call 37; (with_reducible refine KA.out.mono ?_); rintro e w' ⟨rfl, rfl⟩)
    go_ret
    exact ⟨rfl, rfl⟩
  · rw [if_neg (by decide)]
    rw [hw] at KA hm
    obtain ⟨hput, hcl, hcv⟩ := hpl.wi1 hw
    by_cases ha : n < 0 ∨ (X.is.length : Int) ≤ n ∨ l.length ≠ 256
    · rw [if_pos ha]
      refine same 1 ?_
      by_cases hr : 0 ≤ n ∧ n < X.ds.F.length
      · rw [decide_eq_true hr] at KH
        rw [decide_eq_true (by omega)] at KL
        have hl : ¬ (l.length : Int) = 256 := by omega
        obtain ⟨L, hL⟩ : ∃ L, L = l.length := ⟨_, rfl⟩
        rw [← hL] at hvv hl
        subst hvv
        clear h' hm hpl ho hlt hFl h768 same hv hj hn hwf hput hcl hcv ha hr hL
        go_enter Tryz.func85, Tryz.ntmps85
        go_wp2_with (first
          | (go_at_call 37; (with_reducible refine KA.out.mono ?_); rintro e w' ⟨rfl, rfl⟩)
          | (go_at_call 99; (with_reducible refine KH.out.mono ?_); rintro e w' ⟨rfl, rfl⟩)
          | (go_at_call 116; (with_reducible refine KL.out.mono ?_); rintro e w' ⟨rfl, rfl⟩))
        go_ret
        exact ⟨rfl, rfl⟩
      · rw [decide_eq_false hr] at KH
        clear h' hm hpl ho hlt hFl h768 same hv hj hn hwf hput hcl hcv ha hr KL
        go_enter Tryz.func85, Tryz.ntmps85
        go_wp2_with (first
          | (go_at_call 37; (with_reducible refine KA.out.mono ?_); rintro e w' ⟨rfl, rfl⟩)
          | (go_at_call 99; (with_reducible refine KH.out.mono ?_); rintro e w' ⟨rfl, rfl⟩))
        go_ret
        exact ⟨rfl, rfl⟩
    · rw [if_neg ha]
      have hr : 0 ≤ n ∧ n < X.ds.F.length := by omega
      have hl : l.length = 256 := by omega
      by_cases hf : n ∉ X.put ∧ 37 ≤ X.put.length
      · rw [if_pos hf]
        refine same 13 ?_
        rw [hput] at hf
        rw [decide_eq_true hr] at KH
        rw [decide_eq_true (by omega)] at KL
        have c3 := hm.c3
        have hlo := hm.mp.look_ok hwf
        have hlen := fun ty => hm.mp.len ty
        rw [if_neg hf.1, decide_eq_false hf.1] at hlo
        have hm37 : 37 ≤ (pk.length : Int) := by omega
        obtain ⟨m, hmm⟩ : ∃ m, m = pk.length := ⟨_, rfl⟩
        rw [← hmm] at hlen hm37
        rw [hl] at hvv
        subst hvv
        clear h' hm hpl ho hlt hFl h768 same hv hj hn hwf hput hcl hcv ha hr hf hl hmm
        go_enter Tryz.func85, Tryz.ntmps85
        go_wp2_with (first
          | (go_at_call 37; (with_reducible refine KA.out.mono ?_); rintro e w' ⟨rfl, rfl⟩)
          | (go_at_call 99; (with_reducible refine KH.out.mono ?_); rintro e w' ⟨rfl, rfl⟩)
          | (go_at_call 116; (with_reducible refine KL.out.mono ?_); rintro e w' ⟨rfl, rfl⟩))
        go_ret
        exact ⟨rfl, rfl⟩
      · rw [if_neg hf]
        refine (sPut_mem hm hv hl hr (by omega) hpl.pl ?_).mono ?_
        · rw [hput] at hf
          by_cases hin : n ∈ pk
          · exact .inl hin
          · refine .inr ?_
            have : ¬ 37 ≤ pk.length := fun h => hf ⟨hin, h⟩
            omega
        · rintro e w' ⟨rfl, u, hm', hu, hsz, hext⟩
          have hP : ∀ k, k = bp → P k := fun k e => ho k (.inr (.inr (.inr (.inl e))))
          refine ⟨rfl, grP P w w', ⟨b, be, bp, Pd, q, ek, eg, ev, addS pk n, _, _, rfl, hm', ?_, ?_, ?_⟩, (hext.sub hP).chg⟩
          · have hnn : ((n.toNat : Nat) : Int) = n := Int.toNat_of_nonneg hr.1
            refine { hpl with ok := { hpl.ok with call := fun _ => by show (X.call.set _ _).length = _; rw [List.length_set]; exact hcl }, kp := ?_, pl := ?_, wi0 := fun e => Bool.noConfusion (show true = false from e), wi1 := fun _ => ⟨?_, ?_, ?_⟩ }
            · intro x hx
              rcases addS_mem.1 hx with hx | rfl
              · exact hpl.kp x hx
              · exact ⟨hr.1, by show x < (X.is.length : Int); omega, hj⟩
            · unfold addS
              split
              · exact hpl.pl
              · rename_i hin
                have : ¬ 37 ≤ pk.length := fun h => hf (by rw [hput]; exact ⟨hin, h⟩)
                rw [List.length_append, List.length_singleton]; omega
            · show addS X.put n = addS pk n
              rw [hput]
            · show (X.call.set _ _).length = _
              rw [List.length_set]; exact hcl
            · intro i hoi hi
              have hi' : i < X.is.length := hi
              show (X.call.set n.toNat l).getD i [] = _
              by_cases e : n.toNat = i
              · subst e
                rw [List.getD_eq_getElem?_getD, List.getElem?_set_self (by omega), if_pos (addS_mem.2 (.inr hnn)), if_pos hnn]; rfl
              · have hne : (i : Int) ≠ n := fun e' => e (by omega)
                rw [List.getD_eq_getElem?_getD, List.getElem?_set_ne e, ← List.getD_eq_getElem?_getD, hcv i hoi hi']
                by_cases hin : (i : Int) ∈ pk
                · rw [if_pos hin, if_pos (addS_mem.2 (.inl hin)), if_neg hne]
                · rw [if_neg hin, if_neg fun h => hin ((addS_mem.1 h).resolve_right hne)]
          · intro k hk
            rcases hk with hk | rfl | rfl | rfl | ⟨x, hx, hg⟩ | ⟨x, hx, hg⟩
            · exact .inl (ho k (.inl hk))
            · exact .inl (ho _ (.inr (.inl rfl)))
            · exact .inl (ho _ (.inr (.inr (.inl rfl))))
            · exact .inl (ho _ (.inr (.inr (.inr (.inl rfl)))))
            · exact .inl (ho k (.inr (.inr (.inr (.inr (.inl ⟨x, hx, hg⟩))))))
            · by_cases e : x = n
              · have hg : (if x = n then u else pg x).ownBlock = some k := hg
                rw [if_pos e] at hg
                exact .inr (hu k hg)
              · have hg : (if x = n then u else pg x).ownBlock = some k := hg
                rw [if_neg e] at hg
                exact .inl (ho k (.inr (.inr (.inr (.inr (.inr ⟨x, (addS_mem.1 hx).resolve_right e, hg⟩))))))
          · rintro k (hk | hk)
            · exact Nat.lt_of_lt_of_le (hlt k hk) hsz
            · exact hk.2
end
end Go.Proofs.YtkbeencjklgcnaaGreat

/- The landed space writes a group: SetOwner, Give. -/
namespace Go.Proofs.YtkbeencjklgcnaaGreat
set_option maxRecDepth 100000
open Go.RowKit BM
set_option linter.unusedVariables false

section
variable {w : World} {P : Nat → Prop} {d p : Value} {X : XSt} {O D : List (Int × Int)} {k : Nat}
theorem OB.far {B : Nat} {v : Value} {l : List Int} (h : OB w B v l) (hP : ∀ i, P i → i < B) : Apt P v := fun ad n cap e hn hp => by
  have := (World.ownsRow.lt h.2 ad.block (by rw [e]; rfl)).1
  have := hP _ hp
  omega
/-- The store behind a write of group g's owners. -/
def putX (X : XSt) (g : Nat) (D : List (Int × Int)) : XSt := { X with call := putG X.call g D, put := addS (addS X.put ((dscN g : Int) + 1)) (dscN g : Int) }
theorem xPut_ok {X : XSt} {n : Int} {l : List Int} (hw : X.wi = true) (h0 : 0 ≤ n) (h1 : n < X.is.length) (hl : l.length = 256) (hp : X.put.length < 37) : xPut X n l = (0, { X with call := X.call.set n.toNat l, put := addS X.put n }) := by
  unfold xPut
  rw [if_neg (by rw [hw]; decide), if_neg (by omega), if_neg (by omega)]
theorem spWrite_of {v : Value} (h : SInv w P d p X) (hw : X.wi = true) (hp0 : X.put = []) (hlen : X.is.length = 64 * k) (h12 : k ≤ 12) {g : Nat} (hg : g < k) (hs : OwSl w v D) (ha : allO D = true) :
    Calls Tryz.prog 51 #[p, .int .i64 g, v] w fun e w' => e = .returned (.int .i64 0) ∧ ∃ P', SInv w' P' d p (putX X g D) ∧ Chg P P' w w' := by
  have hin := dscN_in hg
  have hlt := h.lt
  have KP := Lib.hid (grPage_yes hs ha)
  have KD : Hid (∀ W : World, Below w.heap.size w W → Calls Tryz.prog 70 #[.int .i64 g, v] W fun e w' => ∃ u, e = .returned (.tuple #[u, .int .i64 0]) ∧ OB w' W.heap.size u (descS g (usedK D 64)) ∧ Below W.heap.size W w') := Lib.hid fun W hb => spDesc_is (hs.below hb) (g : Int) (by omega) (by omega) ha
  have KGd := Lib.hid (fun (W : World) => gDesc_any (g : Int) W)
  have KGo := Lib.hid (fun (W : World) => gOwners_any (g : Int) W)
  rw [dscN_I (show g < 12 by omega)] at KGd
  rw [ownN_I (show g < 12 by omega)] at KGo
  have hD := allO_len ha
  have e1 : ((dscN g : Int) + 1).toNat = dscN g + 1 := by omega
  have x1 := xPut_ok (X := X) (n := (dscN g : Int) + 1) (l := pageS D) hw (by omega) (by omega) (pageS_length hD) (by rw [hp0]; decide)
  rw [e1] at x1
  have x2 := xPut_ok (X := { X with call := X.call.set (dscN g + 1) (pageS D), put := addS X.put ((dscN g : Int) + 1) }) (n := (dscN g : Int)) (l := descS g (usedK D 64)) hw (by omega) (by show _ < (X.is.length : Int); omega) (by rw [descS]; exact sealS_length _ (by rw [descC_length _ _ (usedK_length _ _)]; decide)) (by show (addS X.put _).length < 37; rw [hp0]; simp [addS])
  have KS1 : Hid (∀ (W : World) (u : Value), Below w.heap.size w W → BSl W u (pageS D) → Calls Tryz.prog 85 #[p, .int .i64 ((dscN g : Int) + 1), u] W fun e w' => e = .returned (.int .i64 0) ∧ ∃ P', SInv w' P' d p { X with call := X.call.set (dscN g + 1) (pageS D), put := addS X.put ((dscN g : Int) + 1) } ∧ Chg P P' W w') := Lib.hid fun W u hb hu => by
    have := sPut_of (h.low hb) hu (n := (dscN g : Int) + 1) (by omega) (by rw [e1]; exact hin.2.2)
    rw [x1] at this
    exact this
  have KS2 : Hid (∀ (W : World) (u : Value) (P2 : Nat → Prop), SInv W P2 d p { X with call := X.call.set (dscN g + 1) (pageS D), put := addS X.put ((dscN g : Int) + 1) } → BSl W u (descS g (usedK D 64)) → Calls Tryz.prog 85 #[p, .int .i64 (dscN g : Nat), u] W fun e w' => e = .returned (.int .i64 0) ∧ ∃ P', SInv w' P' d p (putX X g D) ∧ Chg P2 P' W w') := Lib.hid fun W u P2 h2 hu => by
    have := sPut_of h2 hu (n := (dscN g : Int)) (by omega) (by rw [Int.toNat_natCast]; exact hin.2.1)
    rw [x2] at this
    exact this
  have HLT := Lib.hid hlt
  clear h hw hp0 hlen h12 hg hs ha hin hlt hD e1 x1 x2
  go_enter Tryz.func51, Tryz.ntmps51
  go_wp2_with (first
    | (go_at_call 84; refine KP.out.mono ?_; rintro e w1 ⟨vp, rfl, hvp, hb1⟩)
    | (go_at_call 70; refine (KD.out _ hb1).mono ?_; rintro e w2 ⟨vd, rfl, hvd, hb2⟩; have hb02 := hb1.trans (hb2.mono hb1.size); have hvp2 := hvp.below hb2; have hfar := hvd.far (P := P) (fun i hi => Nat.lt_of_lt_of_le (HLT.out i hi) hb1.size))
    | (go_at_call 66; refine (KGd.out _).mono ?_; rintro e w' ⟨rfl, rfl⟩)
    | (go_at_call 67; refine (KGo.out _).mono ?_; rintro e w' ⟨rfl, rfl⟩)
    | (go_at_call 85; (with_reducible refine (KS1.out _ _ hb02 hvp2.bsl).mono ?_); rintro e w3 ⟨rfl, P3, hi3, hc3⟩; have hvd3 := (hvd.bsl.chg hfar hc3).1)
    | (go_at_call 85; (with_reducible refine (KS2.out _ _ _ hi3 hvd3).mono ?_); rintro e w4 ⟨rfl, P4, hi4, hc4⟩))
  go_ret
  exact ⟨rfl, P4, hi4, ((Chg.of_below hb02).trans hc3).trans hc4⟩
end
end Go.Proofs.YtkbeencjklgcnaaGreat

/- The landed space: SetOwner. -/
namespace Go.Proofs.YtkbeencjklgcnaaGreat
set_option maxRecDepth 100000
open Go.RowKit BM
set_option linter.unusedVariables false

theorem spSet_no {n : Int} (hm : n ≤ 9223372036854775807) {i j : Int} (hi : 0 ≤ i ∧ i ≤ 65535) (hj : 0 ≤ j ∧ j ≤ 65535) (hno : openN n = false ∨ frmO i j = false ∨ i = 65535) (p : Value) (w : World) :
    Calls Tryz.prog 22 #[p, .int .i64 n, .agg #[.int .u16 i, .int .u16 j]] w fun e w' => e = .returned (.int .i64 1) ∧ Below w.heap.size w w' := by
  have hb1 := below_box w (.cells #[.int .u16 i, .int .u16 j] 32)
  cases ho : openN n
  · have KO := Lib.hid (spOpen_is n hm false ho)
    clear hno ho
    go_enter Tryz.func22, Tryz.ntmps22
    go_wp2_with (go_at_call 50; refine (KO.out _).mono ?_; rintro e w' ⟨rfl, rfl⟩)
    go_ret
    exact ⟨rfl, hb1⟩
  · have KO := Lib.hid (spOpen_is n hm true ho)
    cases hf : frmO i j
    · have KF := Lib.hid (grForm_is i j hi hj false hf)
      clear hno ho hf
      go_enter Tryz.func22, Tryz.ntmps22
      go_wp2_with (first
        | (go_at_call 50; refine (KO.out _).mono ?_; rintro e w' ⟨rfl, rfl⟩)
        | (go_at_call 40; refine (KF.out _).mono ?_; rintro e w2 ⟨rfl, hb2⟩))
      go_ret
      exact ⟨rfl, hb1.trans (hb2.mono hb1.size)⟩
    · obtain rfl : i = 65535 := by
        rcases hno with h | h | h
        · rw [ho] at h; cases h
        · rw [hf] at h; cases h
        · exact h
      have KF := Lib.hid (grForm_is 65535 j hi hj true hf)
      have c0 : (w.alloc (.cells #[.int .u16 65535, .int .u16 j] 32)).cell? ⟨w.heap.size, 0, none⟩ = some (.int .u16 65535) := cell_of_row _ _ _ _ _ _ (heap_alloc_new w _)
      have HC := Lib.hid c0
      have HB1 := Lib.hid hb1
      clear hno ho hf hb1 c0
      go_enter Tryz.func22, Tryz.ntmps22
      go_wp2_with (first
        | (go_at_call 50; refine (KO.out _).mono ?_; rintro e w' ⟨rfl, rfl⟩)
        | (go_at_call 40; refine (KF.out _).mono ?_; rintro e w2 ⟨rfl, hb2⟩; have c2 := (hb2.cell (p := ⟨w.heap.size, 0, none⟩) (by simp)).trans HC.out))
      go_ret
      exact ⟨rfl, HB1.out.trans (hb2.mono HB1.out.size)⟩
section
variable {w : World} {P : Nat → Prop} {d p : Value} {X : XSt} {O D : List (Int × Int)} {k : Nat}
/-- A group's owners, in a row of their own. -/
theorem spRead_row {g : Nat} (h : SInv w P d p X) (hH : Has X.cur O k) (hO : OOk O k) (hg : g < k) :
    Calls Tryz.prog 35 #[p, .int .i64 g] w fun e w' => ∃ b cap cur, e = .returned (.tuple #[.slice (some ⟨b, 0, none⟩) 64 cap, .int .i64 0]) ∧ w.heap.size ≤ b ∧ w'.heap[b]? = some (.cells cur 32 (0, 0)) ∧ cur.toList.take ((grO O g).length * 2) = ownC (grO O g) ∧ (grO O g).length * 2 ≤ cur.size ∧ 64 ≤ cap ∧ cap ≤ maxLen ∧ cur.size = cap * 2 ∧ Below w.heap.size w w' := by
  refine (spRead_at h hH hO hg).mono fun e w' ⟨b, cap, he, hb, hbl, hv, _, hbe⟩ => ?_
  have hl := grO_length hO.len hg
  rcases hv.2.2 with ⟨e0, _⟩ | ⟨g', cap', cur, ev, _, hh, hnc, hcm, hcs, ht⟩
  · cases e0
  · injection ev with e1 _ e3
    injection e1 with e1
    injection e1 with e1
    subst e1; subst e3
    exact ⟨b, cap, cur, he, hb, hh, ht, by omega, by omega, hcm, hcs, hbe⟩
theorem owSl_row {w : World} {b cap : Nat} {cur : Array Value} {D : List (Int × Int)} (hB : OwB D) (hD : D.length = 64) (hh : w.heap[b]? = some (.cells cur 32 (0, 0))) (ht : cur.toList.take (D.length * 2) = ownC D) (h64 : 64 ≤ cap) (hm : cap ≤ maxLen) (hs : cur.size = cap * 2) : OwSl w (.slice (some ⟨b, 0, none⟩) 64 cap) D := by
  have : OwR w 0 (.slice (some ⟨b, 0, none⟩) 64 cap) D := ⟨hB, by rw [ownC_length], .inr ⟨b, cap, cur, by rw [hD], Nat.zero_le _, hh, by omega, hm, hs, ht⟩⟩
  exact this.sl
theorem spSet_yes (h : SInv w P d p X) (hw : X.wi = true) (hp0 : X.put = []) (hH : Has X.call O k) (hO : OOk O k) {n : Nat} (hn : n < 64 * k) (hx : fixB (n : Int) = false) {i j : Int} (hi : 0 ≤ i ∧ i ≤ 65535) (hj : 0 ≤ j ∧ j ≤ 65535) (hf : frmO i j = true) (hne : i ≠ 65535) :
    Calls Tryz.prog 22 #[p, .int .i64 n, .agg #[.int .u16 i, .int .u16 j]] w fun e w' => e = .returned (.int .i64 0) ∧ ∃ P', SInv w' P' d p (putX X (n / 64) (grO (O.set n (i, j)) (n / 64))) ∧ Chg P P' w w' := by
  have h12 := hO.k12
  have hcur : X.cur = X.call := by unfold XSt.cur; rw [if_pos hw]
  have hH' : Has X.cur O k := by rw [hcur]; exact hH
  obtain ⟨g, hg⟩ : ∃ g, g = n / 64 := ⟨_, rfl⟩
  obtain ⟨t, ht⟩ : ∃ t, t = n % 64 := ⟨_, rfl⟩
  have hgk : g < k := by omega
  have ht64 : t < 64 := by omega
  have hO2 := hO.set hn hx hi hj hf hne
  have eD : grO (O.set n (i, j)) (n / 64) = (grO O g).set t (i, j) := by rw [hg, ht]; exact grO_set_self O n (i, j)
  obtain ⟨D, hD⟩ : ∃ D, D = (grO O g).set t (i, j) := ⟨_, rfl⟩
  rw [eD, ← hD, ← hg]
  obtain ⟨dB, dA, _⟩ := hO2.gr (g := n / 64) (by omega)
  rw [eD, ← hD] at dB dA
  have gL := grO_length hO.len hgk
  have dL : D.length = 64 := allO_len dA
  have hlen : X.is.length = 64 * k := by
    obtain ⟨_, _, _, _, _, _, _, _, _, _, _, _, _, hpl, _⟩ := h
    rw [← hpl.ok.curLen]; exact hH'.len
  have KO := Lib.hid (spOpen_is (n : Int) (by omega) true (by unfold openN; rw [decide_eq_true (by omega), hx]; rfl))
  have KF := Lib.hid (grForm_is i j hi hj true hf)
  have KG := Lib.hid (fun (W : World) => gGroup_any (n : Int) (by omega) W)
  have eg : grpI (n : Int) = g := by unfold grpI; rw [if_neg (by omega)]; omega
  rw [eg] at KG
  have hb1 := below_box w (.cells #[.int .u16 i, .int .u16 j] 32)
  have hr1 := heap_alloc_new w (.cells #[.int .u16 i, .int .u16 j] 32)
  obtain ⟨W1, hW1⟩ : ∃ W1, W1 = w.alloc (.cells #[.int .u16 i, .int .u16 j] 32) := ⟨_, rfl⟩
  rw [← hW1] at hb1 hr1
  have hz1 : w.heap.size < W1.heap.size := by rw [hW1]; simp
  have KR : Hid (∀ W, Below w.heap.size w W → Calls Tryz.prog 35 #[p, .int .i64 g] W _) := Lib.hid fun W hb => spRead_row (h.low hb) hH' hO hgk
  have hlt := h.lt
  have HFIN : Hid (∀ (W w' : World) (b cap : Nat) (cur cur' : Array Value), Below w.heap.size w W → w.heap.size ≤ b → Wrote W w' b → w'.heap[b]? = some (.cells cur' 32 (0, 0)) → cur'.size = cur.size → cur'.toList.take ((grO O g).length * 2) = ownC ((grO O g).set t (i, j)) → 64 ≤ cap → cap ≤ maxLen → cur.size = cap * 2 →
      Below w.heap.size w w' ∧ SInv w' P d p X ∧ OwSl w' (.slice (some ⟨b, 0, none⟩) 64 cap) D) := Lib.hid fun W w' b cap cur cur' hb hwb hwr hh hs ht' h64 hcm hcs => by
    have hbe := hb.trans (hwr.below hwb)
    exact ⟨hbe, h.low hbe, owSl_row dB dL hh (by rw [dL, hD, ← ht', gL]) h64 hcm (by omega)⟩
  have KW2 : Hid (∀ (W : World) (v : Value), SInv W P d p X → OwSl W v D → Calls Tryz.prog 51 #[p, .int .i64 g, v] W fun e w' => e = .returned (.int .i64 0) ∧ ∃ P', SInv w' P' d p (putX X g D) ∧ Chg P P' W w') := Lib.hid fun W v hi hs => spWrite_of hi hw hp0 hlen h12 hgk hs dA
  have H1 := Lib.hid hW1.symm
  have HR1 := Lib.hid hr1
  have HB1 := Lib.hid hb1
  have hrem : (n : Int).tmod 64 = t := by rw [Int.tmod_eq_emod_of_nonneg (by omega)]; omega
  have et : (t : Int) < 64 := by omega
  have HM : Hid (w.heap.size < W1.heap.size) := Lib.hid hz1
  have HTL : Hid (t < (grO O g).length) := Lib.hid (by omega)
  have hib : (i == 65535) = false := by simpa using hne
  have cells2 : Hid (∀ W, Below W1.heap.size W1 W → W.cell? ⟨w.heap.size, 0, none⟩ = some (.int .u16 i) ∧ W.cell? ⟨w.heap.size, 1, none⟩ = some (.int .u16 j)) := Lib.hid fun W hb => by
    have hr := below_hold hr1 hb
    exact ⟨cell_of_row _ _ _ _ _ _ hr, cell_of_row _ _ _ _ _ _ hr⟩
  clear h hw hp0 hH hO hn hx hi hj hf hne h12 hcur hH' hg ht hgk ht64 hO2 eD hD dB dA gL dL hlen eg hW1 hr1 hb1 hz1 hlt
  go_enter Tryz.func22, Tryz.ntmps22
  go_wp2_with (first
    | (go_at_call 50; refine (KO.out _).mono ?_; rintro e w' ⟨rfl, rfl⟩)
    | (go_at_call 40; rw [H1.out]; refine (KF.out _).mono ?_; rintro e w2 ⟨rfl, hb2⟩; obtain ⟨c20, c21⟩ := cells2.out _ hb2; have hb02 := HB1.out.trans (hb2.mono (Nat.le_of_lt HM.out)))
    | (go_at_call 36; refine (KG.out _).mono ?_; rintro e w' ⟨rfl, rfl⟩)
    | (go_at_call 35; refine (KR.out _ hb02).mono ?_; rintro e w3 ⟨b, cap, cur, rfl, hbb, hg3, ht3, hs3, h64, hcm, hcs, hb3⟩; have hb13 := hb2.trans (hb3.mono hb2.size); obtain ⟨c30, c31⟩ := cells2.out _ hb13; have hb03 := hb02.trans (hb3.mono hb02.size); have hwb := Nat.le_trans hb02.size hbb)
    | (with_reducible refine wpList_store_owp rfl (.tmp 38) (.tmp 37) rfl b t (grO O g) cur i j rfl rfl hg3 ht3 hs3 HTL.out ?_; intro w4 cur4 hw4 hg4 hs4 ht4
       obtain ⟨hb04, hi4, ho4⟩ := HFIN.out w3 w4 b cap cur cur4 hb03 hwb hw4 hg4 hs4 ht4 h64 hcm hcs
       clear hw4 hg4 hs4 ht4)
    | (go_at_call 51; refine (KW2.out _ _ hi4 ho4).mono ?_; rintro e w5 ⟨rfl, P5, hi5, hc5⟩))
  go_ret
  exact ⟨rfl, P5, hi5, (Chg.of_below hb04).trans hc5⟩
end
end Go.Proofs.YtkbeencjklgcnaaGreat
