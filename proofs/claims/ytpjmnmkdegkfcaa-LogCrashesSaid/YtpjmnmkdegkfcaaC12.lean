/- The law's functions of layer 10: want. -/
import Derived.BigRegion
import Derived.StillTailTactics
import Derived.OrdersHeld
import Derived.Deep.RegionHeld
import Derived.Great.BuildSlice
import Derived.Test.YtpjmnmkdegkfcaaC11
import Derived.Test.YtpjmnmkdegkfcaaC8
namespace Go.Proofs.Ytpjmnmkdegkfcaa
set_option maxRecDepth 100000
open Go.RowKit
set_option linter.unusedVariables false

theorem BBR.row {w : World} {B g n cap : Nat} {L : List (List Int)} (h : BBR w B (.slice (some ⟨g, 0, none⟩) n cap) L) : ∃ cur : Array Value, w.heap[g]? = some (.cells cur 40 (0, 0)) ∧ L.length ≤ cur.size ∧ B ≤ g := by
  obtain ⟨vs, hl, hr, ho⟩ := h
  rcases ho.2 with ⟨hv, _⟩ | ⟨g', cap', cur, hv, hg, hh, hnc, hcm, hcs, ht⟩
  · simp at hv
  · obtain rfl : g = g' := by have := Option.some.inj (Value.slice.inj hv).1; injection this
    exact ⟨cur, hh, by omega, hg⟩
theorem BBR.set {w : World} {B g n cap : Nat} {L : List (List Int)} (h : BBR w B (.slice (some ⟨g, 0, none⟩) n cap) L) {x : Nat} (hx : x < L.length) {y : Value} {l : List Int} (hy : BElt w B y l) : BBR (w.setCell ⟨g, x, none⟩ y) B (.slice (some ⟨g, 0, none⟩) n cap) (L.set x l) := by
  obtain ⟨vs, hl, hr, ho⟩ := h
  rcases ho.2 with ⟨hv, _⟩ | ⟨g', cap', cur, hv, hg, hh, hnc, hcm, hcs, ht⟩
  · simp at hv
  · obtain rfl : g = g' := by have := Option.some.inj (Value.slice.inj hv).1; injection this
    have hw := Wrote.setCell w g x y
    have hgr : w.grownBy (w.setCell ⟨g, x, none⟩ y) (some g) :=
      ⟨hw.1, hw.2.1, hw.2.2.1, by rw [hw.2.2.2.1]; exact Nat.le_refl _, fun b hb hne => hw.2.2.2.2 b (fun e => hne (by rw [e]))⟩
    have hrow : ∀ g', some g = some g' → B ≤ g' ∧ ∃ cur, w.heap[g']? = some (.cells cur 40 (0, 0)) := fun g' e => by
      obtain rfl := Option.some.inj e
      exact ⟨hg, _, hh⟩
    refine ⟨vs.set x y, by rw [List.length_set, List.length_set]; exact hl, fun j hj => ?_, by rw [List.length_set, List.length_set]; exact ho.1, .inr ⟨g, cap', cur.setIfInBounds x y, by rw [List.length_set]; exact hv, hg, ?_, by rw [List.length_set]; exact hnc, hcm, by rw [Array.size_setIfInBounds]; exact hcs, ?_⟩⟩
    · rw [List.length_set] at hj
      by_cases e : j = x
      · subst e
        have e1 : (vs.set j y).getD j undef = y := by simp [List.getD_eq_getElem?_getD, hl, hx]
        have e2 : (L.set j l).getD j [] = l := by simp [List.getD_eq_getElem?_getD, hx]
        rw [e1, e2]
        exact hy.grown hrow hgr
      · have e1 : (vs.set x y).getD j undef = vs.getD j undef := by rw [List.getD_eq_getElem?_getD, List.getElem?_set_ne (by omega), ← List.getD_eq_getElem?_getD]
        have e2 : (L.set x l).getD j [] = L.getD j [] := by rw [List.getD_eq_getElem?_getD, List.getElem?_set_ne (by omega), ← List.getD_eq_getElem?_getD]
        rw [e1, e2]
        exact (hr j hj).grown hrow hgr
    · exact heap_setCell_same w g x _ _ _ hh
    · rw [List.length_set, Array.toList_setIfInBounds, List.take_set, ht]
theorem homeW_take (N : List Int) (D : List (List Int)) (k : Nat) (hk : k < N.length) (L : List (List Int)) : appU ((homeW N D).take (k + 1)) L = (appU ((homeW N D).take k) L).set (N.getD k 0).toNat (D.getD k []) := by
  have hl : k < (homeW N D).length := by simp [homeW]; exact hk
  have e : (homeW N D)[k] = ((N.getD k 0).toNat, D.getD k []) := by simp [homeW]
  rw [List.take_succ_eq_append_getElem hl, e, appU_snoc]
set_option maxHeartbeats 2000000 in
theorem want10_of {w : World} {bv v : Value} {q : Int} {N : List Int} {D L : List (List Int)} (hb : BBSl w bv L) (hv : TxV w v q N D) (hF : frmT N D = true) (hH : hasN L.length N = true) (hL : L.length ≤ 100000) :
    Calls Try.prog 19 #[bv, v] w fun e w' => ∃ u, e = .returned u ∧ BBSl w' u (appU (homeW N D) L) ∧ Below w.heap.size w w' := by
  obtain ⟨no, nc, ao, dc, rfl, hN, hD⟩ := hv
  obtain ⟨f1, f2, f3⟩ := frmT_of hF
  have hH' := (hasN_iff _ _).1 hH
  obtain ⟨_, _, t1, hc⟩ := hN.1.open'
  obtain ⟨rfl, rfl⟩ := And.intro (Value.slice.inj t1).1 (Value.slice.inj t1).2.2
  obtain ⟨_, _, t2, _, hc2⟩ := hD.open'
  obtain ⟨rfl, rfl⟩ := And.intro (Value.slice.inj t2).1 (Value.slice.inj t2).2.2
  have HX := Lib.hid (fun k (hk : k < N.length) => show N.getD k 0 = ((N.getD k 0).toNat : Int) ∧ (N.getD k 0).toNat < L.length ∧ (D.getD k []).length = 256 from by
    have h1 := hH' k hk
    have h2 := f3 k hk
    exact ⟨by omega, by omega, h2.2.1⟩)
  have HSET := Lib.hid (fun k (hk : k < N.length) => homeW_take N D k hk L)
  have HFULL : Hid (appU ((homeW N D).take N.length) L = appU (homeW N D) L) := Lib.hid (by rw [List.take_of_length_le (by simp [homeW])])
  have HLEN := Lib.hid (fun k => appU_length ((homeW N D).take k) L)
  have HB0 := Lib.hid hb
  obtain ⟨n, hn⟩ : ∃ n, n = N.length := ⟨_, rfl⟩
  have hmn : D.length = n := f2.trans hn.symm
  rw [← hn] at hc HX HSET HFULL f1 ⊢
  rw [hmn] at hc2 ⊢
  have hbx := below_box w (.cells #[.int .u32 q, .slice no n nc, .slice ao n dc] 26)
  have hnx := heap_alloc_new w (.cells #[.int .u32 q, .slice no n nc, .slice ao n dc] 26)
  have HC := Lib.hid hc
  have HC2 := Lib.hid hc2
  clear hN hD hF hH hH' hc hc2 t1 t2 hn hmn f2 f3 hb
  go_enter Try.func19, Try.ntmps19
  go_upto_region 1 with (fail)
  generalize w.alloc (.cells #[.int .u32 q, .slice no n nc, .slice ao n dc] 26) = u at hbx hnx ⊢
  have d0 : u.cell? ⟨w.heap.size, 0, none⟩ = some (.int .u32 q) := by rw [cell_of_row _ _ _ _ _ _ hnx]; rfl
  have d1 : u.cell? ⟨w.heap.size, 1, none⟩ = some (.slice no n nc) := by rw [cell_of_row _ _ _ _ _ _ hnx]; rfl
  have d2 : u.cell? ⟨w.heap.size, 2, none⟩ = some (.slice ao n dc) := by rw [cell_of_row _ _ _ _ _ _ hnx]; rfl
  have hzu : w.heap.size < u.heap.size := (Array.getElem?_eq_some_iff.1 hnx).1
  obtain ⟨d, hd⟩ : ∃ d, d = w.heap.size := ⟨_, rfl⟩
  rw [← hd] at d0 d1 d2 hzu ⊢
  have C3 := Lib.hid (fun W (h : Below u.heap.size u W) => And.intro ((h.cell (p := ⟨d, 1, none⟩) hzu).trans d1) ((h.cell (p := ⟨d, 2, none⟩) hzu).trans d2))
  have HBX := Lib.hid hbx
  have HD := Lib.hid hd
  have HBA := Lib.hid (below_box u (.cells #[] 40))
  have HBE := Lib.hid (bbr_empty u u.heap.size (Nat.le_refl _))
  have HA1 := Lib.hid (((HB0.out.below hbx).old (Nat.le_refl u.heap.size)).below HBA.out)
  have HAL : Hid (([] : List (List Int)).length + L.length ≤ 1000000) := Lib.hid (by simp; omega)
  clear hnx hbx hd hzu d0
  go_wp2_with (at_builtin; refine wpList_append_bbs 24 Try.underlying24 _ rfl (.tmp 7) (.tmp 8) rfl u.heap.size _ [] rfl HBE.out bv L rfl HA1.out HAL.out HBA.out.size ?_
               intro v5 w5 hv5 hb5
               have H5 := Lib.hid (HBA.out.trans hb5)
               have HV5 := Lib.hid hv5
               obtain ⟨x1, x2⟩ := C3.out _ H5.out
               clear hv5 hb5)
  obtain ⟨vo, vc, hvs, _⟩ := HV5.out.sl.shape
  rw [List.nil_append] at HV5 hvs
  have HNW : Hid (Below w.heap.size w w5) := Lib.hid (HBX.out.trans (H5.out.mono HBX.out.size))
  have HST : Hid (BBR w5 u.heap.size v5 (appU ((homeW N D).take 0) L)) := Lib.hid HV5.out
  have HBS : Hid (Below u.heap.size u w5) := H5
  subst hvs
  have HS0 : Hid (0 < n → ∃ g, vo = some ⟨g, 0, none⟩ ∧ u.heap.size ≤ g) := Lib.hid (fun h0 => by
    have hl0 : 0 < L.length := Nat.lt_of_le_of_lt (Nat.zero_le _) (HX.out 0 h0).2.1
    obtain ⟨vs, hl, hr, ho⟩ := HV5.out
    rcases ho.2 with ⟨hv, _⟩ | ⟨g', cap', cur, hv, hg, _⟩
    · have : L.length = 0 := (Value.slice.inj hv).2.1
      omega
    · exact ⟨g', (Value.slice.inj hv).1, hg⟩)
  generalize hLL : L.length = l at HX HLEN HST HS0 ⊢
  clear x1 x2 d1 d2 HV5 HA1 HAL HBE HBA HB0
  go_loopw [13] (fun i wr => ∃ k : Nat, k ≤ n ∧ i = .int .i64 k ∧ Hid (BBR wr u.heap.size (.slice vo l vc) (appU ((homeW N D).take k) L)) ∧ Hid (Below u.heap.size u wr)) (fun i _ => n - (intOf i).toNat)
  case atStart => exact ⟨0, by omega, rfl, HST, HBS⟩
  case round =>
    obtain ⟨k, hk, rfl, HR, HB⟩ := hrel
    clear HST HBS
    have HBW := Lib.hid (HBX.out.trans (HB.out.mono HBX.out.size))
    by_cases hlt : k < n
    · obtain ⟨y1, y2⟩ := C3.out _ HB.out
      obtain ⟨b1, o1, rfl, hb1, q1⟩ := HC.out (by omega)
      obtain ⟨b2, o2, rfl, hb2, q2⟩ := HC2.out (by omega)
      obtain ⟨g, rfl, hug⟩ := HS0.out (by omega)
      have z1 := (HBW.out.cell (p := ⟨b1, o1 + k, none⟩) hb1).trans (q1 k hlt)
      obtain ⟨y, hcy, hy⟩ := q2 k hlt
      have z2 := (HBW.out.cell (p := ⟨b2, o2 + k, none⟩) hb2).trans hcy
      obtain ⟨hx1, hx2, hx3⟩ := HX.out k hlt
      rw [hx1] at z1
      have HSK := HSET.out k hlt
      have HLK := HLEN.out k
      have HYB : Hid (BElt wr.drew u.heap.size y (D.getD k [])) := Lib.hid ((BElt.old hy (B := u.heap.size) HBX.out.size).below ((HBW.out).drew))
      obtain ⟨yo, yc, rfl, _⟩ := hy.shape
      rw [hx3] at z2 HYB
      obtain ⟨x, hx⟩ : ∃ x, x = (N.getD k 0).toNat := ⟨_, rfl⟩
      rw [← hx] at z1 hx2 HSK
      have HRD : Hid (BBR wr.drew u.heap.size (.slice (some ⟨g, 0, none⟩) l vc) (appU ((homeW N D).take k) L)) := Lib.hid (HR.out.below (Below.refl _ _).drew)
      obtain ⟨cur, hcur, hcl, _⟩ := HRD.out.row
      have hfz : wr.drew.frozen? ⟨g, x, none⟩ = false := frozen_of_row _ _ _ _ _ hcur
      have hcx : ∃ z, wr.drew.cell? ⟨g, x, none⟩ = some z := ⟨cur[x]'(by omega), by rw [cell_of_row _ _ _ _ _ _ hcur]; exact Array.getElem?_eq_getElem _⟩
      obtain ⟨z, hz⟩ := hcx
      have ek : (k : Int) < (n : Int) := by omega
      have ex : (x : Int) < (l : Int) := by omega
      have HSK' := Lib.hid HSK
      have HXL : Hid (x < (appU ((homeW N D).take k) L).length) := Lib.hid (by rw [HLK]; exact hx2)
      have HUG := Lib.hid hug
      clear q1 q2 hcy hy hx hx1 hx3 HSK HLK hcur hcl hug hb1 hb2
      go_wp2
      go_still_tail 12, (by kernel_rfl)
      go_wp2
      go_roundw
      case rel => exact ⟨k + 1, by omega, by go_num, by rw [HSK'.out]; exact HRD.out.set HXL.out HYB.out, (HB.out.drew).trans ((Wrote.setCell wr.drew g x _).below HUG.out)⟩
      case measure => simp [intOf]; omega
    · obtain rfl : k = n := by omega
      go_wp2
      go_ret
      exact ⟨_, rfl, by rw [← HFULL.out]; exact HR.out.sl, HBW.out⟩
end Go.Proofs.Ytpjmnmkdegkfcaa

/- LogWrites: the walk of the law itself, where it ends early. -/
namespace Go.Proofs.Ytpjmnmkdegkfcaa
set_option maxRecDepth 100000
open Go.RowKit
set_option linter.unusedVariables false

/-- With power, and no fuse, all of it is laid down, and flushed. -/
theorem lay_free {q : Int} {N : List Int} {D : List (List Int)} (hF : frmT N D = true) (q0 : 0 ≤ q) (q1 : q < 4294967296) (s : DS) (h1 : s.fu = false) (h2 : s.dn = false) (h43 : 43 ≤ s.F.length) :
    let r := runA (layA q (layWs q N D)) s
    r.1 = 0 ∧ r.2.fu = false ∧ r.2.dn = false ∧ r.2.U = [] ∧ r.2.F.length = s.F.length ∧ (∀ i, i < D.length + 1 → r.2.vis.getD (3 + i) [] = (packT q N D).getD i []) ∧ r.2.vis.getD 42 [] = (packT q N D).getD (D.length + 1) [] ∧ isTxn (jour r.2.vis) q N D := by
  intro r
  obtain ⟨g1, g2, g3, g4, _⟩ := runA_free (layA q (layWs q N D)) s h1 h2
  obtain ⟨hd, hl, hall⟩ := frmT_of hF
  have e : foldA (layA q (layWs q N D)) s.fuP = ((appU (layWs q N D) (s.vis.set 42 z256)).set 42 (sealS (endL q)), []) := by
    unfold layA
    rw [foldA_append, foldA_append, foldA_ws]
    rfl
  rw [e] at g2
  have e1 : r.2.F = (appU (layWs q N D) (s.vis.set 42 z256)).set 42 (sealS (endL q)) := congrArg Prod.fst g2
  have e2 : r.2.U = [] := congrArg Prod.snd g2
  have ev : r.2.vis = r.2.F := by show appU r.2.U r.2.F = _; rw [e2]; rfl
  have hvl : (s.vis.set 42 z256).length = s.F.length := by rw [List.length_set, DS.vis_length]
  have el : r.2.F.length = s.F.length := by rw [e1, List.length_set, appU_length, hvl]
  have hp : packT q N D = (sealS (headL q N) :: D) ++ [sealS (endL q)] := rfl
  have p1 : ∀ i, i < D.length + 1 → (packT q N D).getD i [] = (sealS (headL q N) :: D).getD i [] := fun i hi => by
    rw [hp, List.getD_eq_getElem?_getD, List.getElem?_append_left (by simpa using hi), ← List.getD_eq_getElem?_getD]
  have p2 : (packT q N D).getD (D.length + 1) [] = sealS (endL q) := by
    rw [hp, List.getD_eq_getElem?_getD, List.getElem?_append_right (by simp)]
    simp
  have a1 : ∀ i, i < D.length + 1 → r.2.vis.getD (3 + i) [] = (sealS (headL q N) :: D).getD i [] := fun i hi => by
    rw [ev, e1, set_other _ _ _ _ (by omega)]
    exact layWs_hit (by omega) (by omega) i hi
  have a2 : r.2.vis.getD 42 [] = sealS (endL q) := by
    rw [ev, e1]
    exact set_same _ _ _ (by rw [appU_length, hvl]; omega)
  refine ⟨g1, g3, g4, e2, el, fun i hi => by rw [a1 i hi, p1 i hi], by rw [a2, p2], ?_⟩
  refine jour_txn (by rw [DS.vis_length, el]; omega) hF ⟨q0, q1⟩ ?_ (fun j hj => ?_) a2
  · exact a1 0 (by omega)
  · have := a1 (1 + j) (by omega)
    rw [show 3 + (1 + j) = 4 + j by omega] at this
    rw [this, show 1 + j = j + 1 by omega]
    rfl
theorem lLogW_few {w : World} {tv : Value} {q a : Int} {N : List Int} {D : List (List Int)} (ht : TxV w tv q N D) (hrD : ∀ j, (D.getD j []).length ≤ 140737488355328) (hB : FewS N D = false) :
    Calls Try.prog 3 #[tv, .int .u8 a] w fun e w' => e = .returned (.bool true) ∧ Below w.heap.size w w' := by
  have ht' := ht
  obtain ⟨no, nc, ao, dc, rfl, hN, hD⟩ := ht
  have KF1 := Lib.hid (fun W (hb : Below w.heap.size w W) => Few9_is (ht'.below hb) hrD false hB)
  obtain ⟨n, hn⟩ : ∃ n, n = N.length := ⟨_, rfl⟩
  obtain ⟨m, hm⟩ : ∃ m, m = D.length := ⟨_, rfl⟩
  rw [← hn, ← hm] at KF1 ⊢
  have hbx := below_box w (.cells #[.int .u32 q, .slice no n nc, .slice ao m dc] 26)
  have hnx := heap_alloc_new w (.cells #[.int .u32 q, .slice no n nc, .slice ao m dc] 26)
  clear hN hD hn hm ht' hrD hB
  go_enter Try.func3, Try.ntmps3
  go_upto_region 1 with (fail)
  generalize w.alloc (.cells #[.int .u32 q, .slice no n nc, .slice ao m dc] 26) = u at hbx hnx ⊢
  have hzu : w.heap.size < u.heap.size := (Array.getElem?_eq_some_iff.1 hnx).1
  have d0 : u.cell? ⟨w.heap.size, 0, none⟩ = some (.int .u32 q) := by rw [cell_of_row _ _ _ _ _ _ hnx]; rfl
  have d1 : u.cell? ⟨w.heap.size, 1, none⟩ = some (.slice no n nc) := by rw [cell_of_row _ _ _ _ _ _ hnx]; rfl
  have d2 : u.cell? ⟨w.heap.size, 2, none⟩ = some (.slice ao m dc) := by rw [cell_of_row _ _ _ _ _ _ hnx]; rfl
  obtain ⟨d, hd⟩ : ∃ d, d = w.heap.size := ⟨_, rfl⟩
  rw [← hd] at hzu d0 d1 d2 ⊢
  have C3 := Lib.hid (fun W (h : Below u.heap.size u W) => And.intro ((h.cell (p := ⟨d, 0, none⟩) hzu).trans d0) (And.intro ((h.cell (p := ⟨d, 1, none⟩) hzu).trans d1) ((h.cell (p := ⟨d, 2, none⟩) hzu).trans d2)))
  have HBT := Lib.hid (fun W (h : Below u.heap.size u W) => hbx.trans (h.mono hbx.size))
  clear hnx hbx hzu hd d0 d1 d2
  go_wp2_with (first
    | (go_at_call 6; (with_reducible refine (awake10_any u).mono ?_); rintro e w1 ⟨rfl, hb1⟩
       obtain ⟨x0, x1, x2⟩ := C3.out _ hb1
       have HU1 := Lib.hid hb1
       have HB1 := Lib.hid (HBT.out _ hb1)
       clear hb1)
    | (go_at_call 7; (with_reducible refine (KF1.out _ HB1.out).mono ?_); rintro e w2 ⟨rfl, hb2⟩
       have HU2 := Lib.hid (HU1.out.trans (hb2.mono HU1.out.size))
       have HB2 := Lib.hid (HBT.out _ HU2.out)
       clear hb2)
    | (go_at_call 6; (with_reducible refine (awake10_any w2).mono ?_); rintro e w3 ⟨rfl, hb3⟩))
  go_ret
  exact ⟨rfl, HB2.out.trans (hb3.mono HB2.out.size)⟩
set_option maxHeartbeats 2000000 in
/-- A change that the disk hasn't all blocks for, or that is not formed; a disk without a journal. -/
theorem lLogW_no {w : World} {tv : Value} {q : Int} {a : Nat} {N : List Int} {D : List (List Int)} (ht : TxV w tv q N D) (ha : a ≤ 255) (hrD : ∀ j, (D.getD j []).length ≤ 140737488355328) (hB : FewS N D = true) (hT : takesT (60 + a) N D = false) :
    Calls Try.prog 3 #[tv, .int .u8 a] w fun e w' => e = .returned (.bool true) ∧ Below w.heap.size w w' := by
  have ht' := ht
  obtain ⟨no, nc, ao, dc, rfl, hN, hD⟩ := ht
  have h60 : N.length ≤ 60 := by
    unfold FewS at hB
    rw [Bool.and_eq_true, decide_eq_true_eq] at hB
    exact hB.2
  have KF1 := Lib.hid (fun W (hb : Below w.heap.size w W) => Few9_is (ht'.below hb) hrD true hB)
  obtain ⟨z, hz⟩ : ∃ z, z = 60 + a := ⟨_, rfl⟩
  rw [← hz] at hT
  have hzl : (DS.new z).F.length = z := List.length_replicate
  have hzi : (60 : Int) + (a : Int) = (z : Int) := by omega
  have KN := Lib.hid (fun W => kNew W z (by omega))
  have KB := Lib.hid (fun W P p (h : Dk W P p (DS.new z)) => blocks10_of h rfl (by rw [hzl]; omega))
  have KT := Lib.hid (fun W (hb : Below w.heap.size w W) B (hB : (hasN z N && frmT N D) = B) => fits10_is (ht'.below hb) (by omega) z B hB)
  have KW := Lib.hid (fun W P p (h : Dk W P p (DS.new z)) (hb : Below w.heap.size w W) => gWrite_no h (ht'.below hb) (by rw [hzl]; exact hT))
  have KH := Lib.hid (fun W P p (h : Dk W P p (DS.new z)) (hb : Below w.heap.size w W) => gHome_no h (ht'.below hb) (by rw [hzl]; exact hT))
  have KS := Lib.hid (fun W u v (h1 : BBSl W u (DS.new z).vis) (h2 : BBSl W v (DS.new z).vis) => same10_of h1 h2 (by rw [DS.vis_length, hzl]; omega))
  have KU := Lib.hid (fun W P p (h : Dk W P p (DS.new z)) => show Calls Try.prog 14 #[p] W fun e w' => e = .returned (.int .i64 0) ∧ W = w' from kUnflushed h)
  obtain ⟨B, hFB⟩ : ∃ B, (hasN z N && frmT N D) = B := ⟨_, rfl⟩
  have KT1 := Lib.hid (fun W hb => KT.out W hb B hFB)
  have HCASE : Hid (64 ≤ z → B = false) := Lib.hid (fun h => by
    unfold takesT at hT
    rw [decide_eq_true h, Bool.true_and, Bool.and_comm] at hT
    rw [← hFB]; exact hT)
  obtain ⟨n, hn⟩ : ∃ n, n = N.length := ⟨_, rfl⟩
  obtain ⟨m, hm⟩ : ∃ m, m = D.length := ⟨_, rfl⟩
  rw [← hn, ← hm] at KF1 KT1 KW KH ⊢
  have hbx := below_box w (.cells #[.int .u32 q, .slice no n nc, .slice ao m dc] 26)
  have hnx := heap_alloc_new w (.cells #[.int .u32 q, .slice no n nc, .slice ao m dc] 26)
  clear hN hD hn hm ht' hrD hB hT h60 hz KT hFB hzl
  go_enter Try.func3, Try.ntmps3
  go_upto_region 1 with (fail)
  generalize w.alloc (.cells #[.int .u32 q, .slice no n nc, .slice ao m dc] 26) = u at hbx hnx ⊢
  have hzu : w.heap.size < u.heap.size := (Array.getElem?_eq_some_iff.1 hnx).1
  have d0 : u.cell? ⟨w.heap.size, 0, none⟩ = some (.int .u32 q) := by rw [cell_of_row _ _ _ _ _ _ hnx]; rfl
  have d1 : u.cell? ⟨w.heap.size, 1, none⟩ = some (.slice no n nc) := by rw [cell_of_row _ _ _ _ _ _ hnx]; rfl
  have d2 : u.cell? ⟨w.heap.size, 2, none⟩ = some (.slice ao m dc) := by rw [cell_of_row _ _ _ _ _ _ hnx]; rfl
  obtain ⟨d, hd⟩ : ∃ d, d = w.heap.size := ⟨_, rfl⟩
  rw [← hd] at hzu d0 d1 d2 ⊢
  have C3 := Lib.hid (fun W (h : Below u.heap.size u W) => And.intro ((h.cell (p := ⟨d, 0, none⟩) hzu).trans d0) (And.intro ((h.cell (p := ⟨d, 1, none⟩) hzu).trans d1) ((h.cell (p := ⟨d, 2, none⟩) hzu).trans d2)))
  have HBT := Lib.hid (fun W (h : Below u.heap.size u W) => hbx.trans (h.mono hbx.size))
  clear hnx hbx hzu hd d0 d1 d2
  by_cases h64 : 64 ≤ z
  · have hBf := HCASE.out h64
    subst hBf
    have i64 : ¬ (z : Int) < 64 := by omega
    go_wp2_with (first
      | (go_at_call 6; (with_reducible refine (awake10_any u).mono ?_); rintro e w1 ⟨rfl, hb1⟩
         obtain ⟨x0, x1, x2⟩ := C3.out _ hb1
         have HU1 := Lib.hid hb1
         have HB1 := Lib.hid (HBT.out _ hb1)
         clear hb1)
      | (go_at_call 7; (with_reducible refine (KF1.out _ HB1.out).mono ?_); rintro e w2 ⟨rfl, hb2⟩
         have HU2 := Lib.hid (HU1.out.trans (hb2.mono HU1.out.size))
         clear hb2 x0 x1 x2)
      | (go_at_call 8; (try rw [hzi]); (with_reducible refine (KN.out w2).mono ?_); rintro e w3 ⟨p, P, rfl, hd3, hp3, hb3⟩
         have HU3 := Lib.hid (HU2.out.trans (hb3.mono HU2.out.size))
         have HD3 := Lib.hid hd3
         obtain ⟨bp, rfl⟩ := hd3.ptr
         clear hb3 hd3 hp3)
      | (go_at_call 9; (with_reducible refine (KB.out w3 _ _ HD3.out).mono ?_); rintro e w4 ⟨bv, rfl, hv4, hb4⟩
         have HU4 := Lib.hid (HU3.out.trans (hb4.mono HU3.out.size))
         have HD4 := Lib.hid (HD3.out.below hb4)
         have HV4 := Lib.hid (hv4.bba (fun k hk => HD3.out.lt k hk)).sl
         obtain ⟨y0, y1, y2⟩ := C3.out _ HU4.out
         obtain ⟨bo, bc, rfl, _⟩ := HV4.out.shape
         clear hb4 hv4)
      | (go_at_call 10; (with_reducible refine (KT1.out w4 (HBT.out _ HU4.out)).mono ?_); rintro e w5 ⟨rfl, hb5⟩
         have HU5 := Lib.hid (HU4.out.trans (hb5.mono HU4.out.size))
         have HD5 := Lib.hid (HD4.out.below hb5)
         have HV5 := Lib.hid (HV4.out.below hb5)
         obtain ⟨z0, z1, z2⟩ := C3.out _ HU5.out
         clear hb5 y0 y1 y2)
      | (go_at_call 11; (with_reducible refine (KW.out w5 _ _ HD5.out (HBT.out _ HU5.out)).mono ?_); rintro e w6 ⟨rfl, hb6⟩
         have HU6 := Lib.hid (HU5.out.trans (hb6.mono HU5.out.size))
         have HD6 := Lib.hid (HD5.out.below hb6)
         have HV6 := Lib.hid (HV5.out.below hb6)
         obtain ⟨s0, s1, s2⟩ := C3.out _ HU6.out
         clear hb6 z0 z1 z2)
      | (go_at_call 12; (with_reducible refine (KH.out w6 _ _ HD6.out (HBT.out _ HU6.out)).mono ?_); rintro e w7 ⟨rfl, hb7⟩
         have HU7 := Lib.hid (HU6.out.trans (hb7.mono HU6.out.size))
         have HD7 := Lib.hid (HD6.out.below hb7)
         have HV7 := Lib.hid (HV6.out.below hb7)
         clear hb7 s0 s1 s2)
      | (go_at_call 9; (with_reducible refine (KB.out w7 _ _ HD7.out).mono ?_); rintro e w8 ⟨cv, rfl, hv8, hb8⟩
         have HU8 := Lib.hid (HU7.out.trans (hb8.mono HU7.out.size))
         have HD8 := Lib.hid (HD7.out.below hb8)
         have HV8 := Lib.hid (HV7.out.below hb8)
         have HW8 := Lib.hid (hv8.bba (fun k hk => HD7.out.lt k hk)).sl
         obtain ⟨co, cc, rfl, _⟩ := HW8.out.shape
         clear hb8 hv8)
      | (go_at_call 13; (with_reducible refine (KS.out w8 _ _ HW8.out HV8.out).mono ?_); rintro e w9 ⟨rfl, hb9⟩
         have HU9 := Lib.hid (HU8.out.trans (hb9.mono HU8.out.size))
         have HD9 := Lib.hid (HD8.out.below hb9)
         clear hb9)
      | (go_at_call 14; (with_reducible refine (KU.out w9 _ _ HD9.out).mono ?_); rintro e w10 ⟨rfl, rfl⟩))
    go_ret
    exact ⟨rfl, HBT.out _ HU9.out⟩
  · have i64 : (z : Int) < 64 := by omega
    go_wp2_with (first
      | (go_at_call 6; (with_reducible refine (awake10_any u).mono ?_); rintro e w1 ⟨rfl, hb1⟩
         obtain ⟨x0, x1, x2⟩ := C3.out _ hb1
         have HU1 := Lib.hid hb1
         have HB1 := Lib.hid (HBT.out _ hb1)
         clear hb1)
      | (go_at_call 7; (with_reducible refine (KF1.out _ HB1.out).mono ?_); rintro e w2 ⟨rfl, hb2⟩
         have HU2 := Lib.hid (HU1.out.trans (hb2.mono HU1.out.size))
         clear hb2 x0 x1 x2)
      | (go_at_call 8; (try rw [hzi]); (with_reducible refine (KN.out w2).mono ?_); rintro e w3 ⟨p, P, rfl, hd3, hp3, hb3⟩
         have HU3 := Lib.hid (HU2.out.trans (hb3.mono HU2.out.size))
         have HD3 := Lib.hid hd3
         obtain ⟨bp, rfl⟩ := hd3.ptr
         clear hb3 hd3 hp3)
      | (go_at_call 9; (with_reducible refine (KB.out w3 _ _ HD3.out).mono ?_); rintro e w5 ⟨bv, rfl, hv4, hb4⟩
         have HU5 := Lib.hid (HU3.out.trans (hb4.mono HU3.out.size))
         have HD5 := Lib.hid (HD3.out.below hb4)
         have HV5 := Lib.hid (hv4.bba (fun k hk => HD3.out.lt k hk)).sl
         obtain ⟨z0, z1, z2⟩ := C3.out _ HU5.out
         obtain ⟨bo, bc, rfl, _⟩ := HV5.out.shape
         clear hb4 hv4)
      | (go_at_call 11; (with_reducible refine (KW.out w5 _ _ HD5.out (HBT.out _ HU5.out)).mono ?_); rintro e w6 ⟨rfl, hb6⟩
         have HU6 := Lib.hid (HU5.out.trans (hb6.mono HU5.out.size))
         have HD6 := Lib.hid (HD5.out.below hb6)
         have HV6 := Lib.hid (HV5.out.below hb6)
         obtain ⟨s0, s1, s2⟩ := C3.out _ HU6.out
         clear hb6 z0 z1 z2)
      | (go_at_call 12; (with_reducible refine (KH.out w6 _ _ HD6.out (HBT.out _ HU6.out)).mono ?_); rintro e w7 ⟨rfl, hb7⟩
         have HU7 := Lib.hid (HU6.out.trans (hb7.mono HU6.out.size))
         have HD7 := Lib.hid (HD6.out.below hb7)
         have HV7 := Lib.hid (HV6.out.below hb7)
         clear hb7 s0 s1 s2)
      | (go_at_call 9; (with_reducible refine (KB.out w7 _ _ HD7.out).mono ?_); rintro e w8 ⟨cv, rfl, hv8, hb8⟩
         have HU8 := Lib.hid (HU7.out.trans (hb8.mono HU7.out.size))
         have HD8 := Lib.hid (HD7.out.below hb8)
         have HV8 := Lib.hid (HV7.out.below hb8)
         have HW8 := Lib.hid (hv8.bba (fun k hk => HD7.out.lt k hk)).sl
         obtain ⟨co, cc, rfl, _⟩ := HW8.out.shape
         clear hb8 hv8)
      | (go_at_call 13; (with_reducible refine (KS.out w8 _ _ HW8.out HV8.out).mono ?_); rintro e w9 ⟨rfl, hb9⟩
         have HU9 := Lib.hid (HU8.out.trans (hb9.mono HU8.out.size))
         have HD9 := Lib.hid (HD8.out.below hb9)
         clear hb9)
      | (go_at_call 14; (with_reducible refine (KU.out w9 _ _ HD9.out).mono ?_); rintro e w10 ⟨rfl, rfl⟩))
    go_ret
    exact ⟨rfl, HBT.out _ HU9.out⟩
end Go.Proofs.Ytpjmnmkdegkfcaa

/- What a crash leaves while a second change is laid down, and what Recover makes of it. -/
namespace Go.Proofs.Ytpjmnmkdegkfcaa
set_option maxRecDepth 100000
open Go.RowKit
set_option linter.unusedVariables false

theorem far_of {N : List Int} {D : List (List Int)} {z n : Nat} (hF : frmT N D = true) (hH : hasN z N = true) (hJ : inJS N = false) (hz : z ≤ n) : farT n N := fun j hj => by
  have h1 := (frmT_of hF).2.2 j hj
  have h2 := (hasN_iff _ _).1 hH j hj
  have h3 := (inJS_no N).1 hJ j hj
  unfold OutJ
  omega
section
variable {q1 q2 : Int} {N1 N2 : List Int} {D1 D2 Z G : List (List Int)} {er : Int}
/-- Behind a crash: the first change, as it was told to be; none, and all of the first one is there; the second one. -/
def CrI (q1 q2 : Int) (N1 : List Int) (D1 : List (List Int)) (N2 : List Int) (D2 Z : List (List Int)) (er : Int) (F : List (List Int)) : Prop :=
  (InvT F q1 N1 D1 Z ∧ er = 2) ∨ (InvN F (appU (homeW N1 D1) Z) ∧ er = 2) ∨ InvT F q2 N2 D2 (appU (homeW N1 D1) Z)
def CrS (q1 q2 : Int) (N1 : List Int) (D1 : List (List Int)) (N2 : List Int) (D2 Z : List (List Int)) (er : Int) (s : DS) : Prop := s.U = [] ∧ s.dn = false ∧ CrI q1 q2 N1 D1 N2 D2 Z er s.F
/-- What stands there at the end. -/
def CrE (N1 : List Int) (D1 : List (List Int)) (N2 : List Int) (D2 Z : List (List Int)) (er : Int) (V : List (List Int)) : Prop :=
  (∀ i, OutJ i → i < Z.length → V.getD i [] = (appU (homeW N2 D2) (appU (homeW N1 D1) Z)).getD i []) ∨ (er = 2 ∧ ∀ i, OutJ i → i < Z.length → V.getD i [] = (appU (homeW N1 D1) Z).getD i [])
theorem CrS.fuse {s : DS} (h : CrS q1 q2 N1 D1 N2 D2 Z er s) (n : Int) : CrS q1 q2 N1 D1 N2 D2 Z er (s.fuse n) := h
theorem CrI.length {F : List (List Int)} (h : CrI q1 q2 N1 D1 N2 D2 Z er F) : F.length = Z.length := by
  rcases h with ⟨h, _⟩ | ⟨h, _⟩ | h
  · exact h.1
  · rw [h.1, appU_length]
  · rw [h.1, appU_length]
theorem vis_empty {s : DS} (h : s.U = []) : s.vis = s.F := by unfold DS.vis; rw [h]; rfl
/-- One Recover, wherever its power goes: behind a crash it is as it was; with power all is there. -/
theorem recover_cr {w : World} {P : Nat → Prop} {p : Value} {s : DS} (h : Dk w P p s) (hs : CrS q1 q2 N1 D1 N2 D2 Z er s) (hZ : Z.length = 100) (hF1 : frmT N1 D1 = true) (hH1 : hasN 100 N1 = true) (hf1 : farT Z.length N1) (hF2 : frmT N2 D2 = true) (hH2 : hasN 100 N2 = true) (hf2 : farT Z.length N2) :
    Calls Try.prog 23 #[p] w fun e w' => ∃ x r s' P', e = .returned (.tuple #[.int .u32 x, .int .i64 r]) ∧ Dk w' P' p s' ∧ Chg P P' w w' ∧ s'.U.length ≤ 1000 ∧ (∀ k, CrS q1 q2 N1 D1 N2 D2 Z er (s'.crash k)) ∧ (s.fu = false → r = 0 ∧ s'.dn = false ∧ s'.F.length = 100 ∧ CrE N1 D1 N2 D2 Z er s'.vis) := by
  obtain ⟨hU, hd, hI⟩ := hs
  have hFl : s.F.length = 100 := hI.length.trans hZ
  have hv := vis_empty hU
  have hU0 : s.U.length ≤ 900000 := by rw [hU]; show 0 ≤ 900000; omega
  have hGl : (appU (homeW N1 D1) Z).length = 100 := by rw [appU_length, hZ]
  have l1 := (frmT_of hF1).1
  have l2 := (frmT_of hF2).1
  rcases hI with ⟨hT, he⟩ | ⟨hN, he⟩ | hT
  · have hc := fun kp => home_crash hF1 hf1 (by omega) s hT (by rw [hU]; intro x hx; cases hx) true kp
    have hdn := fun h1 => home_done hF1 hf1 (by omega) s hT (by rw [hU]; intro x hx; cases hx) h1 hd true
    have hlen := runA_len (homeA N1 D1 ++ [.f]) s
    rw [List.length_append, homeA_length, hU] at hlen
    refine (gRecover_yes h (by omega) hd hU0 (q := q1) (N := N1) (D := D1) ⟨by rw [hv]; exact hT.2.1, by rw [hFl]; exact hH1⟩).mono ?_
    rintro e w' ⟨x, rfl, ⟨P', hk, hcg⟩, _⟩
    refine ⟨x, _, _, P', rfl, hk, hcg, by have := hlen.2; simp at this; omega, fun k => ⟨rfl, rfl, .inl ⟨(hc (kpOf k)).1, he⟩⟩, fun h1 => ?_⟩
    obtain ⟨e1, _, e3, e4, _⟩ := hdn h1
    exact ⟨e1, e3, by rw [hlen.1, hFl], .inr ⟨he, e4⟩⟩
  · have hno : ∀ q N D, ¬ holdsT s.F.length (jour s.vis) q N D := fun q N D ht => jour_zero (by rw [DS.vis_length]; omega) (by rw [hv]; exact hN.2.1) q N D ht.1
    have hst : ∀ kp, appU (keepU kp (runA ([] ++ [.f]) s).2.U) (runA ([] ++ [.f]) s).2.F = s.F ∧ (runA ([] ++ [.f]) s).2.U = [] := fun kp => by
      rw [List.nil_append, runA_cons]
      cases hok : s.ok
      · rw [if_neg Bool.false_ne_true]
        show appU (keepU kp s.U) s.F = s.F ∧ s.U = []
        rw [hU]; exact ⟨rfl, rfl⟩
      · rw [if_pos rfl]
        show appU (keepU kp []) s.vis = s.F ∧ ([] : List (Nat × List Int)) = []
        rw [hv]; exact ⟨rfl, rfl⟩
    have hfr := fun h1 => runA_free ([] ++ [.f]) s h1 hd
    have hlen := runA_len ([] ++ [.f]) s
    refine (gRecover_no h (by omega) hd hU0 hno).mono ?_
    rintro e w' ⟨x, rfl, ⟨P', hk, hcg⟩, _⟩
    refine ⟨x, _, _, P', rfl, hk, hcg, by rw [(hst fun _ => true).2]; show 0 ≤ 1000; omega, fun k => ⟨rfl, rfl, .inr (.inl ⟨?_, he⟩)⟩, fun h1 => ?_⟩
    · show InvN (appU (keepU (kpOf k) _) _) _
      rw [(hst (kpOf k)).1]; exact hN
    · obtain ⟨e1, _, _, e4, _⟩ := hfr h1
      refine ⟨e1, e4, by rw [hlen.1, hFl], .inr ⟨he, fun i hi hl => ?_⟩⟩
      rw [vis_empty (hst fun _ => true).2]
      have := (hst fun _ => true).1
      rw [(hst fun _ => true).2] at this
      have e5 : (runA ([] ++ [.f]) s).2.F = s.F := this
      rw [e5]
      exact hN.2.2 i hi (by rw [hGl]; omega)
  · have hf2' : farT (appU (homeW N1 D1) Z).length N2 := by rw [appU_length]; exact hf2
    have hc := fun kp => home_crash hF2 hf2' (by omega) s hT (by rw [hU]; intro x hx; cases hx) true kp
    have hdn := fun h1 => home_done hF2 hf2' (by omega) s hT (by rw [hU]; intro x hx; cases hx) h1 hd true
    have hlen := runA_len (homeA N2 D2 ++ [.f]) s
    rw [List.length_append, homeA_length, hU] at hlen
    refine (gRecover_yes h (by omega) hd hU0 (q := q2) (N := N2) (D := D2) ⟨by rw [hv]; exact hT.2.1, by rw [hFl]; exact hH2⟩).mono ?_
    rintro e w' ⟨x, rfl, ⟨P', hk, hcg⟩, _⟩
    refine ⟨x, _, _, P', rfl, hk, hcg, by have := hlen.2; simp at this; omega, fun k => ⟨rfl, rfl, .inr (.inr (hc (kpOf k)).1)⟩, fun h1 => ?_⟩
    obtain ⟨e1, _, e3, e4, _⟩ := hdn h1
    exact ⟨e1, e3, by rw [hlen.1, hFl], .inl fun i hi hl => e4 i hi (by rw [appU_length]; exact hl)⟩
end
/-- The first change made, and written home; then the fuse. -/
theorem cr_first {N : List Int} {D : List (List Int)} (hF : frmT N D = true) (hf : farT 100 N) :
    let s1 := (runA (layA 1 (layWs 1 N D)) (DS.new 100)).2
    let s2 := (runA (homeA N D) s1).2
    (runA (layA 1 (layWs 1 N D)) (DS.new 100)).1 = 0 ∧ s1.F.length = 100 ∧ s1.U = [] ∧ (runA (homeA N D) s1).1 = 0 ∧ s2.F.length = 100 ∧ s2.U.length ≤ 37 ∧
      InvT s2.F 1 N D (List.replicate 100 zb) ∧ (∀ x ∈ s2.U, x ∈ homeW N D) ∧ (∀ i, OutJ i → i < 100 → s2.vis.getD i [] = (appU (homeW N D) (List.replicate 100 zb)).getD i []) := by
  intro s1 s2
  have hl0 : (DS.new 100).F.length = 100 := List.length_replicate
  have hzl : (List.replicate 100 zb).length = 100 := List.length_replicate
  obtain ⟨g0, g1, g2, g3, g4, g5, g6, g7⟩ := lay_free hF (q := 1) (by omega) (by omega) (DS.new 100) rfl rfl (by rw [hl0]; omega)
  rw [hl0] at g4
  obtain ⟨f1, f2, _⟩ := frmT_of hF
  -- the other blocks
  have hout : ∀ i, OutJ i → i < 100 → s1.F.getD i [] = (List.replicate 100 zb).getD i [] := fun i hi hl => by
    obtain ⟨k1, k2, _⟩ := runA_free (layA 1 (layWs 1 N D)) (DS.new 100) rfl rfl
    have e : foldA (layA 1 (layWs 1 N D)) (DS.new 100).fuP = ((appU (layWs 1 N D) ((DS.new 100).vis.set 42 z256)).set 42 (sealS (endL 1)), []) := by
      unfold layA
      rw [foldA_append, foldA_append, foldA_ws]
      rfl
    rw [e] at k2
    have e1 : s1.F = (appU (layWs 1 N D) ((DS.new 100).vis.set 42 z256)).set 42 (sealS (endL 1)) := congrArg Prod.fst k2
    rw [e1, set_other _ _ _ _ (by rcases hi with h | h <;> omega), appU_other _ _ _ (fun x hx ex => by
      obtain ⟨k, hk, rfl⟩ := layWs_mem hx
      have ex' : 3 + k = i := ex
      rcases hi with h | h <;> omega), set_other _ _ _ _ (by rcases hi with h | h <;> omega)]
    rfl
  obtain ⟨h0, h1, h2, h3, _⟩ := runA_free (homeA N D) s1 g1 g2
  have ef : foldA (homeA N D) s1.fuP = (s1.F, s1.U ++ homeW N D) := by unfold homeA; rw [foldA_ws]; rfl
  rw [ef] at h1
  have a1 : s2.F = s1.F := congrArg Prod.fst h1
  have a2 : s2.U = s1.U ++ homeW N D := congrArg Prod.snd h1
  rw [show s1.U = [] from g3, List.nil_append] at a2
  have hj : jour s1.vis = jour s1.F := by rw [vis_empty g3]
  have hI : InvT s2.F 1 N D (List.replicate 100 zb) := ⟨by rw [a1, hzl]; exact g4, by rw [a1, ← hj]; exact g7, fun i hi hl => .inl (by rw [a1]; exact hout i hi (by rw [hzl] at hl; exact hl))⟩
  refine ⟨g0, g4, g3, h0, by rw [a1]; exact g4, by rw [a2]; simp [homeW]; omega, hI, fun x hx => by rw [a2] at hx; exact hx, fun i hi hl => ?_⟩
  show (appU s2.U s2.F).getD i [] = _
  rw [a2]
  exact hI.done hF i hi (by rw [hzl]; exact hl)
/-- The second one, while the power may go: what a crash leaves. -/
theorem cr_second {N1 N2 : List Int} {D1 D2 : List (List Int)} (hF1 : frmT N1 D1 = true) (hf1 : farT 100 N1) (hF2 : frmT N2 D2 = true) (hf2 : farT 100 N2) (s : DS) (hI : InvT s.F 1 N1 D1 (List.replicate 100 zb)) (hU : ∀ x ∈ s.U, x ∈ homeW N1 D1)
    (hv : ∀ i, OutJ i → i < 100 → s.vis.getD i [] = (appU (homeW N1 D1) (List.replicate 100 zb)).getD i []) (k : List Bool) :
    let r := runA (layA 2 (layWs 2 N2 D2)) s
    (r.1 = 2 → CrS 1 2 N1 D1 N2 D2 (List.replicate 100 zb) r.1 (r.2.crash k)) ∧ (r.1 = 0 → r.2.U = [] ∧ CrS 1 2 N1 D1 N2 D2 (List.replicate 100 zb) r.1 ((runA (homeA N2 D2) r.2).2.crash k)) := by
  intro r
  have hzl : (List.replicate 100 zb).length = 100 := List.length_replicate
  obtain ⟨a, b⟩ := lay_crash (q2 := 2) (by rw [hzl]; omega) (layW_of hF2) hF1 (by rw [hzl]; exact hf1) hF2 (by omega) s hI hU (fun i hi hl => hv i hi (by rw [hzl] at hl; exact hl)) (kpOf k)
  refine ⟨fun h => ⟨rfl, rfl, ?_⟩, fun h => ?_⟩
  · rcases a with ⟨a, _⟩ | ⟨a, _⟩ | a
    · exact .inl ⟨a, h⟩
    · exact .inr (.inl ⟨a, h⟩)
    · exact .inr (.inr a)
  · obtain ⟨b1, b2, b3⟩ := b h
    refine ⟨b1, rfl, rfl, .inr (.inr ?_)⟩
    have := home_crash hF2 (by rw [appU_length, hzl]; exact hf2) (by rw [appU_length, hzl]; omega) r.2 b2 (by rw [b1]; intro x hx; cases hx) false (kpOf k)
    rw [show (if (false : Bool) = true then [PA.f] else []) = [] from rfl, List.append_nil] at this
    exact this.1
end Go.Proofs.Ytpjmnmkdegkfcaa

/- A region that draws its order and stores, at its end, into a cell that it loads: the condition on the world is asked only till operation m (the store) has come up. (After the law of Derived.OrdersHeld, whose condition must hold behind every operation.) -/
namespace Go.Proofs.Ytpjmnmkdegkfcaa
set_option maxRecDepth 100000
open Go.RowKit
set_option linter.unusedVariables false

section
variable {P : Program} {ops : Array Oper} {Q : Exit → Act → World → Prop} {md : Region.Mode} {S : World → Prop} {m : Nat}
/-- Till number m has come up, the world meets S. -/
def Till (m : Nat) (S : World → Prop) (L : Array Bool) (w : World) : Prop := L.getD m true = false → S w
/-- Whatever order is picked from here on; and till number m has come up S holds behind each operation. -/
def anyTill (P : Program) (md : Region.Mode) (ops : Array Oper) (Q : Exit → Act → World → Prop) (S : World → Prop) (m : Nat) : Nat → Array Bool → Act → World → Prop
  | 0, L, a, w => Region.ready md ops L = [] ∧ Q .normal a w
  | n + 1, L, a, w => (Region.ready md ops L = [] → Q .normal a w) ∧ ∀ i ∈ Region.ready md ops L, wpOp P ops Q i (fun a' w' => Till m S (L.setIfInBounds i true) w' ∧ anyTill P md ops Q S m n (L.setIfInBounds i true) a' w') a w
theorem any_of_till : ∀ (n : Nat) (L : Array Bool) (a : Act) (w : World), anyTill P md ops Q S m n L a w → wpAny P md ops Q n L a w
  | 0, _, _, _, h => h
  | n + 1, _, _, _, h => ⟨h.1, fun i hi => wpOp_mono (fun _ _ k => any_of_till n _ _ _ k.2) (h.2 i hi)⟩
theorem ready_un {L : Array Bool} {i : Nat} (h : i ∈ Region.ready md ops L) : L.getD i true = false ∧ L.getD i false = false := by
  have h0 := (mem_ready.1 h).1
  refine ⟨h0, ?_⟩
  rcases Nat.lt_or_ge i L.size with hl | hl
  · simp [hl] at h0 ⊢; exact h0
  · simp [Array.getElem?_eq_none hl] at h0
theorem till_first {i : Nat} {oi om : Oper} {v : Value} (hi : ops[i]? = some oi) (hm : ops[m]? = some om) (hwt : ∃ e ∈ om.after, Region.binds md e = true ∧ e.on = i)
    (hsel : ∀ (j : Nat) (o : Oper) cs b, ops[j]? = some o → o.op ≠ .select cs b) (hQ : ∀ c a w, Q (.panic c) (a.put oi.dst v) w → Q (.panic c) a w) :
    ∀ (n : Nat) (L : Array Bool) (a : Act) (w : World), (∀ j oj, ops[j]? = some oj → j ≠ i → L.getD j true = false → (∀ e ∈ oj.after, Region.binds md e = true → e.on ≠ i) → oi.apart ops oj = true) →
      i ∈ Region.ready md ops L → L.getD m true = false → YieldsIf P ops S oi v a → S w →
      anyTill P md ops Q S m n (L.setIfInBounds i true) (a.put oi.dst v) w → anyTill P md ops Q S m (n + 1) L a w
  | n, L, a, w, hfree, hr, hLm, hy, hS, H => by
    refine ⟨fun h => (by rw [h] at hr; cases hr), fun j hj => ?_⟩
    by_cases hji : j = i
    · subst hji
      exact hy.wpOp hi hS ⟨fun _ => hS, H⟩
    · obtain ⟨hjun, oj, hoj, hall⟩ := mem_ready.1 hj
      have hun := (ready_un hr).2
      have hno : ∀ e ∈ oj.after, Region.binds md e = true → e.on ≠ i := fun e he hb heq => by
        have h1 := hall e he hb
        rw [heq, hun] at h1
        cases h1
      have hjm : j ≠ m := fun e => by
        subst e
        obtain ⟨e, he, hb, hei⟩ := hwt
        rw [hm] at hoj
        obtain rfl := Option.some.inj hoj
        exact hno e he hb hei
      cases n with
      | zero =>
        have h1 := ready_mono hj hji
        rw [H.1] at h1
        cases h1
      | succ n =>
        have h2 := wpOp_putIf hoj (hfree j oj hoj hji hjun hno) (fun cs b => hsel i oi cs b hi) (fun cs b => hsel j oj cs b hoj) hQ hy (H.2 j (ready_mono hj hji))
        refine wpOp_mono (fun a' w' h3 => ?_) h2
        obtain ⟨hy', hT, hA⟩ := h3
        have him : i ≠ m := fun e => by
          subst e
          obtain ⟨e, he, hb, hei⟩ := hwt
          obtain ⟨_, o, ho, hal⟩ := mem_ready.1 hr
          rw [hm] at ho
          obtain rfl := Option.some.inj ho
          have h1 := hal e he hb
          rw [hei, hun] at h1
          cases h1
        have hLm' : (L.setIfInBounds j true).getD m true = false := by rw [getD_set_ne true hjm]; exact hLm
        rw [Array.setIfInBounds_comm _ _ (Ne.symm hji)] at hT hA
        have hS' : S w' := hT (by rw [getD_set_ne true him]; exact hLm')
        refine ⟨fun _ => hS', till_first hi hm hwt hsel hQ n _ a' w' (fun k ok hk hki hku hkn => ?_) (ready_mono hr (Ne.symm hji)) hLm' hy' hS' hA⟩
        refine hfree k ok hk hki ?_ hkn
        by_cases hjk : j = k
        · subst hjk; exact hjun
        · rw [getD_set_ne true hjk] at hku; exact hku
theorem till_take {i : Nat} {oi om : Oper} {v : Value} {n : Nat} {L : Array Bool} {a : Act} {w : World} (hi : ops[i]? = some oi) (hm : ops[m]? = some om) (hwt : om.after.any (fun e => Region.binds md e && e.on == i) = true)
    (hs : Region.noSelect ops = true) (hf : Region.free md ops L i = true) (hr : (Region.ready md ops L).contains i = true) (hLm : L.getD m true = false)
    (hQ : ∀ c a w, Q (.panic c) (a.put oi.dst v) w → Q (.panic c) a w) (hy : YieldsIf P ops S oi v a) (hS : S w)
    (h : anyTill P md ops Q S m n (L.setIfInBounds i true) (a.put oi.dst v) w) : anyTill P md ops Q S m (n + 1) L a w :=
  till_first hi hm (by
    obtain ⟨e, he, hb⟩ := Array.any_eq_true'.1 hwt
    simp only [Bool.and_eq_true, beq_iff_eq] at hb
    exact ⟨e, he, hb.1, hb.2⟩) (Region.noSelect_spec hs) hQ n L a w (Region.free_spec hi hf) (by simpa using hr) hLm hy hS h
def TillReady (P : Program) (md : Region.Mode) (ops : Array Oper) (Q : Exit → Act → World → Prop) (S : World → Prop) (m n : Nat) (L : Array Bool) (a : Act) (w : World) (rs : List Nat) : Prop :=
  ∀ i ∈ rs, wpOp P ops Q i (fun a' w' => Till m S (L.setIfInBounds i true) w' ∧ anyTill P md ops Q S m n (L.setIfInBounds i true) a' w') a w
theorem TillReady.nil {n : Nat} {L : Array Bool} {a : Act} {w : World} : TillReady P md ops Q S m n L a w [] := fun _ h => by cases h
theorem TillReady.cons {n : Nat} {L : Array Bool} {a : Act} {w : World} {i : Nat} {o : Oper} {rs : List Nat} (ho : ops[i]? = some o)
    (h : ∀ K : Act → World → Prop, Hid (∀ a w, Till m S (L.setIfInBounds i true) w → anyTill P md ops Q S m n (L.setIfInBounds i true) a w → K a w) → if Region.wanted o (yielded ops a.tmps) = true then Oper.wp P o a w K Q else K (a.put o.dst undef) w)
    (hs : TillReady P md ops Q S m n L a w rs) : TillReady P md ops Q S m n L a w (i :: rs) := fun j hj => by
  rcases List.mem_cons.1 hj with rfl | hj
  · exact wpOp_step ho (fun K hK => h K (fun a w hT hA => hK a w ⟨hT, hA⟩))
  · exact hs j hj
theorem till_ready {rs : List Nat} {n : Nat} {L : Array Bool} {a : Act} {w : World} (hr : Region.ready md ops L = rs) (hne : rs ≠ []) (h : TillReady P md ops Q S m n L a w rs) : anyTill P md ops Q S m (n + 1) L a w :=
  ⟨fun h0 => absurd (hr ▸ h0) hne, hr ▸ h⟩
theorem till_done {L : Array Bool} {a : Act} {w : World} (hr : Region.ready md ops L = []) (h : Q .normal a w) : ∀ n, anyTill P md ops Q S m n L a w
  | 0 => ⟨hr, h⟩
  | _ + 1 => ⟨fun _ => h, by rw [hr]; simp⟩
end
end Go.Proofs.Ytpjmnmkdegkfcaa

/- Steps of a region that draws: make of bytes, a [][]byte of one, append of one; rows of one's own behind another's growth. -/
namespace Go.Proofs.Ytpjmnmkdegkfcaa
set_option maxRecDepth 100000
open Go.RowKit
set_option linter.unusedVariables false

theorem BBR.rowOf {w : World} {B : Nat} {v : Value} {L : List (List Int)} (h : BBR w B v L) : ∀ g, v.ownBlock = some g → B ≤ g ∧ ∃ cur, w.heap[g]? = some (.cells cur 40 (0, 0)) := fun g hg => by
  obtain ⟨vs, _, _, ho⟩ := h
  rcases ho.2 with ⟨rfl, _⟩ | ⟨g', cap', cur, rfl, hg', hh, _⟩
  · simp [Value.ownBlock] at hg
  · obtain rfl : g' = g := by simpa [Value.ownBlock] using hg
    exact ⟨hg', cur, hh⟩
theorem BBR.lt {w : World} {B : Nat} {v : Value} {L : List (List Int)} (h : BBR w B v L) (k : Nat) (hk : v.ownBlock = some k) : k < w.heap.size := by
  obtain ⟨_, cur, hh⟩ := h.rowOf k hk
  exact (Array.getElem?_eq_some_iff.1 hh).1
theorem BBR.grown {w w' : World} {B : Nat} {v : Value} {L : List (List Int)} (h : BBR w B v L) {row : Option Nat} (hrow : ∀ g, row = some g → B ≤ g ∧ ∃ cur, w.heap[g]? = some (.cells cur 40 (0, 0))) (hne : ∀ k, row = some k → v.ownBlock ≠ some k) (hg : w.grownBy w' row) : BBR w' B v L := by
  obtain ⟨vs, hl, hr, ho⟩ := h
  refine ⟨vs, hl, fun j hj => (hr j hj).grown hrow hg, ho.1, ?_⟩
  rcases ho.2 with h | ⟨g, cap, cur, hv, hB, hh, r⟩
  · exact .inl h
  · exact .inr ⟨g, cap, cur, hv, hB, by rw [hg.block g (Array.getElem?_eq_some_iff.1 hh).1 (fun e => hne g e.symm (by rw [hv]; rfl))]; exact hh, r⟩
theorem belt_zero {w : World} {B g : Nat} (hg : w.heap[g]? = some (.cells (Array.replicate 256 (.int .u8 0)) 5 (0, 0))) : BElt w B (.slice (some ⟨g, 0, none⟩) 256 256) zb := by
  refine ⟨bsl_zero hg, fun _ => ⟨g, 0, 256, by rw [zb_length], (Array.getElem?_eq_some_iff.1 hg).1, .inr ⟨_, hg⟩⟩⟩
section
variable {ops : Array Oper} {o : Oper} {a : Act} {w : World} {K : Act → World → Prop} {Q : Exit → Act → World → Prop} {E : Prop}
theorem step_make256 (hgd : o.guard = none) (l c : Operand) (hop : o.op = Op.makeSlice 40 l c) (hl : a.eval l = .int .i64 256) (hc : a.eval c = .int .i64 256)
    (h : K (a.put o.dst (.slice (some ⟨w.heap.size, 0, none⟩) 256 256)) (w.alloc (.cells (Array.replicate 256 (.int .u8 0)) 5))) :
    if Region.wanted o (yielded ops a.tmps) = true then Oper.wp Try.prog o a w K Q else E := by
  rw [if_pos (by simp [Region.wanted, hgd])]
  have hrun := make_n w 256 (by decide) 256 rfl
  unfold Oper.wp execOp
  simp only [hop, hl, hc, hrun, Sem.run_bind, Sem.run_pure, Result.andThen_ok]
  exact h
theorem ofFn_one (f : Fin 1 → Value) (v : Value) : (Array.ofFn f).setIfInBounds 0 v = #[v] := by
  apply Array.ext
  · simp
  · intro i h1 h2
    have h0 : i = 0 := by simp at h2; omega
    subst h0
    simp
theorem step_build1 (hgd : o.guard = none) (x : Operand) (hop : o.op = Op.buildSlice 24 1 #[(0, x)]) (ao : Option Addr) (n cap : Nat) (hx : a.eval x = .slice ao n cap)
    (h : K (a.put o.dst (.slice (some ⟨w.heap.size, 0, none⟩) 1 1)) (w.alloc (.cells #[.slice ao n cap] 40))) :
    if Region.wanted o (yielded ops a.tmps) = true then Oper.wp Try.prog o a w K Q else E := by
  rw [if_pos (by simp [Region.wanted, hgd])]
  obtain ⟨t, h2, h3, h4, h5⟩ := info_parts infoBy
  have hrun := run_buildSlice (P := Try.prog) w 24 40 1 #[(0, .slice ao n cap)] #[.slice ao n cap] t (.slice none 0 0) Try.underlying24 h2 h3 (by rw [h4]; decide) (by rw [h4]; decide) (by rw [h4]; simp [Instr.fill, Value.cells, List.range_succ, Array.range]; exact ofFn_one _ _)
  unfold Oper.wp execOp
  simp only [hop, List.map_toArray, List.map_cons, List.map_nil, hx, hrun, Sem.run_bind, Sem.run_pure, Result.andThen_ok]
  exact h
theorem step_append_one (hgd : o.guard = none) (s y : Operand) (ho : o.op = .call { callee := .builtin .append, args := #[s, y], argTypes := #[24, 24] })
    (B : Nat) (v : Value) (L : List (List Int)) (hs : a.eval s = v) (hown : BBR w B v L) (x : Value) (l : List Int) (hx : BElt w B x l) (q : Nat) (hq : w.heap[q]? = some (.cells #[x] 40 (0, 0))) (hy : a.eval y = .slice (some ⟨q, 0, none⟩) 1 1)
    (hlen : L.length ≤ 100000) (hB : B ≤ w.heap.size)
    (h : ∀ v' w', BBR w' B v' (L ++ [l]) → Below B w w' → w.grownBy w' v.ownBlock → (v'.ownBlock = v.ownBlock ∨ v'.ownBlock = some w.heap.size) → K (a.put o.dst v') w') :
    if Region.wanted o (yielded ops a.tmps) = true then Oper.wp Try.prog o a w K Q else E := by
  rw [if_pos (by simp [Region.wanted, hgd])]
  obtain ⟨t, h2, h3, h4, h5⟩ := info_parts infoBy
  have hrow := hown.rowOf
  obtain ⟨vs, hvl, hve, how⟩ := hown
  obtain ⟨v', w', hrun, h6, h7, _, h8⟩ := run_append_own_at (P := Try.prog) w B 24 o.type 40 t _ 1 24 Try.underlying24 h2 h3 h4 h5 rfl (by decide) v L.length vs how ⟨q, 0, none⟩ 1 1 [x] rfl (fun j u hj => by
    have hj0 : j = 0 := by have := (List.getElem?_eq_some_iff.1 hj).1; simp at this; omega
    subst hj0
    rw [Addr.add_lit, Nat.zero_add, cell_of_row _ _ _ _ _ _ hq, ← hj]; rfl) (fun u hu => by
    simp at hu
    subst hu
    exact hx.1.one) (by simp only [maxLen]; omega) (by omega) hB
  unfold Oper.wp execOp
  simp only [ho, resolve, invoke, builtin, Sem.run_bind, Sem.run_pure, Result.andThen_ok, List.map_toArray, List.map_cons, List.map_nil, hs, hy, hrun]
  refine h v' w' ⟨vs ++ [x], by simp [hvl], fun j hj => ?_, by rw [List.length_append]; exact h6⟩ ((Below.refl _ _).grown h7 hB fun k hk => (World.ownsRow.lt how k hk).1) h7 h8
  rw [List.length_append] at hj
  by_cases e : j < L.length
  · have := (hve j e).grown hrow h7
    rw [List.getD_eq_getElem?_getD, List.getD_eq_getElem?_getD, List.getElem?_append_left (by omega), List.getElem?_append_left e, ← List.getD_eq_getElem?_getD, ← List.getD_eq_getElem?_getD]
    exact this
  · obtain rfl : j = L.length := by simp at hj; omega
    have e1 : (vs ++ [x]).getD L.length undef = x := by rw [← hvl]; simp [List.getD_eq_getElem?_getD]
    have e2 : (L ++ [l]).getD L.length [] = l := by simp [List.getD_eq_getElem?_getD]
    rw [e1, e2]
    exact hx.grown hrow h7
end
end Go.Proofs.Ytpjmnmkdegkfcaa
