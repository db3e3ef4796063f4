/- The law's functions of layer 10: want. -/
import Derived.BigRegion
import Derived.StillTailTactics
import Derived.Deep.Slices
import Derived.Deep.Fields
import Derived.ProofKit
import Derived.OpenShut
import Derived.SizedLaws
import Derived.Test.YtpjmnmkdegkfcaaW11
import Derived.Test.YtpjmnmkdegkfcaaW3
import Derived.Test.YtpjmnmkdegkfcaaW4
import Derived.Test.YtpjmnmkdegkfcaaW5
namespace Go.Proofs.Ytpjmnmkdegkfcaa
set_option maxRecDepth 100000
open Go.RowKit
set_option linter.unusedVariables false

theorem BBR.row {w : World} {B g n cap : Nat} {L : List (List Int)} (h : BBR w B (.slice (some ⟨g, 0, none⟩) n cap) L) : ∃ cur : Array Value, w.heap[g]? = some (.cells cur 40 (0, 0)) ∧ L.length ≤ cur.size ∧ B ≤ g := by
  obtain ⟨vs, hl, hr, ho⟩ := h
  rcases ho.2 with ⟨hv, _⟩ | ⟨g', cap', cur, hv, hg, hh, hnc, hcm, hcs, ht⟩
  · simp at hv
  · obtain rfl : g = g' := by have := Option.some.inj (Value.slice.inj hv).1; injection this
    exact ⟨cur, hh, by omega, hg⟩
theorem BBR.set {w : World} {B g n cap : Nat} {L : List (List Int)} (h : BBR w B (.slice (some ⟨g, 0, none⟩) n cap) L) {x : Nat} (hx : x < L.length) {y : Value} {l : List Int} (hy : BElt w B y l) : BBR (w.setCell ⟨g, x, none⟩ y) B (.slice (some ⟨g, 0, none⟩) n cap) (L.set x l) := by
  obtain ⟨vs, hl, hr, ho⟩ := h
  rcases ho.2 with ⟨hv, _⟩ | ⟨g', cap', cur, hv, hg, hh, hnc, hcm, hcs, ht⟩
  · simp at hv
  · obtain rfl : g = g' := by have := Option.some.inj (Value.slice.inj hv).1; injection this
    have hw := Wrote.setCell w g x y
    have hgr : w.grownBy (w.setCell ⟨g, x, none⟩ y) (some g) :=
      ⟨hw.1, hw.2.1, hw.2.2.1, by rw [hw.2.2.2.1]; exact Nat.le_refl _, fun b hb hne => hw.2.2.2.2 b (fun e => hne (by rw [e]))⟩
    have hrow : ∀ g', some g = some g' → B ≤ g' ∧ ∃ cur, w.heap[g']? = some (.cells cur 40 (0, 0)) := fun g' e => by
      obtain rfl := Option.some.inj e
      exact ⟨hg, _, hh⟩
    refine ⟨vs.set x y, by rw [List.length_set, List.length_set]; exact hl, fun j hj => ?_, by rw [List.length_set, List.length_set]; exact ho.1, .inr ⟨g, cap', cur.setIfInBounds x y, by rw [List.length_set]; exact hv, hg, ?_, by rw [List.length_set]; exact hnc, hcm, by rw [Array.size_setIfInBounds]; exact hcs, ?_⟩⟩
    · rw [List.length_set] at hj
      by_cases e : j = x
      · subst e
        have e1 : (vs.set j y).getD j undef = y := by simp [List.getD_eq_getElem?_getD, hl, hx]
        have e2 : (L.set j l).getD j [] = l := by simp [List.getD_eq_getElem?_getD, hx]
        rw [e1, e2]
        exact hy.grown hrow hgr
      · have e1 : (vs.set x y).getD j undef = vs.getD j undef := by rw [List.getD_eq_getElem?_getD, List.getElem?_set_ne (by omega), ← List.getD_eq_getElem?_getD]
        have e2 : (L.set x l).getD j [] = L.getD j [] := by rw [List.getD_eq_getElem?_getD, List.getElem?_set_ne (by omega), ← List.getD_eq_getElem?_getD]
        rw [e1, e2]
        exact (hr j hj).grown hrow hgr
    · exact heap_setCell_same w g x _ _ _ hh
    · rw [List.length_set, Array.toList_setIfInBounds, List.take_set, ht]
theorem homeW_take (N : List Int) (D : List (List Int)) (k : Nat) (hk : k < N.length) (L : List (List Int)) : appU ((homeW N D).take (k + 1)) L = (appU ((homeW N D).take k) L).set (N.getD k 0).toNat (D.getD k []) := by
  have hl : k < (homeW N D).length := by simp [homeW]; exact hk
  have e : (homeW N D)[k] = ((N.getD k 0).toNat, D.getD k []) := by simp [homeW]
  rw [List.take_succ_eq_append_getElem hl, e, appU_snoc]
set_option maxHeartbeats 2000000 in
theorem want10_of {w : World} {bv v : Value} {q : Int} {N : List Int} {D L : List (List Int)} (hb : BBSl w bv L) (hv : TxV w v q N D) (hF : frmT N D = true) (hH : hasN L.length N = true) (hL : L.length ≤ 100000) :
    Calls Try.prog 19 #[bv, v] w fun e w' => ∃ u, e = .returned u ∧ BBSl w' u (appU (homeW N D) L) ∧ Below w.heap.size w w' := by
  obtain ⟨no, nc, ao, dc, rfl, hN, hD⟩ := hv
  obtain ⟨f1, f2, f3⟩ := frmT_of hF
  have hH' := (hasN_iff _ _).1 hH
  obtain ⟨_, _, t1, hc⟩ := hN.1.open'
  obtain ⟨rfl, rfl⟩ := And.intro (Value.slice.inj t1).1 (Value.slice.inj t1).2.2
  obtain ⟨_, _, t2, _, hc2⟩ := hD.open'
  obtain ⟨rfl, rfl⟩ := And.intro (Value.slice.inj t2).1 (Value.slice.inj t2).2.2
  have HX := Lib.hid (fun k (hk : k < N.length) => show N.getD k 0 = ((N.getD k 0).toNat : Int) ∧ (N.getD k 0).toNat < L.length ∧ (D.getD k []).length = 256 from by
    have h1 := hH' k hk
    have h2 := f3 k hk
    exact ⟨by omega, by omega, h2.2.1⟩)
  have HSET := Lib.hid (fun k (hk : k < N.length) => homeW_take N D k hk L)
  have HFULL : Hid (appU ((homeW N D).take N.length) L = appU (homeW N D) L) := Lib.hid (by rw [List.take_of_length_le (by simp [homeW])])
  have HLEN := Lib.hid (fun k => appU_length ((homeW N D).take k) L)
  have HB0 := Lib.hid hb
  obtain ⟨n, hn⟩ : ∃ n, n = N.length := ⟨_, rfl⟩
  have hmn : D.length = n := f2.trans hn.symm
  rw [← hn] at hc HX HSET HFULL f1 ⊢
  rw [hmn] at hc2 ⊢
  have hbx := below_box w (.cells #[.int .u32 q, .slice no n nc, .slice ao n dc] 26)
  have hnx := heap_alloc_new w (.cells #[.int .u32 q, .slice no n nc, .slice ao n dc] 26)
  have HC := Lib.hid hc
  have HC2 := Lib.hid hc2
  clear hN hD hF hH hH' hc hc2 t1 t2 hn hmn f2 f3 hb
  go_enter Try.func19, Try.ntmps19
  go_upto_region 1 with (fail)
  generalize w.alloc (.cells #[.int .u32 q, .slice no n nc, .slice ao n dc] 26) = u at hbx hnx ⊢
  have d0 : u.cell? ⟨w.heap.size, 0, none⟩ = some (.int .u32 q) := by rw [cell_of_row _ _ _ _ _ _ hnx]; rfl
  have d1 : u.cell? ⟨w.heap.size, 1, none⟩ = some (.slice no n nc) := by rw [cell_of_row _ _ _ _ _ _ hnx]; rfl
  have d2 : u.cell? ⟨w.heap.size, 2, none⟩ = some (.slice ao n dc) := by rw [cell_of_row _ _ _ _ _ _ hnx]; rfl
  have hzu : w.heap.size < u.heap.size := (Array.getElem?_eq_some_iff.1 hnx).1
  obtain ⟨d, hd⟩ : ∃ d, d = w.heap.size := ⟨_, rfl⟩
  rw [← hd] at d0 d1 d2 hzu ⊢
  have C3 := Lib.hid (fun W (h : Below u.heap.size u W) => And.intro ((h.cell (p := ⟨d, 1, none⟩) hzu).trans d1) ((h.cell (p := ⟨d, 2, none⟩) hzu).trans d2))
  have HBX := Lib.hid hbx
  have HD := Lib.hid hd
  have HBA := Lib.hid (below_box u (.cells #[] 40))
  have HBE := Lib.hid (bbr_empty u u.heap.size (Nat.le_refl _))
  have HA1 := Lib.hid (((HB0.out.below hbx).old (Nat.le_refl u.heap.size)).below HBA.out)
  have HAL : Hid (([] : List (List Int)).length + L.length ≤ 1000000) := Lib.hid (by simp; omega)
  clear hnx hbx hd hzu d0
  go_wp2_with (at_builtin; refine wpList_append_bbs 24 Try.underlying24 _ rfl (.tmp 7) (.tmp 8) rfl u.heap.size _ [] rfl HBE.out bv L rfl HA1.out HAL.out HBA.out.size ?_
               intro v5 w5 hv5 hb5
               have H5 := Lib.hid (HBA.out.trans hb5)
               have HV5 := Lib.hid hv5
               obtain ⟨x1, x2⟩ := C3.out _ H5.out
               clear hv5 hb5)
  obtain ⟨vo, vc, hvs, _⟩ := HV5.out.sl.shape
  rw [List.nil_append] at HV5 hvs
  have HNW : Hid (Below w.heap.size w w5) := Lib.hid (HBX.out.trans (H5.out.mono HBX.out.size))
  have HST : Hid (BBR w5 u.heap.size v5 (appU ((homeW N D).take 0) L)) := Lib.hid HV5.out
  have HBS : Hid (Below u.heap.size u w5) := H5
  subst hvs
  have HS0 : Hid (0 < n → ∃ g, vo = some ⟨g, 0, none⟩ ∧ u.heap.size ≤ g) := Lib.hid (fun h0 => by
    have hl0 : 0 < L.length := Nat.lt_of_le_of_lt (Nat.zero_le _) (HX.out 0 h0).2.1
    obtain ⟨vs, hl, hr, ho⟩ := HV5.out
    rcases ho.2 with ⟨hv, _⟩ | ⟨g', cap', cur, hv, hg, _⟩
    · have : L.length = 0 := (Value.slice.inj hv).2.1
      omega
    · exact ⟨g', (Value.slice.inj hv).1, hg⟩)
  generalize hLL : L.length = l at HX HLEN HST HS0 ⊢
  clear x1 x2 d1 d2 HV5 HA1 HAL HBE HBA HB0
  go_loopw [13] (fun i wr => ∃ k : Nat, k ≤ n ∧ i = .int .i64 k ∧ Hid (BBR wr u.heap.size (.slice vo l vc) (appU ((homeW N D).take k) L)) ∧ Hid (Below u.heap.size u wr)) (fun i _ => n - (intOf i).toNat)
  case atStart => exact ⟨0, by omega, rfl, HST, HBS⟩
  case round =>
    obtain ⟨k, hk, rfl, HR, HB⟩ := hrel
    clear HST HBS
    have HBW := Lib.hid (HBX.out.trans (HB.out.mono HBX.out.size))
    by_cases hlt : k < n
    · obtain ⟨y1, y2⟩ := C3.out _ HB.out
      obtain ⟨b1, o1, rfl, hb1, q1⟩ := HC.out (by omega)
      obtain ⟨b2, o2, rfl, hb2, q2⟩ := HC2.out (by omega)
      obtain ⟨g, rfl, hug⟩ := HS0.out (by omega)
      have z1 := (HBW.out.cell (p := ⟨b1, o1 + k, none⟩) hb1).trans (q1 k hlt)
      obtain ⟨y, hcy, hy⟩ := q2 k hlt
      have z2 := (HBW.out.cell (p := ⟨b2, o2 + k, none⟩) hb2).trans hcy
      obtain ⟨hx1, hx2, hx3⟩ := HX.out k hlt
      rw [hx1] at z1
      have HSK := HSET.out k hlt
      have HLK := HLEN.out k
      have HYB : Hid (BElt wr.drew u.heap.size y (D.getD k [])) := Lib.hid ((BElt.old hy (B := u.heap.size) HBX.out.size).below ((HBW.out).drew))
      obtain ⟨yo, yc, rfl, _⟩ := hy.shape
      rw [hx3] at z2 HYB
      obtain ⟨x, hx⟩ : ∃ x, x = (N.getD k 0).toNat := ⟨_, rfl⟩
      rw [← hx] at z1 hx2 HSK
      have HRD : Hid (BBR wr.drew u.heap.size (.slice (some ⟨g, 0, none⟩) l vc) (appU ((homeW N D).take k) L)) := Lib.hid (HR.out.below (Below.refl _ _).drew)
      obtain ⟨cur, hcur, hcl, _⟩ := HRD.out.row
      have hfz : wr.drew.frozen? ⟨g, x, none⟩ = false := frozen_of_row _ _ _ _ _ hcur
      have hcx : ∃ z, wr.drew.cell? ⟨g, x, none⟩ = some z := ⟨cur[x]'(by omega), by rw [cell_of_row _ _ _ _ _ _ hcur]; exact Array.getElem?_eq_getElem _⟩
      obtain ⟨z, hz⟩ := hcx
      have ek : (k : Int) < (n : Int) := by omega
      have ex : (x : Int) < (l : Int) := by omega
      have HSK' := Lib.hid HSK
      have HXL : Hid (x < (appU ((homeW N D).take k) L).length) := Lib.hid (by rw [HLK]; exact hx2)
      have HUG := Lib.hid hug
      clear q1 q2 hcy hy hx hx1 hx3 HSK HLK hcur hcl hug hb1 hb2
      go_wp2
      go_still_tail 12, (by kernel_rfl)
      go_wp2
      go_roundw
      case rel => exact ⟨k + 1, by omega, by go_num, by rw [HSK'.out]; exact HRD.out.set HXL.out HYB.out, (HB.out.drew).trans ((Wrote.setCell wr.drew g x _).below HUG.out)⟩
      case measure => simp [intOf]; omega
    · obtain rfl : k = n := by omega
      go_wp2
      go_ret
      exact ⟨_, rfl, by rw [← HFULL.out]; exact HR.out.sl, HBW.out⟩
end Go.Proofs.Ytpjmnmkdegkfcaa

/- LogWrites: the walk of the law itself, where it ends early. -/
namespace Go.Proofs.Ytpjmnmkdegkfcaa
set_option maxRecDepth 100000
open Go.RowKit
set_option linter.unusedVariables false

/-- With power, and no fuse, all of it is laid down, and flushed. -/
theorem lay_free {q : Int} {N : List Int} {D : List (List Int)} (hF : frmT N D = true) (q0 : 0 ≤ q) (q1 : q < 4294967296) (s : DS) (h1 : s.fu = false) (h2 : s.dn = false) (h43 : 43 ≤ s.F.length) :
    let r := runA (layA q (layWs q N D)) s
    r.1 = 0 ∧ r.2.fu = false ∧ r.2.dn = false ∧ r.2.U = [] ∧ r.2.F.length = s.F.length ∧ (∀ i, i < D.length + 1 → r.2.vis.getD (3 + i) [] = (packT q N D).getD i []) ∧ r.2.vis.getD 42 [] = (packT q N D).getD (D.length + 1) [] ∧ isTxn (jour r.2.vis) q N D := by
  intro r
  obtain ⟨g1, g2, g3, g4, _⟩ := runA_free (layA q (layWs q N D)) s h1 h2
  obtain ⟨hd, hl, hall⟩ := frmT_of hF
  have e : foldA (layA q (layWs q N D)) s.fuP = ((appU (layWs q N D) (s.vis.set 42 z256)).set 42 (sealS (endL q)), []) := by
    unfold layA
    rw [foldA_append, foldA_append, foldA_ws]
    rfl
  rw [e] at g2
  have e1 : r.2.F = (appU (layWs q N D) (s.vis.set 42 z256)).set 42 (sealS (endL q)) := congrArg Prod.fst g2
  have e2 : r.2.U = [] := congrArg Prod.snd g2
  have ev : r.2.vis = r.2.F := by show appU r.2.U r.2.F = _; rw [e2]; rfl
  have hvl : (s.vis.set 42 z256).length = s.F.length := by rw [List.length_set, DS.vis_length]
  have el : r.2.F.length = s.F.length := by rw [e1, List.length_set, appU_length, hvl]
  have hp : packT q N D = (sealS (headL q N) :: D) ++ [sealS (endL q)] := rfl
  have p1 : ∀ i, i < D.length + 1 → (packT q N D).getD i [] = (sealS (headL q N) :: D).getD i [] := fun i hi => by
    rw [hp, List.getD_eq_getElem?_getD, List.getElem?_append_left (by simpa using hi), ← List.getD_eq_getElem?_getD]
  have p2 : (packT q N D).getD (D.length + 1) [] = sealS (endL q) := by
    rw [hp, List.getD_eq_getElem?_getD, List.getElem?_append_right (by simp)]
    simp
  have a1 : ∀ i, i < D.length + 1 → r.2.vis.getD (3 + i) [] = (sealS (headL q N) :: D).getD i [] := fun i hi => by
    rw [ev, e1, set_other _ _ _ _ (by omega)]
    exact layWs_hit (by omega) (by omega) i hi
  have a2 : r.2.vis.getD 42 [] = sealS (endL q) := by
    rw [ev, e1]
    exact set_same _ _ _ (by rw [appU_length, hvl]; omega)
  refine ⟨g1, g3, g4, e2, el, fun i hi => by rw [a1 i hi, p1 i hi], by rw [a2, p2], ?_⟩
  refine jour_txn (by rw [DS.vis_length, el]; omega) hF ⟨q0, q1⟩ ?_ (fun j hj => ?_) a2
  · exact a1 0 (by omega)
  · have := a1 (1 + j) (by omega)
    rw [show 3 + (1 + j) = 4 + j by omega] at this
    rw [this, show 1 + j = j + 1 by omega]
    rfl
theorem lLogW_few {w : World} {tv : Value} {q a : Int} {N : List Int} {D : List (List Int)} (ht : TxV w tv q N D) (hrD : ∀ j, (D.getD j []).length ≤ 140737488355328) (hB : FewS N D = false) :
    Calls Try.prog 3 #[tv, .int .u8 a] w fun e w' => e = .returned (.bool true) ∧ Below w.heap.size w w' := by
  have ht' := ht
  obtain ⟨no, nc, ao, dc, rfl, hN, hD⟩ := ht
  have KF1 := Lib.hid (fun W (hb : Below w.heap.size w W) => Few9_is (ht'.below hb) hrD false hB)
  obtain ⟨n, hn⟩ : ∃ n, n = N.length := ⟨_, rfl⟩
  obtain ⟨m, hm⟩ : ∃ m, m = D.length := ⟨_, rfl⟩
  rw [← hn, ← hm] at KF1 ⊢
  have hbx := below_box w (.cells #[.int .u32 q, .slice no n nc, .slice ao m dc] 26)
  have hnx := heap_alloc_new w (.cells #[.int .u32 q, .slice no n nc, .slice ao m dc] 26)
  clear hN hD hn hm ht' hrD hB
  go_enter Try.func3, Try.ntmps3
  go_upto_region 1 with (fail)
  generalize w.alloc (.cells #[.int .u32 q, .slice no n nc, .slice ao m dc] 26) = u at hbx hnx ⊢
  have hzu : w.heap.size < u.heap.size := (Array.getElem?_eq_some_iff.1 hnx).1
  have d0 : u.cell? ⟨w.heap.size, 0, none⟩ = some (.int .u32 q) := by rw [cell_of_row _ _ _ _ _ _ hnx]; rfl
  have d1 : u.cell? ⟨w.heap.size, 1, none⟩ = some (.slice no n nc) := by rw [cell_of_row _ _ _ _ _ _ hnx]; rfl
  have d2 : u.cell? ⟨w.heap.size, 2, none⟩ = some (.slice ao m dc) := by rw [cell_of_row _ _ _ _ _ _ hnx]; rfl
  obtain ⟨d, hd⟩ : ∃ d, d = w.heap.size := ⟨_, rfl⟩
  rw [← hd] at hzu d0 d1 d2 ⊢
  have C3 := Lib.hid (fun W (h : Below u.heap.size u W) => And.intro ((h.cell (p := ⟨d, 0, none⟩) hzu).trans d0) (And.intro ((h.cell (p := ⟨d, 1, none⟩) hzu).trans d1) ((h.cell (p := ⟨d, 2, none⟩) hzu).trans d2)))
  have HBT := Lib.hid (fun W (h : Below u.heap.size u W) => hbx.trans (h.mono hbx.size))
  clear hnx hbx hzu hd d0 d1 d2
  go_wp2_with (first
    | (go_at_call 6; (with_reducible refine (awake10_any u).mono ?_); rintro e w1 ⟨rfl, hb1⟩
       obtain ⟨x0, x1, x2⟩ := C3.out _ hb1
       have HU1 := Lib.hid hb1
       have HB1 := Lib.hid (HBT.out _ hb1)
       clear hb1)
    | (go_at_call 7; (with_reducible refine (KF1.out _ HB1.out).mono ?_); rintro e w2 ⟨rfl, hb2⟩
       have HU2 := Lib.hid (HU1.out.trans (hb2.mono HU1.out.size))
       have HB2 := Lib.hid (HBT.out _ HU2.out)
       clear hb2)
    | (go_at_call 6; (with_reducible refine (awake10_any w2).mono ?_); rintro e w3 ⟨rfl, hb3⟩))
  go_ret
  exact ⟨rfl, HB2.out.trans (hb3.mono HB2.out.size)⟩
set_option maxHeartbeats 2000000 in
/-- A change that the disk hasn't all blocks for, or that is not formed; a disk without a journal. -/
theorem lLogW_no {w : World} {tv : Value} {q : Int} {a : Nat} {N : List Int} {D : List (List Int)} (ht : TxV w tv q N D) (ha : a ≤ 255) (hrD : ∀ j, (D.getD j []).length ≤ 140737488355328) (hB : FewS N D = true) (hT : takesT (60 + a) N D = false) :
    Calls Try.prog 3 #[tv, .int .u8 a] w fun e w' => e = .returned (.bool true) ∧ Below w.heap.size w w' := by
  have ht' := ht
  obtain ⟨no, nc, ao, dc, rfl, hN, hD⟩ := ht
  have h60 : N.length ≤ 60 := by
    unfold FewS at hB
    rw [Bool.and_eq_true, decide_eq_true_eq] at hB
    exact hB.2
  have KF1 := Lib.hid (fun W (hb : Below w.heap.size w W) => Few9_is (ht'.below hb) hrD true hB)
  obtain ⟨z, hz⟩ : ∃ z, z = 60 + a := ⟨_, rfl⟩
  rw [← hz] at hT
  have hzl : (DS.new z).F.length = z := List.length_replicate
  have hzi : (60 : Int) + (a : Int) = (z : Int) := by omega
  have KN := Lib.hid (fun W => kNew W z (by omega))
  have KB := Lib.hid (fun W P p (h : Dk W P p (DS.new z)) => blocks10_of h rfl (by rw [hzl]; omega))
  have KT := Lib.hid (fun W (hb : Below w.heap.size w W) B (hB : (hasN z N && frmT N D) = B) => fits10_is (ht'.below hb) (by omega) z B hB)
  have KW := Lib.hid (fun W P p (h : Dk W P p (DS.new z)) (hb : Below w.heap.size w W) => gWrite_no h (ht'.below hb) (by rw [hzl]; exact hT))
  have KH := Lib.hid (fun W P p (h : Dk W P p (DS.new z)) (hb : Below w.heap.size w W) => gHome_no h (ht'.below hb) (by rw [hzl]; exact hT))
  have KS := Lib.hid (fun W u v (h1 : BBSl W u (DS.new z).vis) (h2 : BBSl W v (DS.new z).vis) => same10_of h1 h2 (by rw [DS.vis_length, hzl]; omega))
  have KU := Lib.hid (fun W P p (h : Dk W P p (DS.new z)) => show Calls Try.prog 14 #[p] W fun e w' => e = .returned (.int .i64 0) ∧ W = w' from kUnflushed h)
  obtain ⟨B, hFB⟩ : ∃ B, (hasN z N && frmT N D) = B := ⟨_, rfl⟩
  have KT1 := Lib.hid (fun W hb => KT.out W hb B hFB)
  have HCASE : Hid (64 ≤ z → B = false) := Lib.hid (fun h => by
    unfold takesT at hT
    rw [decide_eq_true h, Bool.true_and, Bool.and_comm] at hT
    rw [← hFB]; exact hT)
  obtain ⟨n, hn⟩ : ∃ n, n = N.length := ⟨_, rfl⟩
  obtain ⟨m, hm⟩ : ∃ m, m = D.length := ⟨_, rfl⟩
  rw [← hn, ← hm] at KF1 KT1 KW KH ⊢
  have hbx := below_box w (.cells #[.int .u32 q, .slice no n nc, .slice ao m dc] 26)
  have hnx := heap_alloc_new w (.cells #[.int .u32 q, .slice no n nc, .slice ao m dc] 26)
  clear hN hD hn hm ht' hrD hB hT h60 hz KT hFB hzl
  go_enter Try.func3, Try.ntmps3
  go_upto_region 1 with (fail)
  generalize w.alloc (.cells #[.int .u32 q, .slice no n nc, .slice ao m dc] 26) = u at hbx hnx ⊢
  have hzu : w.heap.size < u.heap.size := (Array.getElem?_eq_some_iff.1 hnx).1
  have d0 : u.cell? ⟨w.heap.size, 0, none⟩ = some (.int .u32 q) := by rw [cell_of_row _ _ _ _ _ _ hnx]; rfl
  have d1 : u.cell? ⟨w.heap.size, 1, none⟩ = some (.slice no n nc) := by rw [cell_of_row _ _ _ _ _ _ hnx]; rfl
  have d2 : u.cell? ⟨w.heap.size, 2, none⟩ = some (.slice ao m dc) := by rw [cell_of_row _ _ _ _ _ _ hnx]; rfl
  obtain ⟨d, hd⟩ : ∃ d, d = w.heap.size := ⟨_, rfl⟩
  rw [← hd] at hzu d0 d1 d2 ⊢
  have C3 := Lib.hid (fun W (h : Below u.heap.size u W) => And.intro ((h.cell (p := ⟨d, 0, none⟩) hzu).trans d0) (And.intro ((h.cell (p := ⟨d, 1, none⟩) hzu).trans d1) ((h.cell (p := ⟨d, 2, none⟩) hzu).trans d2)))
  have HBT := Lib.hid (fun W (h : Below u.heap.size u W) => hbx.trans (h.mono hbx.size))
  clear hnx hbx hzu hd d0 d1 d2
  by_cases h64 : 64 ≤ z
  · have hBf := HCASE.out h64
    subst hBf
    have i64 : ¬ (z : Int) < 64 := by omega
    go_wp2_with (first
      | (go_at_call 6; (with_reducible refine (awake10_any u).mono ?_); rintro e w1 ⟨rfl, hb1⟩
         obtain ⟨x0, x1, x2⟩ := C3.out _ hb1
         have HU1 := Lib.hid hb1
         have HB1 := Lib.hid (HBT.out _ hb1)
         clear hb1)
      | (go_at_call 7; (with_reducible refine (KF1.out _ HB1.out).mono ?_); rintro e w2 ⟨rfl, hb2⟩
         have HU2 := Lib.hid (HU1.out.trans (hb2.mono HU1.out.size))
         clear hb2 x0 x1 x2)
      | (go_at_call 8; (try rw [hzi]); (with_reducible refine (KN.out w2).mono ?_); rintro e w3 ⟨p, P, rfl, hd3, hp3, hb3⟩
         have HU3 := Lib.hid (HU2.out.trans (hb3.mono HU2.out.size))
         have HD3 := Lib.hid hd3
         obtain ⟨bp, rfl⟩ := hd3.ptr
         clear hb3 hd3 hp3)
      | (go_at_call 9; (with_reducible refine (KB.out w3 _ _ HD3.out).mono ?_); rintro e w4 ⟨bv, rfl, hv4, hb4⟩
         have HU4 := Lib.hid (HU3.out.trans (hb4.mono HU3.out.size))
         have HD4 := Lib.hid (HD3.out.below hb4)
         have HV4 := Lib.hid (hv4.bba (fun k hk => HD3.out.lt k hk)).sl
         obtain ⟨y0, y1, y2⟩ := C3.out _ HU4.out
         obtain ⟨bo, bc, rfl, _⟩ := HV4.out.shape
         clear hb4 hv4)
      | (go_at_call 10; (with_reducible refine (KT1.out w4 (HBT.out _ HU4.out)).mono ?_); rintro e w5 ⟨rfl, hb5⟩
         have HU5 := Lib.hid (HU4.out.trans (hb5.mono HU4.out.size))
         have HD5 := Lib.hid (HD4.out.below hb5)
         have HV5 := Lib.hid (HV4.out.below hb5)
         obtain ⟨z0, z1, z2⟩ := C3.out _ HU5.out
         clear hb5 y0 y1 y2)
      | (go_at_call 11; (with_reducible refine (KW.out w5 _ _ HD5.out (HBT.out _ HU5.out)).mono ?_); rintro e w6 ⟨rfl, hb6⟩
         have HU6 := Lib.hid (HU5.out.trans (hb6.mono HU5.out.size))
         have HD6 := Lib.hid (HD5.out.below hb6)
         have HV6 := Lib.hid (HV5.out.below hb6)
         obtain ⟨s0, s1, s2⟩ := C3.out _ HU6.out
         clear hb6 z0 z1 z2)
      | (go_at_call 12; (with_reducible refine (KH.out w6 _ _ HD6.out (HBT.out _ HU6.out)).mono ?_); rintro e w7 ⟨rfl, hb7⟩
         have HU7 := Lib.hid (HU6.out.trans (hb7.mono HU6.out.size))
         have HD7 := Lib.hid (HD6.out.below hb7)
         have HV7 := Lib.hid (HV6.out.below hb7)
         clear hb7 s0 s1 s2)
      | (go_at_call 9; (with_reducible refine (KB.out w7 _ _ HD7.out).mono ?_); rintro e w8 ⟨cv, rfl, hv8, hb8⟩
         have HU8 := Lib.hid (HU7.out.trans (hb8.mono HU7.out.size))
         have HD8 := Lib.hid (HD7.out.below hb8)
         have HV8 := Lib.hid (HV7.out.below hb8)
         have HW8 := Lib.hid (hv8.bba (fun k hk => HD7.out.lt k hk)).sl
         obtain ⟨co, cc, rfl, _⟩ := HW8.out.shape
         clear hb8 hv8)
      | (go_at_call 13; (with_reducible refine (KS.out w8 _ _ HW8.out HV8.out).mono ?_); rintro e w9 ⟨rfl, hb9⟩
         have HU9 := Lib.hid (HU8.out.trans (hb9.mono HU8.out.size))
         have HD9 := Lib.hid (HD8.out.below hb9)
         clear hb9)
      | (go_at_call 14; (with_reducible refine (KU.out w9 _ _ HD9.out).mono ?_); rintro e w10 ⟨rfl, rfl⟩))
    go_ret
    exact ⟨rfl, HBT.out _ HU9.out⟩
  · have i64 : (z : Int) < 64 := by omega
    go_wp2_with (first
      | (go_at_call 6; (with_reducible refine (awake10_any u).mono ?_); rintro e w1 ⟨rfl, hb1⟩
         obtain ⟨x0, x1, x2⟩ := C3.out _ hb1
         have HU1 := Lib.hid hb1
         have HB1 := Lib.hid (HBT.out _ hb1)
         clear hb1)
      | (go_at_call 7; (with_reducible refine (KF1.out _ HB1.out).mono ?_); rintro e w2 ⟨rfl, hb2⟩
         have HU2 := Lib.hid (HU1.out.trans (hb2.mono HU1.out.size))
         clear hb2 x0 x1 x2)
      | (go_at_call 8; (try rw [hzi]); (with_reducible refine (KN.out w2).mono ?_); rintro e w3 ⟨p, P, rfl, hd3, hp3, hb3⟩
         have HU3 := Lib.hid (HU2.out.trans (hb3.mono HU2.out.size))
         have HD3 := Lib.hid hd3
         obtain ⟨bp, rfl⟩ := hd3.ptr
         clear hb3 hd3 hp3)
      | (go_at_call 9; (with_reducible refine (KB.out w3 _ _ HD3.out).mono ?_); rintro e w5 ⟨bv, rfl, hv4, hb4⟩
         have HU5 := Lib.hid (HU3.out.trans (hb4.mono HU3.out.size))
         have HD5 := Lib.hid (HD3.out.below hb4)
         have HV5 := Lib.hid (hv4.bba (fun k hk => HD3.out.lt k hk)).sl
         obtain ⟨z0, z1, z2⟩ := C3.out _ HU5.out
         obtain ⟨bo, bc, rfl, _⟩ := HV5.out.shape
         clear hb4 hv4)
      | (go_at_call 11; (with_reducible refine (KW.out w5 _ _ HD5.out (HBT.out _ HU5.out)).mono ?_); rintro e w6 ⟨rfl, hb6⟩
         have HU6 := Lib.hid (HU5.out.trans (hb6.mono HU5.out.size))
         have HD6 := Lib.hid (HD5.out.below hb6)
         have HV6 := Lib.hid (HV5.out.below hb6)
         obtain ⟨s0, s1, s2⟩ := C3.out _ HU6.out
         clear hb6 z0 z1 z2)
      | (go_at_call 12; (with_reducible refine (KH.out w6 _ _ HD6.out (HBT.out _ HU6.out)).mono ?_); rintro e w7 ⟨rfl, hb7⟩
         have HU7 := Lib.hid (HU6.out.trans (hb7.mono HU6.out.size))
         have HD7 := Lib.hid (HD6.out.below hb7)
         have HV7 := Lib.hid (HV6.out.below hb7)
         clear hb7 s0 s1 s2)
      | (go_at_call 9; (with_reducible refine (KB.out w7 _ _ HD7.out).mono ?_); rintro e w8 ⟨cv, rfl, hv8, hb8⟩
         have HU8 := Lib.hid (HU7.out.trans (hb8.mono HU7.out.size))
         have HD8 := Lib.hid (HD7.out.below hb8)
         have HV8 := Lib.hid (HV7.out.below hb8)
         have HW8 := Lib.hid (hv8.bba (fun k hk => HD7.out.lt k hk)).sl
         obtain ⟨co, cc, rfl, _⟩ := HW8.out.shape
         clear hb8 hv8)
      | (go_at_call 13; (with_reducible refine (KS.out w8 _ _ HW8.out HV8.out).mono ?_); rintro e w9 ⟨rfl, hb9⟩
         have HU9 := Lib.hid (HU8.out.trans (hb9.mono HU8.out.size))
         have HD9 := Lib.hid (HD8.out.below hb9)
         clear hb9)
      | (go_at_call 14; (with_reducible refine (KU.out w9 _ _ HD9.out).mono ?_); rintro e w10 ⟨rfl, rfl⟩))
    go_ret
    exact ⟨rfl, HBT.out _ HU9.out⟩
end Go.Proofs.Ytpjmnmkdegkfcaa

/- LogWrites: the walk of the law itself. -/
namespace Go.Proofs.Ytpjmnmkdegkfcaa
set_option maxRecDepth 100000
open Go.RowKit
set_option linter.unusedVariables false

set_option maxHeartbeats 6000000 in
theorem lLogW_yes {w : World} {tv : Value} {q : Int} {a : Nat} {N : List Int} {D : List (List Int)} (ht : TxV w tv q N D) (q0 : 0 ≤ q) (q1 : q < 4294967296) (ha : a ≤ 255) (hrD : ∀ j, (D.getD j []).length ≤ 140737488355328) (hB : FewS N D = true) (hT : takesT (60 + a) N D = true) :
    Calls Try.prog 3 #[tv, .int .u8 a] w fun e w' => e = .returned (.bool true) ∧ Below w.heap.size w w' := by
  have ht' := ht
  obtain ⟨no, nc, ao, dc, rfl, hN, hD⟩ := ht
  have KF1 := Lib.hid (fun W (hb : Below w.heap.size w W) => Few9_is (ht'.below hb) hrD true hB)
  obtain ⟨z, hz⟩ : ∃ z, z = 60 + a := ⟨_, rfl⟩
  rw [← hz] at hT
  have hT' := hT
  unfold takesT at hT'
  rw [Bool.and_eq_true, Bool.and_eq_true, decide_eq_true_eq] at hT'
  obtain ⟨h64, hF, hH⟩ := hT'
  obtain ⟨f1, f2, _⟩ := frmT_of hF
  have hzl : (DS.new z).F.length = z := List.length_replicate
  have hzi : (60 : Int) + (a : Int) = (z : Int) := by omega
  obtain ⟨s1, hs1⟩ : ∃ s1, s1 = (runA (layA q (layWs q N D)) (DS.new z)).2 := ⟨_, rfl⟩
  have hlay := lay_free hF q0 q1 (DS.new z) rfl rfl (by rw [hzl]; omega)
  simp only [← hs1] at hlay
  obtain ⟨g0, g1, g2, g3, g4, g5, g6, g7⟩ := hlay
  rw [hzl] at g4
  have hvl : s1.vis.length = z := by rw [DS.vis_length, g4]
  obtain ⟨s2, hs2⟩ : ∃ s2, s2 = (runA (homeA N D) s1).2 := ⟨_, rfl⟩
  have hhome := runA_free (homeA N D) s1 g1 g2
  rw [← hs2] at hhome
  obtain ⟨k0, k1, k2, k3, _⟩ := hhome
  have k1' : s2.vis = appU (homeW N D) s1.vis := by
    have e : foldA (homeA N D) s1.fuP = (s1.F, s1.U ++ homeW N D) := by unfold homeA; rw [foldA_ws]; rfl
    rw [e] at k1
    have a1 : s2.F = s1.F := congrArg Prod.fst k1
    have a2 : s2.U = s1.U ++ homeW N D := congrArg Prod.snd k1
    show appU s2.U s2.F = _
    rw [a1, a2, appU_append]; rfl
  have hs2l : s2.F.length = z := by
    have := (runA_len (homeA N D) s1).1
    rw [← hs2, g4] at this; exact this
  -- the contracts
  have KN := Lib.hid (fun W => kNew W z (by omega))
  have KB := Lib.hid (fun W P p (h : Dk W P p (DS.new z)) => blocks10_of h rfl (by rw [hzl]; omega))
  have KT1 := Lib.hid (fun W (hb : Below w.heap.size w W) => fits10_is (ht'.below hb) (by omega) z true (by rw [hH, hF]; rfl))
  have KW := Lib.hid (fun W P p (h : Dk W P p (DS.new z)) (hb : Below w.heap.size w W) => gWrite_yes h (ht'.below hb) q0 q1 (by rw [hzl]; exact hT) (by show 0 ≤ 900000; omega))
  unfold RunQ at KW
  rw [← hs1, g0] at KW
  have KU := Lib.hid (fun W P p (h : Dk W P p s1) => show Calls Try.prog 14 #[p] W fun e w' => e = .returned (.int .i64 0) ∧ W = w' from by have := kUnflushed h; rw [g3] at this; exact this)
  have KP := Lib.hid (fun W v (h : TxV W v q N D) => rPackT_yes h hF q0 q1)
  have KD := Lib.hid (fun W P p (h : Dk W P p s1) (i : Nat) (hi : i < N.length + 1) => show Calls Try.prog 16 #[p, .int .i64 (3 + (i : Int))] W fun e w' => ∃ v, e = .returned (.tuple #[v, .int .i64 0]) ∧ BSl w' v ((packT q N D).getD i []) ∧ Below W.heap.size W w' from by
    have := kRead h (3 + i) (by omega) g2
    rw [g5 i (by omega), show ((3 + i : Nat) : Int) = 3 + (i : Int) by push_cast; rfl] at this
    exact this.mono fun e w' ⟨v, h1, h2, h3, _⟩ => ⟨v, h1, h2, h3⟩)
  have KD42 := Lib.hid (fun W P p (h : Dk W P p s1) => show Calls Try.prog 16 #[p, .int .i64 42] W fun e w' => ∃ v, e = .returned (.tuple #[v, .int .i64 0]) ∧ BSl w' v ((packT q N D).getD (N.length + 1) []) ∧ Below W.heap.size W w' from by
    have := kRead h 42 (by omega) g2
    rw [g6, f2] at this
    exact this.mono fun e w' ⟨v, h1, h2, h3, _⟩ => ⟨v, h1, h2, h3⟩)
  have KR := Lib.hid (fun W P p (h : Dk W P p s1) => gRead_yes h (by omega) g2 (q := q) (N := N) (D := D) ⟨g7, by rw [g4]; exact hH⟩)
  have KST := Lib.hid (fun W u v (h1 : TxV W u q N D) (h2 : TxV W v q N D) => rSameT_of h1 h2 (by omega) (by omega))
  have KB1 := Lib.hid (fun W P p (h : Dk W P p s1) => blocks10_of h g2 (by omega))
  have KH := Lib.hid (fun W P p (h : Dk W P p s1) v (hv : TxVa W P v q N D) => gHome_yes h hv (by rw [g4]; exact hT) (by rw [g3]; show 0 ≤ 900000; omega))
  unfold RunQ at KH
  rw [← hs2, k0] at KH
  have KB2 := Lib.hid (fun W P p (h : Dk W P p s2) => blocks10_of h k3 (by omega))
  have KWT := Lib.hid (fun W bv v (hb : BBSl W bv s1.vis) (hv : TxV W v q N D) => want10_of hb hv hF (by rw [hvl]; exact hH) (by omega))
  have KS := Lib.hid (fun W u v (h1 : BBSl W u s2.vis) (h2 : BBSl W v (appU (homeW N D) s1.vis)) => same10_of (h1) (show BBSl W v s2.vis by rw [k1']; exact h2) (by rw [DS.vis_length]; omega))
  have HTV := Lib.hid (fun W (hb : Below w.heap.size w W) => ht'.below hb)
  obtain ⟨M, hM⟩ : ∃ M, M = (packT q N D).length := ⟨_, rfl⟩
  have hM2 : M = N.length + 2 := by rw [hM, packT_length, f2]
  have HPS := Lib.hid (fun W v (h : BBSl W v (packT q N D)) => h.open')
  rw [← hM] at HPS
  have HL256 := Lib.hid (fun i (hi : i < M) => show (packT q N D).getD i [] = (packT q N D).getD i [] from rfl)
  obtain ⟨n, hn⟩ : ∃ n, n = N.length := ⟨_, rfl⟩
  have hm : D.length = n := f2.trans hn.symm
  rw [← hn] at KF1 KT1 KW KD KD42 HTV f1 hM2 ⊢
  rw [hm] at KF1 KT1 KW HTV ⊢
  have hbx := below_box w (.cells #[.int .u32 q, .slice no n nc, .slice ao n dc] 26)
  have hnx := heap_alloc_new w (.cells #[.int .u32 q, .slice no n nc, .slice ao n dc] 26)
  clear hN hD hn hm ht' hrD hB hT hz hzl hs1 g0 g1 g2 g3 g4 g5 g6 g7 hs2 k0 k1 k2 k3 k1' hs2l hvl q0 q1 hF hH f2 hM HL256
  have HM2 := Lib.hid hM2
  clear hM2
  go_enter Try.func3, Try.ntmps3
  go_upto_region 1 with (fail)
  generalize w.alloc (.cells #[.int .u32 q, .slice no n nc, .slice ao n dc] 26) = u at hbx hnx ⊢
  have hzu : w.heap.size < u.heap.size := (Array.getElem?_eq_some_iff.1 hnx).1
  have d0 : u.cell? ⟨w.heap.size, 0, none⟩ = some (.int .u32 q) := by rw [cell_of_row _ _ _ _ _ _ hnx]; rfl
  have d1 : u.cell? ⟨w.heap.size, 1, none⟩ = some (.slice no n nc) := by rw [cell_of_row _ _ _ _ _ _ hnx]; rfl
  have d2 : u.cell? ⟨w.heap.size, 2, none⟩ = some (.slice ao n dc) := by rw [cell_of_row _ _ _ _ _ _ hnx]; rfl
  obtain ⟨d, hd⟩ : ∃ d, d = w.heap.size := ⟨_, rfl⟩
  have HDU := Lib.hid hzu
  rw [← hd] at hzu d0 d1 d2 ⊢
  have C3 := Lib.hid (fun W (h : Below u.heap.size u W) => And.intro ((h.cell (p := ⟨d, 0, none⟩) hzu).trans d0) (And.intro ((h.cell (p := ⟨d, 1, none⟩) hzu).trans d1) ((h.cell (p := ⟨d, 2, none⟩) hzu).trans d2)))
  have HBT := Lib.hid (fun W (h : Below u.heap.size u W) => hbx.trans (h.mono hbx.size))
  have HDZ := Lib.hid hzu
  clear hnx hbx hzu hd d0 d1 d2
  have i64 : ¬ (z : Int) < 64 := by omega
  go_wp2_with (first
    | (go_at_call 6; (with_reducible refine (awake10_any u).mono ?_); rintro e w1 ⟨rfl, hb1⟩
       obtain ⟨x0, x1, x2⟩ := C3.out _ hb1
       have HU1 := Lib.hid hb1
       have HB1 := Lib.hid (HBT.out _ hb1)
       clear hb1)
    | (go_at_call 7; (with_reducible refine (KF1.out _ HB1.out).mono ?_); rintro e w2 ⟨rfl, hb2⟩
       have HU2 := Lib.hid (HU1.out.trans (hb2.mono HU1.out.size))
       clear hb2 x0 x1 x2)
    | (go_at_call 8; (try rw [hzi]); (with_reducible refine (KN.out w2).mono ?_); rintro e w3 ⟨p, P, rfl, hd3, hp3, hb3⟩
       have HU3 := Lib.hid (HU2.out.trans (hb3.mono HU2.out.size))
       have HB23 := Lib.hid hb3
       have HD3 := Lib.hid hd3
       have HP3 := Lib.hid hp3
       obtain ⟨bp, rfl⟩ := hd3.ptr
       clear hb3 hd3 hp3)
    | (go_at_call 9; (with_reducible refine (KB.out w3 _ _ HD3.out).mono ?_); rintro e w4 ⟨bv, rfl, hv4, hb4⟩
       have HU4 := Lib.hid (HU3.out.trans (hb4.mono HU3.out.size))
       have HD4 := Lib.hid (HD3.out.below hb4)
       have HB24 := Lib.hid (HB23.out.trans (hb4.mono HB23.out.size))
       obtain ⟨y0, y1, y2⟩ := C3.out _ HU4.out
       obtain ⟨bo, bc, rfl, _⟩ := (hv4.bba (fun k hk => HD3.out.lt k hk)).sl.shape
       clear hb4 hv4)
    | (go_at_call 10; (with_reducible refine (KT1.out w4 (HBT.out _ HU4.out)).mono ?_); rintro e w5 ⟨rfl, hb5⟩
       have HU5 := Lib.hid (HU4.out.trans (hb5.mono HU4.out.size))
       have HD5 := Lib.hid (HD4.out.below hb5)
       have HB25 := Lib.hid (HB24.out.trans (hb5.mono HB24.out.size))
       obtain ⟨z0, z1, z2⟩ := C3.out _ HU5.out
       clear hb5 y0 y1 y2)
    | (go_at_call 11; (with_reducible refine (KW.out w5 _ _ HD5.out (HBT.out _ HU5.out)).mono ?_); rintro e w6 ⟨rfl, P6, hd6, hc6⟩
       have hdw5 : d < w5.heap.size := Nat.lt_of_lt_of_le HDZ.out HU5.out.size
       have hPd : ¬ P d := fun hp => by
         have h1 := HP3.out d hp
         have h2 := HU2.out.size
         have h3 := HDZ.out
         omega
       have HC6 := Lib.hid hc6
       have HD6 := Lib.hid hd6
       have HND6 := Lib.hid (hc6.keep d hdw5 hPd).2
       have hz6 : d < w6.heap.size := Nat.lt_of_lt_of_le hdw5 hc6.size
       have HZ6 := Lib.hid hz6
       have C6 := Lib.hid (fun W (h : Below w6.heap.size w6 W) => And.intro ((h.cell (p := ⟨d, 0, none⟩) hz6).trans ((hc6.cell (i := 0) hdw5 hPd).trans z0)) (And.intro ((h.cell (p := ⟨d, 1, none⟩) hz6).trans ((hc6.cell (i := 1) hdw5 hPd).trans z1)) ((h.cell (p := ⟨d, 2, none⟩) hz6).trans ((hc6.cell (i := 2) hdw5 hPd).trans z2))))
       have HBF := Lib.hid (fun W P' (hc : Chg P P' w5 W) => (HBT.out _ HU5.out).trans (hc.below fun k hk => ⟨Nat.lt_of_lt_of_le hk (HBT.out _ HU5.out).size, fun hp => by
         have h1 := HP3.out k hp
         have h2 := (HBT.out _ HU2.out).size
         omega⟩))
       have HTX6 := Lib.hid ((((HTV.out _ (HBT.out _ HU2.out)).apart_low (Nat.le_refl _) HP3.out).chg (Chg.of_below (HB25.out))).chg hc6)
       obtain ⟨s0, s1', s2'⟩ := C6.out _ (Below.refl _ _)
       clear hd6 hc6 z0 z1 z2 hdw5 hPd hz6)
    | (go_at_call 14; (with_reducible refine (KU.out w6 _ _ HD6.out).mono ?_); rintro e w10 ⟨rfl, rfl⟩)
    | (go_at_call 15; (with_reducible refine (KP.out w6 _ HTX6.out.v).mono ?_); rintro e w7 ⟨lv, rfl, hlv, hb7⟩
       obtain ⟨lo, lc, rfl, _, hlo⟩ := HPS.out _ _ hlv
       have HLO := Lib.hid hlo
       have H67 := Lib.hid hb7
       clear hlv hlo hb7 s0 s1' s2'))
  have eM1 : 2 ≤ M := by have := HM2.out; omega
  have eM2 : M ≤ 39 := by have := HM2.out; omega
  have HB70 : Hid (Below w7.heap.size w7 w7) := Lib.hid (Below.refl _ _)
  clear f1 i64
  go_loopw [78] (fun i wr => ∃ k : Nat, k ≤ M ∧ i = .int .i64 k ∧ Hid (Below w7.heap.size w7 wr)) (fun i _ => M - (intOf i).toNat)
  case atStart => exact ⟨0, by omega, rfl, HB70⟩
  case round =>
    obtain ⟨k, hk, rfl, HBR⟩ := hrel
    clear HB70
    have H6R := Lib.hid (H67.out.trans (HBR.out.mono H67.out.size))
    have HDR := Lib.hid (HD6.out.below H6R.out)
    by_cases hlt : k < M
    · obtain ⟨b1, o1, rfl, hb1, q1⟩ := HLO.out (by omega)
      obtain ⟨u1, p1, t1⟩ := q1 k hlt
      have ek : (k : Int) < (M : Int) := by omega
      by_cases hkM : k + 1 = M
      · have j1 : decide ((k : Int) = (M : Int) - 1) = true := decide_eq_true (by omega)
        have j2 : ((k : Int) == (M : Int) - 1) = true := by simp; omega
        have KC : Hid (Calls Try.prog 16 #[.pointer (some ⟨bp, 0, none⟩), .int .i64 42] wr fun e w' => ∃ v, e = .returned (.tuple #[v, .int .i64 0]) ∧ BSl w' v ((packT q N D).getD k []) ∧ Below wr.heap.size wr w') := Lib.hid (by
          have := KD42.out _ _ _ HDR.out
          rw [show n + 1 = k by have := HM2.out; omega] at this
          exact this)
        clear hkM q1
        go_wp2_with (go_at_call 16; (with_reducible refine KC.out.mono ?_); rintro e w9 ⟨y, rfl, hoy, hb9⟩
                     have HB9 := Lib.hid (HBR.out.trans (hb9.mono HBR.out.size))
                     have e1 := (HB9.out.cell (p := ⟨b1, o1 + k, none⟩) hb1).trans p1
                     have v1 := conv_bsl hoy
                     have v2 := conv_bsl (t1.below HB9.out)
                     have v1d := fun m => conv_drewN hoy m
                     have v2d := fun m => conv_drewN (t1.below HB9.out) m
                     obtain ⟨y1, z1, rfl, _⟩ := hoy.shape
                     obtain ⟨y2, z2, rfl, _⟩ := t1.shape
                     obtain ⟨T, hT⟩ : ∃ T, T = strOfNums ((packT q N D).getD k []) := ⟨_, rfl⟩
                     obtain ⟨ml, hml⟩ : ∃ ml, ml = ((packT q N D).getD k []).length := ⟨_, rfl⟩
                     rw [← hT] at v1 v2 v1d v2d
                     rw [← hml] at v1 v2 v1d v2d e1 ⊢
                     clear hoy t1 hT hml p1 hb9 hb1)
        go_quiet (fail)
        go_wp2
        go_roundw
        case rel => exact ⟨k + 1, by omega, by go_num, below_drewN' HB9.out nq⟩
        case measure => simp [intOf]; omega
      · have j1 : decide ((k : Int) = (M : Int) - 1) = false := decide_eq_false (by omega)
        have j2 : ((k : Int) == (M : Int) - 1) = false := by simp; omega
        have KC := Lib.hid (KD.out _ _ _ HDR.out k (by have := HM2.out; omega))
        clear hkM q1
        go_wp2_with (go_at_call 16; (with_reducible refine KC.out.mono ?_); rintro e w9 ⟨y, rfl, hoy, hb9⟩
                     have HB9 := Lib.hid (HBR.out.trans (hb9.mono HBR.out.size))
                     have e1 := (HB9.out.cell (p := ⟨b1, o1 + k, none⟩) hb1).trans p1
                     have v1 := conv_bsl hoy
                     have v2 := conv_bsl (t1.below HB9.out)
                     have v1d := fun m => conv_drewN hoy m
                     have v2d := fun m => conv_drewN (t1.below HB9.out) m
                     obtain ⟨y1, z1, rfl, _⟩ := hoy.shape
                     obtain ⟨y2, z2, rfl, _⟩ := t1.shape
                     obtain ⟨T, hT⟩ : ∃ T, T = strOfNums ((packT q N D).getD k []) := ⟨_, rfl⟩
                     obtain ⟨ml, hml⟩ : ∃ ml, ml = ((packT q N D).getD k []).length := ⟨_, rfl⟩
                     rw [← hT] at v1 v2 v1d v2d
                     rw [← hml] at v1 v2 v1d v2d e1 ⊢
                     clear hoy t1 hT hml p1 hb9 hb1)
        go_quiet (fail)
        go_wp2
        go_roundw
        case rel => exact ⟨k + 1, by omega, by go_num, below_drewN' HB9.out nq⟩
        case measure => simp [intOf]; omega
    · obtain rfl : k = M := by omega
      go_wp2_with (first
        | (go_at_call 17; (with_reducible refine (KR.out wr _ _ HDR.out).mono ?_); rintro e w11 ⟨vN, vD, rfl, hN3, hD3, hb3⟩
           obtain ⟨_, no3, nc3, rfl, _⟩ := hN3.isc
           obtain ⟨co3, dc3, rfl, _⟩ := hD3.sl.shape
           have hns := heap_alloc_new w11 (.cells #[.int .u32 0, .slice none 0 0, .slice none 0 0] 35)
           have hbs := below_box w11 (.cells #[.int .u32 0, .slice none 0 0, .slice none 0 0] 35)
           have HN3 := Lib.hid (hN3.below hbs)
           have HD3' := Lib.hid (hD3.below hbs)
           have H611 := Lib.hid (H6R.out.trans (hb3.mono H6R.out.size))
           generalize hnn : N.length = n3 at HN3 ⊢
           generalize hmm : D.length = m3 at HD3' ⊢
           clear hN3 hD3 hnn hmm hb3)
        | (with_reducible refine wpList_store_t3 rfl 35 sizeT (.tmp 14) (.tmp 106) rfl w11.heap.size rfl _ _ _ _ _ _ rfl rfl rfl rfl _ hns ?_; intro w12 hw12 hr12
           have hb12 := hbs.trans (hw12.below (Nat.le_refl _))
           have H612 := Lib.hid (H611.out.trans (hb12.mono H611.out.size))
           have x0 : w12.cell? ⟨w11.heap.size, 0, none⟩ = some (.int .u32 q) := by rw [cell_of_row _ _ _ _ _ _ hr12]; rfl
           have x1 : w12.cell? ⟨w11.heap.size, 1, none⟩ = some (.slice no3 n3 nc3) := by rw [cell_of_row _ _ _ _ _ _ hr12]; rfl
           have x2 : w12.cell? ⟨w11.heap.size, 2, none⟩ = some (.slice co3 m3 dc3) := by rw [cell_of_row _ _ _ _ _ _ hr12]; rfl
           have HU12 := Lib.hid (TxV.mk (q := q) (HN3.out.wrote hw12 hns (by decide)).isc (HD3'.out.wrote hw12 (Nat.zero_le _) hns (by decide) (by decide)).sl)
           have HT12 := Lib.hid (HTX6.out.chg (Chg.of_below H612.out)).v
           obtain ⟨y0, y1, y2⟩ := C6.out _ H612.out
           clear hns hbs hw12 hb12 HN3 HD3' hr12)
        | (go_at_call 18; (with_reducible refine (KST.out w12 _ _ HU12.out HT12.out).mono ?_); rintro e w13 ⟨rfl, hb13⟩
           have H613 := Lib.hid (H612.out.trans (hb13.mono H612.out.size))
           clear hb13 x0 x1 x2 y0 y1 y2)
        | (go_at_call 9; (with_reducible refine (KB1.out w13 _ _ (HD6.out.below H613.out)).mono ?_); rintro e w14 ⟨mv, rfl, hv14, hb14⟩
           have H614 : Hid (Below w6.heap.size w6 w14.drew) := Lib.hid (H613.out.trans (hb14.mono H613.out.size)).drew
           have HA14 := Lib.hid ((hv14.bba (fun k hk => (HD6.out.below H613.out).lt k hk)).chg (Chg.of_below (Below.refl w14.heap.size w14).drew))
           obtain ⟨e0, e1, e2⟩ := C6.out _ H614.out
           have HD14 := Lib.hid (HD6.out.below H614.out)
           have HT14 := Lib.hid (HTX6.out.chg (Chg.of_below H614.out))
           have HZ14 := Lib.hid (Nat.lt_of_lt_of_le HZ6.out H614.out.size)
           clear hv14 hb14))
      go_region_held3 (fun W => W.cell? ⟨d, 0, none⟩ = some (.int .u32 q) ∧ W.cell? ⟨d, 1, none⟩ = some (.slice no n nc) ∧ W.cell? ⟨d, 2, none⟩ = some (.slice ao n dc)) (first | exact ⟨i0, i1, i2⟩ | exact ⟨h0, h1, h2⟩ | exact ⟨g0, g1, g2⟩ | exact ⟨f0, f1, f2⟩ | exact ⟨e0, e1, e2⟩) (first
        | (go_at_call 12; (with_reducible refine (KH.out _ _ _ HD14.out _ HT14.out).mono ?_); rintro e w15 ⟨rfl, P15, hd15, hc15⟩
           have f0 := (hc15.cell (i := 0) HZ14.out HND6.out).trans e0
           have f1 := (hc15.cell (i := 1) HZ14.out HND6.out).trans e1
           have f2 := (hc15.cell (i := 2) HZ14.out HND6.out).trans e2
           have HZ15 := Lib.hid (Nat.lt_of_lt_of_le HZ14.out hc15.size)
           have HD15 := Lib.hid hd15
           have HC15 := Lib.hid hc15
           have HA15 := Lib.hid (HA14.out.chg hc15)
           have HT15 := Lib.hid (HT14.out.chg hc15)
           clear hd15 hc15)
        | (go_at_call 9; (with_reducible refine (KB2.out _ _ _ HD15.out).mono ?_); rintro e w16 ⟨cv, rfl, hv16, hb16⟩
           have g0 := (hb16.cell (p := ⟨d, 0, none⟩) HZ15.out).trans f0
           have g1 := (hb16.cell (p := ⟨d, 1, none⟩) HZ15.out).trans f1
           have g2 := (hb16.cell (p := ⟨d, 2, none⟩) HZ15.out).trans f2
           have HZ16 := Lib.hid (Nat.lt_of_lt_of_le HZ15.out hb16.size)
           have HV16 := Lib.hid (hv16.bba (fun k hk => HD15.out.lt k hk)).sl
           have HA16 := Lib.hid (HA15.out.sl.below hb16)
           have HT16 := Lib.hid (HT15.out.v.below hb16)
           have HB16 := Lib.hid hb16
           clear hv16 hb16)
        | (go_at_call 19; (with_reducible refine (KWT.out _ _ _ HA16.out HT16.out).mono ?_); rintro e w17 ⟨wv, rfl, hwv, hb17⟩
           have h0 := (hb17.cell (p := ⟨d, 0, none⟩) HZ16.out).trans g0
           have h1 := (hb17.cell (p := ⟨d, 1, none⟩) HZ16.out).trans g1
           have h2 := (hb17.cell (p := ⟨d, 2, none⟩) HZ16.out).trans g2
           have HV17 := Lib.hid (HV16.out.below hb17)
           have HW17 := Lib.hid hwv
           have HB17 := Lib.hid (HB16.out.trans (hb17.mono HB16.out.size))
           have HZ17 := Lib.hid (Nat.lt_of_lt_of_le HZ16.out hb17.size)
           clear hwv hb17)
        | (go_at_call 13; (with_reducible refine (KS.out _ _ _ HV17.out HW17.out).mono ?_); rintro e w18 ⟨rfl, hb18⟩
           have i0 := (hb18.cell (p := ⟨d, 0, none⟩) HZ17.out).trans h0
           have i1 := (hb18.cell (p := ⟨d, 1, none⟩) HZ17.out).trans h1
           have i2 := (hb18.cell (p := ⟨d, 2, none⟩) HZ17.out).trans h2
           have HB18 := Lib.hid (HB17.out.trans (hb18.mono HB17.out.size))))
      go_wp2
      go_ret
      exact ⟨rfl, HBF.out _ _ (((HC6.out.trans (Chg.of_below H614.out)).trans HC15.out).trans (Chg.of_below HB18.out))⟩
theorem lLogW_any {w : World} {tv : Value} {x : Int} (ht : ∃ q N D, TxV w tv q N D ∧ (0 ≤ q ∧ q < 4294967296) ∧ ∀ j, (D.getD j []).length ≤ 140737488355328) (hx : 0 ≤ x ∧ x ≤ 255) :
    Calls Try.prog 3 #[tv, .int .u8 x] w fun e w' => e = .returned (.bool true) ∧ Below w.heap.size w w' := by
  obtain ⟨q, N, D, ht, ⟨q0, q1⟩, hrD⟩ := ht
  obtain ⟨a, rfl⟩ : ∃ a : Nat, x = a := ⟨x.toNat, by omega⟩
  cases h1 : FewS N D
  · exact lLogW_few ht hrD h1
  · cases h2 : takesT (60 + a) N D
    · exact lLogW_no ht (by omega) hrD h1 h2
    · exact lLogW_yes ht q0 q1 (by omega) hrD h1 h2
end Go.Proofs.Ytpjmnmkdegkfcaa

/- Slices of bytes, of numbers, of slices of bytes, within what was read: opened to their cells, each with its reach. -/
namespace Go.Proofs.Ytpjmnmkdegkfcaa
set_option maxRecDepth 100000
open Go.RowKit Go.ChangeShapes Go.WideShapes
set_option linter.unusedVariables false

/-- Each slice and string that is reached is within the reach. -/
def Fit9 {H : Type} (t : TypeId) (d : DataW H) : Prop := ∀ n ∈ d.weights Try.prog t, n ≤ reachBytes
theorem weights_all_mem {H : Type} {P : Program} {e : TypeId} : ∀ {ds : List (DataW H)} {i : Nat} {d : DataW H}, ds[i]? = some d → ∀ n ∈ d.weights P e, n ∈ DataW.weightsAll P e ds
  | [], i, d, h => by simp at h
  | x :: ds, 0, d, h => fun n hn => by
    obtain rfl : x = d := by simpa using h
    unfold DataW.weightsAll
    exact List.mem_append_left _ hn
  | x :: ds, i + 1, d, h => fun n hn => by
    unfold DataW.weightsAll
    exact List.mem_append_right _ (weights_all_mem (by simpa using h) n hn)
theorem Fit9.slice {H : Type} {t e : TypeId} {elems spare : List (DataW H)} (hu : Try.prog.underlying t = some (.slice e)) (h : Fit9 t (.slice elems spare)) :
    (elems.length + spare.length) * Try.prog.bytesOf e ≤ reachBytes ∧ ∀ (i : Nat) (d : DataW H), elems[i]? = some d → Fit9 e d := by
  unfold Fit9 at h
  unfold DataW.weights at h
  rw [hu] at h
  exact ⟨h _ (List.mem_cons_self ..), fun i d hd n hn => h n (List.mem_cons_of_mem _ (List.mem_append_left _ (weights_all_mem hd n hn)))⟩
theorem Fit9.struct {H : Type} {t : TypeId} {fs : Array Field} {parts : List (DataW H)} (hu : Try.prog.underlying t = some (.struct fs)) (h : Fit9 t (.agg parts)) {i : Nat} {u : TypeId} {d : DataW H} (ht : (fs.toList.map (·.type))[i]? = some u) (hd : parts[i]? = some d) : Fit9 u d := by
  unfold Fit9 at h
  unfold DataW.weights at h
  rw [hu] at h
  exact fun n hn => h n (DataW.weights_mem_each ht hd n hn)
theorem Fit9.top {H : Type} {ts : List TypeId} {ds : List (DataW H)} {j : Nat} {t : TypeId} {d : DataW H} (h : ((DataW.weightsEach Try.prog ts ds).all fun x => decide (x ≤ reachBytes)) = true) (ht : ts[j]? = some t) (hd : ds[j]? = some d) : Fit9 t d := fun n hn => by
  have := List.all_eq_true.1 h n (DataW.weights_mem_each ht hd n hn)
  simpa using this

section
variable {H : Type} {enc : TypeId × Value → H} {W : World} {base : Nat} {spare : Nat → Bool} {held : Bool}
theorem bsl_of_trod {cs : List Value} {fuel : Nat} {y : DataW H × List MemPlace} (hf : DataW.trod enc Try.prog W base spare held fuel 40 cs = some y) : ∃ v l, cs = [v] ∧ BSl W v l ∧ (Fit9 40 y.1 → l.length ≤ reachBytes) := by
  rcases open_ints Try.underlying40 Try.underlying5 (by kernel_rfl) hf with ⟨hcs, _⟩ | ⟨x, len, cap, zs, hcs, _, hl, hm, hz, hx, hcell, hwz⟩
  · exact ⟨_, [], hcs, bsl_nil _, fun _ => Nat.zero_le _⟩
  · have hge : len ≤ zs.length := by rw [hz]; split <;> omega
    have hlen : (zs.take len).length = len := by simp; omega
    have hget : ∀ j, j < len → (zs.take len).getD j 0 = zs.getD j 0 := fun j hj => by
      simp [List.getD_eq_getElem?_getD, hj]
    have hbyt : Byt (zs.take len) := byt_of_mem fun x hx => bounds_u8 (hwz x (List.mem_of_mem_take hx))
    refine ⟨_, zs.take len, hcs, ⟨hbyt, .inr ⟨x, cap, by rw [hlen], by omega, fun j hj => ?_⟩⟩, fun hfit => ?_⟩
    rotate_left
    · rw [hx] at hfit
      have h1 := (Fit9.slice Try.underlying40 hfit).1
      have hby : Try.prog.bytesOf 5 = 1 := by kernel_rfl
      rw [hby] at h1
      simp only [lits, List.length_map, Nat.mul_one] at h1
      omega
    rw [hlen] at hj
    have h0 := hcell j (by omega)
    obtain ⟨b, off, spot⟩ := x
    have hspot : spot = none := by
      have h00 := hcell 0 (by omega)
      simpa [Addr.add] using World.cell?_spot h00
    subst hspot
    rw [Addr.add_lit] at h0
    exact ⟨by have := block_lt_of_cell h0; exact this, rfl, by rw [hget j hj]; exact h0⟩
theorem isl_of_trod (S : TypeId) (hS : Try.prog.underlying S = some (.slice 3)) {cs : List Value} {fuel : Nat} {y : DataW H × List MemPlace} (hf : DataW.trod enc Try.prog W base spare held fuel S cs = some y) : ∃ v l, cs = [v] ∧ ISl W v l ∧ l.length ≤ maxLen := by
  rcases open_ints hS Try.underlying3 (by kernel_rfl) hf with ⟨hcs, _⟩ | ⟨x, len, cap, zs, hcs, _, hl, hm, hz, hx, hcell, hwz⟩
  · exact ⟨_, [], hcs, isl_nil _, Nat.zero_le _⟩
  · have hge : len ≤ zs.length := by rw [hz]; split <;> omega
    have hlen : (zs.take len).length = len := by simp; omega
    have hget : ∀ j, j < len → (zs.take len).getD j 0 = zs.getD j 0 := fun j hj => by
      simp [List.getD_eq_getElem?_getD, hj]
    refine ⟨_, zs.take len, hcs, .inr ⟨x, cap, by rw [hlen], fun j hj => ?_⟩, by omega⟩
    rw [hlen] at hj
    have h0 := hcell j (by omega)
    obtain ⟨b, off, spot⟩ := x
    have hspot : spot = none := by
      have h00 := hcell 0 (by omega)
      simpa [Addr.add] using World.cell?_spot h00
    subst hspot
    rw [Addr.add_lit] at h0
    exact ⟨by have := block_lt_of_cell h0; exact this, rfl, by rw [hget j hj]; exact h0⟩
theorem bytesCells9 : Try.prog.cellsOf 40 = 1 := by kernel_rfl
theorem bbsl_of_trod (S : TypeId) (hS : Try.prog.underlying S = some (.slice 40)) {cs : List Value} {fuel : Nat} {y : DataW H × List MemPlace} (hf : DataW.trod enc Try.prog W base spare held fuel S cs = some y) :
    ∃ v L, cs = [v] ∧ BBSl W v L ∧ (Fit9 S y.1 → ∀ j, (L.getD j []).length ≤ reachBytes) := by
  rcases Go.Deep.open_slice1 hS bytesCells9 hf with ⟨hcs, _⟩ | ⟨a, len, cap, m, n, V, D, Pl, hcs, _, hl, hm, hmm, hy, hi⟩
  · exact ⟨_, [], hcs, bbsl_nil _, fun _ j => by simp⟩
  · have hlm : len ≤ m := by rw [hmm]; split <;> omega
    have hex : ∀ i, i < len → ∃ l, W.cell? (a.add i) = some (V i) ∧ BSl W (V i) l ∧ (Fit9 40 (D i) → l.length ≤ reachBytes) := fun i hi2 => by
      obtain ⟨h1, h2⟩ := hi i (by omega)
      obtain ⟨v, l, hv, hb, hln⟩ := bsl_of_trod h2
      obtain rfl : V i = v := by simpa using hv
      exact ⟨l, h1, hb, hln⟩
    obtain ⟨f, hfn⟩ := Go.Deep.choose_lt hex
    have hget : ∀ i, i < len → ((List.range len).map f).getD i [] = f i := fun i hi2 => by
      simp [List.getD_eq_getElem?_getD, hi2]
    refine ⟨_, (List.range len).map f, hcs, .inr ⟨a, cap, by simp, by simpa using hl, fun i hi2 => ?_⟩, fun hfit j => ?_⟩
    · have hi2 : i < len := by simpa using hi2
      obtain ⟨c0, hb, _⟩ := hfn i hi2
      obtain ⟨b, off, spot⟩ := a
      have hsp : spot = none := by
        obtain ⟨z0, _⟩ := hfn 0 (by omega)
        simpa [Addr.add] using World.cell?_spot z0
      subst hsp
      rw [Addr.add_lit] at c0
      rw [hget i hi2]
      exact ⟨by have := block_lt_of_cell c0; exact this, rfl, V i, c0, hb⟩
    · by_cases hj : j < len
      · rw [hget j hj]
        rw [hy] at hfit
        exact (hfn j hj).2.2 ((Fit9.slice hS hfit).2 j (D j) (by simp [hj]))
      · rw [List.getD_eq_getElem?_getD, List.getElem?_eq_none (by simp; omega)]; exact Nat.zero_le _
end
end Go.Proofs.Ytpjmnmkdegkfcaa

/- An argument that is a change (the reference's Txn), and one that is a list of blocks. -/
namespace Go.Proofs.Ytpjmnmkdegkfcaa
set_option maxRecDepth 100000
open Go.RowKit Go.ChangeShapes Go.WideShapes
set_option linter.unusedVariables false

theorem rTxnCells : Try.prog.cellsOf 26 = 3 := by kernel_rfl
theorem u32Cells9 : Try.prog.cellsOf 22 = 1 := by kernel_rfl
theorem intsCells9 : Try.prog.cellsOf 23 = 1 := by kernel_rfl
theorem bbCells9 : Try.prog.cellsOf 24 = 1 := by kernel_rfl

section
variable {H : Type} {enc : TypeId × Value → H} {W : World} {base : Nat} {spare : Nat → Bool} {held : Bool}
theorem isc_of_trod {cs : List Value} {fuel : Nat} {y : DataW H × List MemPlace} (hf : DataW.trod enc Try.prog W base spare held fuel 23 cs = some y) : ∃ v l, cs = [v] ∧ ISc W v l := by
  rcases open_ints Try.underlying23 Try.underlying3 (by kernel_rfl) hf with ⟨hcs, _⟩ | ⟨x, len, cap, zs, hcs, _, hl, hm, hz, hx, hcell, hwz⟩
  · exact ⟨_, [], hcs, isc_nil _⟩
  · have hge : len ≤ zs.length := by rw [hz]; split <;> omega
    have hlen : (zs.take len).length = len := by simp; omega
    have hget : ∀ j, j < len → (zs.take len).getD j 0 = zs.getD j 0 := fun j hj => by
      simp [List.getD_eq_getElem?_getD, hj]
    refine ⟨_, zs.take len, hcs, .inr ⟨x, cap, by rw [hlen], fun j hj => ?_⟩, some x, cap, by rw [hlen], by rw [hlen]; exact hl⟩
    rw [hlen] at hj
    have h0 := hcell j (by omega)
    obtain ⟨b, off, spot⟩ := x
    have hspot : spot = none := by
      have h00 := hcell 0 (by omega)
      simpa [Addr.add] using World.cell?_spot h00
    subst hspot
    rw [Addr.add_lit] at h0
    exact ⟨by have := block_lt_of_cell h0; exact this, rfl, by rw [hget j hj]; exact h0⟩
theorem txn_cs {cs : List Value} {m : Nat} {y : DataW H × List MemPlace} (hl : cs.length = 3) (ht : DataW.trod enc Try.prog W base spare held m 26 cs = some y) :
    ∃ (q : Int) (vN vD : Value) (N : List Int) (D : List (List Int)), cs = [.int .u32 q, vN, vD] ∧ ISc W vN N ∧ BBSl W vD D ∧ (0 ≤ q ∧ q < 4294967296) ∧ (Fit9 26 y.1 → ∀ j, (D.getD j []).length ≤ reachBytes) := by
  obtain ⟨xs, n, _, hy, hlen, hxs, hf⟩ := DataW.trod_struct Try.underlying26 ht
  match cs, hl with
  | [c0, c1, c2], _ =>
    match xs, hxs with
    | [y0, y1, y2], _ =>
      have g0 : DataW.trod enc Try.prog W base spare held n 22 (List.take (Try.prog.cellsOf 22) (List.drop 0 [c0, c1, c2])) = some y0 := hf 0 _ rfl
      have g1 : DataW.trod enc Try.prog W base spare held n 23 (List.take (Try.prog.cellsOf 23) (List.drop 1 [c0, c1, c2])) = some y1 := hf 1 _ rfl
      have g2 : DataW.trod enc Try.prog W base spare held n 24 (List.take (Try.prog.cellsOf 24) (List.drop 2 [c0, c1, c2])) = some y2 := hf 2 _ rfl
      rw [u32Cells9] at g0
      rw [intsCells9] at g1
      rw [bbCells9] at g2
      obtain ⟨q, e0, _, wf⟩ := DataW.trod_int Try.underlying22 (cs := [c0]) g0
      obtain ⟨vN, N, e1, hN⟩ := isc_of_trod (cs := [c1]) g1
      obtain ⟨vD, D, e2, hD, hr⟩ := bbsl_of_trod 24 Try.underlying24 (cs := [c2]) g2
      simp only [List.cons.injEq, and_true] at e0 e1 e2
      subst e0 e1 e2
      refine ⟨q, c1, c2, N, D, rfl, hN, hD, ?_, fun h => hr ?_⟩
      · have := bounds_u32 wf
        omega
      · rw [hy] at h
        exact Fit9.struct Try.underlying26 h (i := 2) (u := 24) rfl rfl
theorem txn_open {v : Value} {d : DataW H} {p : List MemPlace} {r : Reach} {b0 : Nat} (hv : Value.okWide Try.prog W r b0 26 v) (h : DataW.Trod enc Try.prog W base (fun _ => true) held 26 v d p) :
    ∃ z : Int × List Int × List (List Int), (TxV W v z.1 z.2.1 z.2.2 ∧ (0 ≤ z.1 ∧ z.1 < 4294967296)) ∧
      ∀ (ts : List TypeId) (ds : List (DataW H)) (j : Nat), ((DataW.weightsEach Try.prog ts ds).all fun x => decide (x ≤ reachBytes)) = true → ts[j]? = some 26 → ds[j]? = some d → ∀ k, (z.2.2.getD k []).length ≤ reachBytes := by
  obtain ⟨cs, rfl, hs⟩ := okWide_struct Try.underlying26 hv
  rw [rTxnCells] at hs
  obtain ⟨fuel, hf⟩ := h
  obtain ⟨q, vN, vD, N, D, e, hN, hD, hq, hr⟩ := txn_cs (by simpa [Value.cells] using hs) hf
  have e' : cs = #[.int .u32 q, vN, vD] := by
    apply Array.ext'
    exact e
  subst e'
  exact ⟨(q, N, D), ⟨TxV.mk hN hD, hq⟩, fun ts ds j hz h1 h2 => hr (Fit9.top hz h1 h2)⟩
theorem bb_open {v : Value} {d : DataW H} {p : List MemPlace} {r : Reach} {b0 : Nat} (hv : Value.okWide Try.prog W r b0 24 v) (h : DataW.Trod enc Try.prog W base (fun _ => true) held 24 v d p) :
    ∃ M : List (List Int), BBSl W v M ∧
      ∀ (ts : List TypeId) (ds : List (DataW H)) (j : Nat), ((DataW.weightsEach Try.prog ts ds).all fun x => decide (x ≤ reachBytes)) = true → ts[j]? = some 24 → ds[j]? = some d → ∀ k, (M.getD k []).length ≤ reachBytes := by
  obtain ⟨a0, len0, cap0, rfl⟩ := okWide_slice Try.underlying24 hv
  obtain ⟨fuel, hf⟩ := h
  obtain ⟨v', M, hcs, hM, hr⟩ := bbsl_of_trod 24 Try.underlying24 hf
  simp [Value.cells] at hcs
  subst hcs
  exact ⟨M, hM, fun ts ds j hz h1 h2 => hr (Fit9.top hz h1 h2)⟩
end
end Go.Proofs.Ytpjmnmkdegkfcaa
