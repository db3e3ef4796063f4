/- Contracts of package log: Write, the walk. -/
import Derived.Deep.RegionHeld
import Derived.OrdersHeld
import Derived.Laws.Rows
import Derived.BigRegion
import Derived.StillTailTactics
import Derived.Test.YtkbeencjklgcnaaGreatMg11
import Derived.Test.YtkbeencjklgcnaaGreatMg13
namespace Go.Proofs.YtkbeencjklgcnaaGreat
set_option maxRecDepth 100000
open Go.RowKit
set_option linter.unusedVariables false

theorem StSl.drew {w : World} {P : Nat → Prop} {b off : Nat} {St : List (Nat × List (List Int))} (h : StSl w P b off St) : StSl w.drew P b off St := h.chg (Chg.of_below (below_drewN' (Below.refl _ _) 1))
theorem below_drew10 {B : Nat} {w w' : World} (h : Below B w w') : Below B w w'.drew := below_drewN' h 1
section
variable {w : World} {P : Nat → Prop} {p : Value} {s : DS}
theorem gWrite_no (h : Dk w P p s) {v : Value} {q : Int} {N : List Int} {D : List (List Int)} (hv : TxV w v q N D) (hB : takesT s.F.length N D = false) :
    Calls Tryz.prog 110 #[p, v] w fun e w' => e = .returned (.int .i64 1) ∧ Below w.heap.size w w' := by
  have hv' := hv
  obtain ⟨no, nc, ao, dc, rfl, hN, hD⟩ := hv
  have KT := Lib.hid (fun W (hb : Below w.heap.size w W) => gTakes_is (h.below hb) (hv'.below hb) false hB)
  obtain ⟨bp, rfl⟩ := h.ptr
  generalize N.length = n at KT ⊢
  generalize D.length = m at KT ⊢
  have hbx := below_box w (.cells #[.int .u32 q, .slice no n nc, .slice ao m dc] 139)
  have hnx := heap_alloc_new w (.cells #[.int .u32 q, .slice no n nc, .slice ao m dc] 139)
  clear h hN hD hv' hB
  go_enter Tryz.func110, Tryz.ntmps110
  go_upto_region 1 with (fail)
  generalize w.alloc (.cells #[.int .u32 q, .slice no n nc, .slice ao m dc] 139) = u at hbx hnx ⊢
  have KT1 := Lib.hid (KT.out _ hbx)
  have d0 : u.cell? ⟨w.heap.size, 0, none⟩ = some (.int .u32 q) := by rw [cell_of_row _ _ _ _ _ _ hnx]; rfl
  have d1 : u.cell? ⟨w.heap.size, 1, none⟩ = some (.slice no n nc) := by rw [cell_of_row _ _ _ _ _ _ hnx]; rfl
  have d2 : u.cell? ⟨w.heap.size, 2, none⟩ = some (.slice ao m dc) := by rw [cell_of_row _ _ _ _ _ _ hnx]; rfl
  have HBX := Lib.hid hbx
  clear hnx KT hbx
  go_wp2_with (go_at_call 124; (with_reducible refine KT1.out.mono ?_); rintro e w2 ⟨rfl, hb2⟩)
  go_ret
  exact ⟨rfl, HBX.out.trans (hb2.mono HBX.out.size)⟩
set_option maxHeartbeats 2000000 in
theorem gWrite_yes (h : Dk w P p s) {v : Value} {q : Int} {N : List Int} {D : List (List Int)} (hv : TxV w v q N D) (q0 : 0 ≤ q) (q1 : q < 4294967296) (hB : takesT s.F.length N D = true) (hU : s.U.length ≤ 900000) :
    Calls Tryz.prog 110 #[p, v] w (RunQ (layA q (layWs q N D)) w P p s) := by
  have hv' := hv
  obtain ⟨no, nc, ao, dc, rfl, hN, hD⟩ := hv
  have hB' := hB
  unfold takesT at hB'
  rw [Bool.and_eq_true, Bool.and_eq_true, decide_eq_true_eq] at hB'
  obtain ⟨h64, hF, hH⟩ := hB'
  obtain ⟨f1, f2, f3⟩ := frmT_of hF
  have KT := Lib.hid (fun W (hb : Below w.heap.size w W) => gTakes_is (h.below hb) (hv'.below hb) true hB)
  have KP := Lib.hid (fun W (hb : Below w.heap.size w W) => tPack_own (hv'.below hb) hF q0 q1)
  obtain ⟨M, hM⟩ : ∃ M, M = (packT q N D).length := ⟨_, rfl⟩
  obtain ⟨K, hK⟩ : ∃ K, K = D.length + 1 := ⟨_, rfl⟩
  have hMK : K + 1 = M := by rw [hM, packT_length, hK]
  have hM40 : M ≤ 40 := by omega
  have KL : Hid (∀ W g U3, Below w.heap.size w W → (W.heap.size + 1 + 1 = g) → (StSl U3 P g 0 (strT q N D)) → Below W.heap.size W U3 → Calls Tryz.prog 138 #[p, .slice (some ⟨g, 0, none⟩) 4 4] U3 (fun e w' => e = .returned (.int .i64 (runA (layA q (layWs q N D)) s).1) ∧ ∃ P', Dk w' P' p (runA (layA q (layWs q N D)) s).2 ∧ Chg P P' w w')) := Lib.hid (fun W g U3 hb _ hs hb2 => by
    have := gLay_of (cap := 4) (h.below (hb.trans (hb2.mono hb.size))) hs hU (by
      unfold cntS; rw [layS_strT]; unfold layA; simp [layWs]; omega) (by show 4 ≤ 1000; omega) (fun j hj i hi => by
      have hj4 : j < 4 := hj
      obtain rfl | rfl | rfl | rfl : j = 0 ∨ j = 1 ∨ j = 2 ∨ j = 3 := by omega
      · exact absurd hi (Nat.not_lt_zero _)
      · obtain rfl : i = 0 := by have : i < 1 := hi; omega
        exact ⟨by show 42 + 0 < _; omega, by show z256.length = 256; exact List.length_replicate⟩
      · have hi' : i < D.length + 1 := hi
        refine ⟨by show 3 + i < _; omega, ?_⟩
        show ((sealS (headL q N) :: D).getD i []).length = 256
        cases i with
        | zero => exact sealS_length _ (by rw [headL_length]; omega)
        | succ i => exact (f3 i (by omega)).2.1
      · obtain rfl : i = 0 := by have : i < 1 := hi; omega
        exact ⟨by show 42 + 0 < _; omega, by show (sealS (endL q)).length = 256; exact sealS_length _ (by rw [endL_length]; omega)⟩) (fun j hj => by
      have hj4 : j < 4 := hj
      obtain rfl | rfl | rfl | rfl : j = 0 ∨ j = 1 ∨ j = 2 ∨ j = 3 := by omega
      · exact ⟨by show 0 ≤ 1000; omega, by show 0 ≤ 1000; omega⟩
      · exact ⟨by show 42 ≤ 1000; omega, by show 1 ≤ 1000; omega⟩
      · exact ⟨by show 3 ≤ 1000; omega, by show D.length + 1 ≤ 1000; omega⟩
      · exact ⟨by show 42 ≤ 1000; omega, by show 1 ≤ 1000; omega⟩)
    rw [layS_strT] at this
    refine this.mono ?_
    rintro e w' ⟨he, P', hd, hc⟩
    exact ⟨he, P', hd, (Chg.of_below (hb.trans (hb2.mono hb.size))).trans hc⟩)
  have hlt := fun k hk => h.lt k hk
  have HAP := Lib.hid (fun W (hb : Below w.heap.size w W) u (hu : BB2 W W.heap.size 0 u (packT q N D)) => hu.zero.apart (h.below hb))
  have HAP2 := Lib.hid (fun W (hb : Below w.heap.size w W) B u (hu : BB2 W B 0 u (packT q N D)) => hu.zero.apart (h.below hb))
  have HSM := Lib.hid (fun W (hb : Below w.heap.size w W) b off cap (hu : BBa W P (.slice (some ⟨b, off, none⟩) M cap) (packT q N D)) => stSl_made (W := W) (P := P) (fun k hk => Nat.lt_of_lt_of_le (hlt k hk) hb.size) hu hM.symm hK.symm)
  have HSH := Lib.hid (fun W u (hu : BBSl W u (packT q N D)) => hu.open')
  rw [← hM] at HSH
  obtain ⟨bp, rfl⟩ := h.ptr
  unfold RunQ
  obtain ⟨A, hA⟩ : ∃ A, A = layA q (layWs q N D) := ⟨_, rfl⟩
  rw [← hA] at KL ⊢
  obtain ⟨rr, hrr⟩ : ∃ rr, rr = (runA A s).1 := ⟨_, rfl⟩
  obtain ⟨rs, hrs⟩ : ∃ rs, rs = (runA A s).2 := ⟨_, rfl⟩
  rw [← hrr, ← hrs] at KL ⊢
  generalize N.length = n at KT KP ⊢
  generalize D.length = m at KT KP ⊢
  have hbx := below_box w (.cells #[.int .u32 q, .slice no n nc, .slice ao m dc] 139)
  have hnx := heap_alloc_new w (.cells #[.int .u32 q, .slice no n nc, .slice ao m dc] 139)
  have hMc : ((K : Nat) : Int) = (M : Int) - 1 := by omega
  have HMK := Lib.hid hMK
  have HM40 := Lib.hid hM40
  have HMC := Lib.hid hMc
  clear h hN hD hv' hB hF hH f1 f2 f3 h64 hlt hU q0 q1 hM hK hA hrr hrs hMK hMc
  go_enter Tryz.func110, Tryz.ntmps110
  go_upto_region 1 with (fail)
  generalize w.alloc (.cells #[.int .u32 q, .slice no n nc, .slice ao m dc] 139) = u at hbx hnx ⊢
  have KT1 := Lib.hid (KT.out _ hbx)
  have d0 : u.cell? ⟨w.heap.size, 0, none⟩ = some (.int .u32 q) := by rw [cell_of_row _ _ _ _ _ _ hnx]; rfl
  have d1 : u.cell? ⟨w.heap.size, 1, none⟩ = some (.slice no n nc) := by rw [cell_of_row _ _ _ _ _ _ hnx]; rfl
  have d2 : u.cell? ⟨w.heap.size, 2, none⟩ = some (.slice ao m dc) := by rw [cell_of_row _ _ _ _ _ _ hnx]; rfl
  have hzu : w.heap.size < u.heap.size := (Array.getElem?_eq_some_iff.1 hnx).1
  obtain ⟨d, hd⟩ : ∃ d, d = w.heap.size := ⟨_, rfl⟩
  have HBX := Lib.hid hbx
  have HM0 : Hid (0 < M) := Lib.hid (by have := HMK.out; omega)
  rw [← hd] at d0 d1 d2 hzu ⊢
  have e1 : 1 ≤ M := HM0.out
  clear hnx KT hbx hd
  go_wp2_with (first
    | (go_at_call 124; (with_reducible refine KT1.out.mono ?_); rintro e w2 ⟨rfl, hb2⟩
       have HB2 := Lib.hid (HBX.out.trans (hb2.mono HBX.out.size))
       have g0 := (hb2.cell (p := ⟨d, 0, none⟩) hzu).trans d0
       have g1 := (hb2.cell (p := ⟨d, 1, none⟩) hzu).trans d1
       have g2 := (hb2.cell (p := ⟨d, 2, none⟩) hzu).trans d2
       clear hb2 d0 d1 d2)
    | (go_at_call 137; (with_reducible refine (KP.out _ HB2.out).mono ?_); rintro e w3 ⟨u3, rfl, hu3, hb3⟩
       have HB3 := Lib.hid (HB2.out.trans (hb3.mono HB2.out.size))
       have HA3 := Lib.hid (HAP2.out _ HB3.out _ _ hu3)
       obtain ⟨bo, cap, rfl, hcap, hq3⟩ := HSH.out _ _ hu3.zero.sl
       obtain ⟨b, off, rfl, _, _⟩ := hq3 HM0.out
       have HCAP := Lib.hid hcap
       clear hu3 hb3 hq3 hcap g0 g1 g2))
  have hwr : IntKind.i64.wrap ((M : Int) - 1) = (M : Int) - 1 := IntWalk.i64_in _ (by have := HM40.out; have := HM0.out; omega)
  obtain ⟨Z, hZ⟩ : ∃ Z, Z = Array.replicate 256 (Value.int .u8 0) := ⟨_, rfl⟩
  have hmk := fun W => make_n W 256 (by decide) 256 rfl
  have hs1 := fun W => slice_to b off M cap K ((M : Int) - 1) HMC.out.symm (by have := HCAP.out; have := HMK.out; omega) (by have := HCAP.out; have := HM0.out; omega) W
  have hs2 := fun W => slice_from b off M cap K ((M : Int) - 1) HMC.out.symm HMK.out HCAP.out W
  obtain ⟨h1, h2⟩ := HSM.out _ HB3.out _ _ _ HA3.out
  have KL1 := Lib.hid (KL.out _ _ _ HB3.out rfl h2.drew (below_drew10 h1))
  rw [← hZ] at hmk KL1
  clear h1 h2 hZ HA3
  go_region_held3 (fun W => True) (trivial) (first | (go_at_call 138; (with_reducible refine KL1.out.mono ?_); rintro e w5 ⟨rfl, hx5⟩))
  go_wp2
  go_ret
  exact ⟨rfl, hx5⟩
end
end Go.Proofs.YtkbeencjklgcnaaGreat

/- Contracts of package log: Read, Recover. -/
namespace Go.Proofs.YtkbeencjklgcnaaGreat
set_option maxRecDepth 100000
open Go.RowKit
set_option linter.unusedVariables false

theorem ret_cell_t32 {fn : Func} {p u x : Tmp} {ty : TypeId} {fs} (h : fn.results = #[.cell p ty, .tmp u, .tmp x]) (hu : Tryz.prog.underlying ty = some (.struct fs)) (hi : (Tryz.prog.info? ty).map (·.size) = some 3)
    (tmps : Array Value) (w : World) (g : Nat) (T : TypeId) (a b c y z : Value) (hp : tmps.getD p undef = .pointer (some ⟨g, 0, none⟩)) (hg : w.heap[g]? = some (.cells #[a, b, c] T (0, 0))) (hy : tmps.getD u undef = y) (hz : tmps.getD x undef = z) :
    (results fn tmps).run Tryz.prog w = .ok (.tuple #[.agg #[a, b, c], y, z]) w := by
  have h0 : (results fn tmps).run Tryz.prog w =
      ((asAddr (tmps.getD p undef)).run Tryz.prog w).andThen fun a w₁ => ((loadVar ty a).run Tryz.prog w₁).andThen fun v w₂ => .ok (.tuple #[v, tmps.getD u undef, tmps.getD x undef]) w₂ := by
    simp only [results, h]
    simp [Sem.run_bind, Result.andThen]
  rw [h0, hp, hy, hz]
  simp only [asAddr, Sem.run_pure, Result.andThen_ok]
  rw [run_loadVar_row w g T ty _ (0, 0) _ hg hu rfl (by rw [hi]; rfl)]
  rfl
/-- What Recover hands back, and leaves: the run of A; its sequence is 1 where hd holds. -/
def RecQ (A : List PA) (hd : Prop) (w : World) (P : Nat → Prop) (p : Value) (s : DS) (e : Ending) (w' : World) : Prop :=
  ∃ x, e = .returned (.tuple #[.int .u32 x, .int .i64 (runA A s).1]) ∧ (∃ P', Dk w' P' p (runA A s).2 ∧ Chg P P' w w') ∧ (hd → (runA A s).1 = 0 → x = 1) ∧ (0 ≤ x ∧ x < 4294967296)
theorem u32_in (x : Int) : 0 ≤ IntKind.u32.wrap x ∧ IntKind.u32.wrap x < 4294967296 := by
  have : IntKind.u32.wrap x = x % 4294967296 := by simp [IntKind.wrap, IntKind.signed, IntKind.bits]
  omega
theorem runA_two (A : List PA) (s : DS) : (runA A s).1 = 0 ∨ (runA A s).1 = 2 := by
  obtain ⟨_, _, _, h⟩ := runA_pre A s
  exact h.imp (fun x => x.1) id
theorem RecQ.early {A : List PA} {hd : Prop} {w W : World} {P P' : Nat → Prop} {p : Value} {s : DS} (h : (runA A s).1 = 2) (hk : Dk W P' p (runA A s).2) (hc : Chg P P' w W) : RecQ (A ++ [.f]) hd w P p s (.returned (.tuple #[.int .u32 0, .int .i64 2])) W := by
  have e : runA (A ++ [.f]) s = runA A s := by rw [runA_append, if_neg (by rw [h]; decide)]
  unfold RecQ
  rw [e, h]
  exact ⟨0, rfl, ⟨P', hk, hc⟩, fun _ h => absurd h (by decide), by decide, by decide⟩
theorem RecQ.stop {A : List PA} {hd : Prop} {w W : World} {P P' : Nat → Prop} {p : Value} {s : DS} (h : (runA A s).1 = 0) (hok : (runA A s).2.ok = false) (hk : Dk W P' p (runA A s).2.pay) (hc : Chg P P' w W) : RecQ (A ++ [.f]) hd w P p s (.returned (.tuple #[.int .u32 0, .int .i64 2])) W := by
  unfold RecQ
  rw [runA_stop h hok]
  exact ⟨0, rfl, ⟨P', hk, hc⟩, fun _ h => absurd (show (2 : Int) = 0 from h) (by decide), by decide, by decide⟩
theorem RecQ.done {A : List PA} {hd : Prop} {w W : World} {P P' : Nat → Prop} {p : Value} {s : DS} {x : Int} (h : (runA A s).1 = 0) (hok : (runA A s).2.ok = true) (hk : Dk W P' p (runA A s).2.flush) (hc : Chg P P' w W) (hx : hd → x = 1) (hx2 : 0 ≤ x ∧ x < 4294967296) : RecQ (A ++ [.f]) hd w P p s (.returned (.tuple #[.int .u32 x, .int .i64 0])) W := by
  unfold RecQ
  rw [runA_next h hok]
  exact ⟨x, rfl, ⟨P', hk, hc⟩, fun h _ => hx h, hx2⟩
section
variable {w : World} {P : Nat → Prop} {p : Value} {s : DS}
/-- Seq, as Recover uses it. -/
theorem tSeq_some {W : World} {v : Value} {J : List (List Int)} (hv : BBSl W v J) (hJ : 0 < J.length) :
    Calls Tryz.prog 98 #[v] W fun e w' => ∃ y z, e = .returned (.tuple #[.int .u32 y, .bool z]) ∧ Below W.heap.size W w' ∧ ((∀ q N, ¬ isHead (J.getD 0 []) q N) → y = 0) :=
  (tSeq_any hv).mono fun e w' ⟨hb, hc⟩ => by
    rcases hc with ⟨q, N, h0, hh, he⟩ | ⟨_, he⟩
    · exact ⟨q, true, he, hb, fun h => absurd hh (h q N)⟩
    · exact ⟨0, false, he, hb, fun _ => rfl⟩
-- WALKS
theorem gRecover_yes (h : Dk w P p s) (h64 : 64 ≤ s.F.length) (hd : s.dn = false) (hU : s.U.length ≤ 900000) {q : Int} {N : List Int} {D : List (List Int)} (ht : holdsT s.F.length (jour s.vis) q N D) :
    Calls Tryz.prog 64 #[p] w (RecQ (homeA N D ++ [.f]) (∀ q N, ¬ isHead ((jour s.vis).getD 0 []) q N) w P p s) := by
  have hjl : (jour s.vis).length = 40 := jour_length (by rw [DS.vis_length]; omega)
  obtain ⟨hF, q0, q1⟩ := isTxn_frm ht.1
  have hlen := runA_len (homeA N D) s
  rw [homeA_length] at hlen
  have h37 := (frmT_of hF).1
  have KJ := Lib.hid (gJour_of h h64 hd)
  have KS := Lib.hid (fun W (hb : Below w.heap.size w W) v (hv : BBSl W v (jour s.vis)) => gStored_yes (h.below hb) hv (by omega) ht)
  have HTV := Lib.hid (fun W (hb : Below w.heap.size w W) vN vD (hN : IR W 0 vN N) (hD : BBR W 0 vD D) => TxVa.own (h.below hb) (q := q) hN hD)
  have KH := Lib.hid (fun W (hb : Below w.heap.size w W) v (hv : TxVa W P v q N D) => gHome_yes (h.below hb) hv (by
    unfold takesT
    rw [decide_eq_true h64, hF, ht.2]; rfl) hU)
  have KF := Lib.hid (fun W Pk (hk : Dk W Pk p (runA (homeA N D) s).2) => kFlush hk (by omega))
  have KQ := Lib.hid (fun W v (hv : BBSl W v (jour s.vis)) => tSeq_some hv (by omega))
  obtain ⟨bp, rfl⟩ := h.ptr
  obtain ⟨J, hJ⟩ : ∃ J, J = jour s.vis := ⟨_, rfl⟩
  rw [← hJ] at KJ KS KQ ⊢
  obtain ⟨HD, hHD⟩ : ∃ HD, HD = (∀ q N, ¬ isHead (J.getD 0 []) q N) := ⟨_, rfl⟩
  rw [← hHD]
  have HHD : Hid (HD → (∀ q N, ¬ isHead (J.getD 0 []) q N)) := Lib.hid (fun h => by rw [hHD] at h; exact h)
  obtain ⟨A, hA⟩ : ∃ A, A = homeA N D := ⟨_, rfl⟩
  rw [← hA] at KF KH ⊢
  unfold RunQ at KH
  clear h h64 hd hU ht hjl hF q0 q1 hlen h37 hHD hA hJ
  rcases runA_two A s with hr | hr
  · rw [hr] at KH
    have HR := Lib.hid hr
    clear hr
    cases hok : (runA A s).2.ok
    · rw [hok, if_neg Bool.false_ne_true, if_neg Bool.false_ne_true] at KF
      have HOK := Lib.hid hok
      clear hok
      go_enter Tryz.func64, Tryz.ntmps64
      go_wp2_with (first
        | (go_at_call 94; (with_reducible refine KJ.out.mono ?_); rintro e w1 ⟨ao, cap, rfl, hv1, hb1⟩
           have HB1 := Lib.hid hb1
           have HV1 := Lib.hid hv1
           clear hb1 hv1)
        | (go_at_call 95; (with_reducible refine (KS.out _ HB1.out _ HV1.out.sl).mono ?_); rintro e w3 ⟨vN, vD, rfl, hN3, hD3, hb3⟩
           obtain ⟨_, no, nc, rfl, _⟩ := hN3.isc
           obtain ⟨co, dc, rfl, _⟩ := hD3.sl.shape
           have hns := heap_alloc_new w3 (.cells #[.int .u32 0, .slice none 0 0, .slice none 0 0] 139)
           have hbs := below_box w3 (.cells #[.int .u32 0, .slice none 0 0, .slice none 0 0] 139)
           have HN3 := Lib.hid (hN3.below hbs)
           have HD3 := Lib.hid (hD3.below hbs)
           have HB3 := Lib.hid hb3
           generalize hnn : N.length = n at HN3 ⊢
           generalize hmm : D.length = m at HD3 ⊢
           clear hN3 hD3 hnn hmm hb3)
        | (with_reducible refine wpList_store_t3 rfl 139 sizeT (.tmp 6) (.tmp 24) rfl w3.heap.size rfl _ _ _ _ _ _ rfl rfl rfl rfl _ hns ?_; intro w4 hw4 hr4
           have hb4 := hbs.trans (hw4.below (Nat.le_refl _))
           have HB14 := Lib.hid (HB3.out.trans (hb4.mono HB3.out.size))
           have HB4 := Lib.hid (HB1.out.trans (HB14.out.mono HB1.out.size))
           have x0 : w4.cell? ⟨w3.heap.size, 0, none⟩ = some (.int .u32 q) := by rw [cell_of_row _ _ _ _ _ _ hr4]; rfl
           have x1 : w4.cell? ⟨w3.heap.size, 1, none⟩ = some (.slice no n nc) := by rw [cell_of_row _ _ _ _ _ _ hr4]; rfl
           have x2 : w4.cell? ⟨w3.heap.size, 2, none⟩ = some (.slice co m dc) := by rw [cell_of_row _ _ _ _ _ _ hr4]; rfl
           have HTX := Lib.hid (HTV.out _ HB4.out _ _ (HN3.out.wrote hw4 hns (by decide)) (HD3.out.wrote hw4 (Nat.zero_le _) hns (by decide) (by decide)))
           clear hns hbs hw4 hb4 HN3 HD3 hr4)
        | (go_at_call 96; (with_reducible refine (KH.out _ HB4.out _ HTX.out).mono ?_); rintro e w5 ⟨rfl, P5, hd5, hc5⟩
           have HC5 := Lib.hid ((Chg.of_below (P := P) HB14.out).trans hc5)
           have HC05 := Lib.hid ((Chg.of_below (P := P) HB1.out).trans HC5.out)
           have KF1 := Lib.hid (KF.out _ _ hd5)
           clear x0 x1 x2 hc5)
        | (go_at_call 97; (with_reducible refine KF1.out.mono ?_); rintro e w7 ⟨rfl, P7, hd7, hc7⟩))
      go_ret2
      exact RecQ.stop HR.out HOK.out hd7 (HC05.out.trans hc7)
    · rw [hok, if_pos rfl, if_pos rfl] at KF
      have HOK := Lib.hid hok
      clear hok
      go_enter Tryz.func64, Tryz.ntmps64
      go_wp2_with (first
        | (go_at_call 94; (with_reducible refine KJ.out.mono ?_); rintro e w1 ⟨ao, cap, rfl, hv1, hb1⟩
           have HB1 := Lib.hid hb1
           have HV1 := Lib.hid hv1
           clear hb1 hv1)
        | (go_at_call 95; (with_reducible refine (KS.out _ HB1.out _ HV1.out.sl).mono ?_); rintro e w3 ⟨vN, vD, rfl, hN3, hD3, hb3⟩
           obtain ⟨_, no, nc, rfl, _⟩ := hN3.isc
           obtain ⟨co, dc, rfl, _⟩ := hD3.sl.shape
           have hns := heap_alloc_new w3 (.cells #[.int .u32 0, .slice none 0 0, .slice none 0 0] 139)
           have hbs := below_box w3 (.cells #[.int .u32 0, .slice none 0 0, .slice none 0 0] 139)
           have HN3 := Lib.hid (hN3.below hbs)
           have HD3 := Lib.hid (hD3.below hbs)
           have HB3 := Lib.hid hb3
           generalize hnn : N.length = n at HN3 ⊢
           generalize hmm : D.length = m at HD3 ⊢
           clear hN3 hD3 hnn hmm hb3)
        | (with_reducible refine wpList_store_t3 rfl 139 sizeT (.tmp 6) (.tmp 24) rfl w3.heap.size rfl _ _ _ _ _ _ rfl rfl rfl rfl _ hns ?_; intro w4 hw4 hr4
           have hb4 := hbs.trans (hw4.below (Nat.le_refl _))
           have HB14 := Lib.hid (HB3.out.trans (hb4.mono HB3.out.size))
           have HB4 := Lib.hid (HB1.out.trans (HB14.out.mono HB1.out.size))
           have x0 : w4.cell? ⟨w3.heap.size, 0, none⟩ = some (.int .u32 q) := by rw [cell_of_row _ _ _ _ _ _ hr4]; rfl
           have x1 : w4.cell? ⟨w3.heap.size, 1, none⟩ = some (.slice no n nc) := by rw [cell_of_row _ _ _ _ _ _ hr4]; rfl
           have x2 : w4.cell? ⟨w3.heap.size, 2, none⟩ = some (.slice co m dc) := by rw [cell_of_row _ _ _ _ _ _ hr4]; rfl
           have HTX := Lib.hid (HTV.out _ HB4.out _ _ (HN3.out.wrote hw4 hns (by decide)) (HD3.out.wrote hw4 (Nat.zero_le _) hns (by decide) (by decide)))
           clear hns hbs hw4 hb4 HN3 HD3 hr4)
        | (go_at_call 96; (with_reducible refine (KH.out _ HB4.out _ HTX.out).mono ?_); rintro e w5 ⟨rfl, P5, hd5, hc5⟩
           have HC5 := Lib.hid ((Chg.of_below (P := P) HB14.out).trans hc5)
           have HC05 := Lib.hid ((Chg.of_below (P := P) HB1.out).trans HC5.out)
           have KF1 := Lib.hid (KF.out _ _ hd5)
           clear x0 x1 x2 hc5)
        | (go_at_call 97; (with_reducible refine KF1.out.mono ?_); rintro e w7 ⟨rfl, P7, hd7, hc7⟩)
        | (go_at_call 98; (with_reducible refine (KQ.out _ _ (HV1.out.chg (HC5.out.trans hc7)).sl).mono ?_); rintro e w8 ⟨y, z, rfl, hb8, hy⟩))
      go_ret2
      exact RecQ.done HR.out HOK.out (hd7.below hb8) ((HC05.out.trans hc7).trans (Chg.of_below hb8)) (fun h => by rw [hy (HHD.out h)]; rfl) (u32_in (y + 1))
  · rw [hr] at KH
    have HR := Lib.hid hr
    clear hr
    go_enter Tryz.func64, Tryz.ntmps64
    go_wp2_with (first
      | (go_at_call 94; (with_reducible refine KJ.out.mono ?_); rintro e w1 ⟨ao, cap, rfl, hv1, hb1⟩
         have HB1 := Lib.hid hb1
         have HV1 := Lib.hid hv1
         clear hb1 hv1)
      | (go_at_call 95; (with_reducible refine (KS.out _ HB1.out _ HV1.out.sl).mono ?_); rintro e w3 ⟨vN, vD, rfl, hN3, hD3, hb3⟩
         obtain ⟨_, no, nc, rfl, _⟩ := hN3.isc
         obtain ⟨co, dc, rfl, _⟩ := hD3.sl.shape
         have hns := heap_alloc_new w3 (.cells #[.int .u32 0, .slice none 0 0, .slice none 0 0] 139)
         have hbs := below_box w3 (.cells #[.int .u32 0, .slice none 0 0, .slice none 0 0] 139)
         have HN3 := Lib.hid (hN3.below hbs)
         have HD3 := Lib.hid (hD3.below hbs)
         have HB3 := Lib.hid hb3
         generalize hnn : N.length = n at HN3 ⊢
         generalize hmm : D.length = m at HD3 ⊢
         clear hN3 hD3 hnn hmm hb3)
      | (with_reducible refine wpList_store_t3 rfl 139 sizeT (.tmp 6) (.tmp 24) rfl w3.heap.size rfl _ _ _ _ _ _ rfl rfl rfl rfl _ hns ?_; intro w4 hw4 hr4
         have hb4 := hbs.trans (hw4.below (Nat.le_refl _))
         have HB14 := Lib.hid (HB3.out.trans (hb4.mono HB3.out.size))
         have HB4 := Lib.hid (HB1.out.trans (HB14.out.mono HB1.out.size))
         have x0 : w4.cell? ⟨w3.heap.size, 0, none⟩ = some (.int .u32 q) := by rw [cell_of_row _ _ _ _ _ _ hr4]; rfl
         have x1 : w4.cell? ⟨w3.heap.size, 1, none⟩ = some (.slice no n nc) := by rw [cell_of_row _ _ _ _ _ _ hr4]; rfl
         have x2 : w4.cell? ⟨w3.heap.size, 2, none⟩ = some (.slice co m dc) := by rw [cell_of_row _ _ _ _ _ _ hr4]; rfl
         have HTX := Lib.hid (HTV.out _ HB4.out _ _ (HN3.out.wrote hw4 hns (by decide)) (HD3.out.wrote hw4 (Nat.zero_le _) hns (by decide) (by decide)))
         clear hns hbs hw4 hb4 HN3 HD3 hr4)
      | (go_at_call 96; (with_reducible refine (KH.out _ HB4.out _ HTX.out).mono ?_); rintro e w5 ⟨rfl, P5, hd5, hc5⟩
         have HC5 := Lib.hid ((Chg.of_below (P := P) HB14.out).trans hc5)
         have HC05 := Lib.hid ((Chg.of_below (P := P) HB1.out).trans HC5.out)
         have KF1 := Lib.hid (KF.out _ _ hd5)
         clear x0 x1 x2 hc5))
    go_ret2
    exact RecQ.early HR.out hd5 HC05.out
theorem gRecover_no (h : Dk w P p s) (h64 : 64 ≤ s.F.length) (hd : s.dn = false) (hU : s.U.length ≤ 900000) (hno : ∀ q N D, ¬ holdsT s.F.length (jour s.vis) q N D) :
    Calls Tryz.prog 64 #[p] w (RecQ ([] ++ [.f]) (∀ q N, ¬ isHead ((jour s.vis).getD 0 []) q N) w P p s) := by
  have hjl : (jour s.vis).length = 40 := jour_length (by rw [DS.vis_length]; omega)
  have KJ := Lib.hid (gJour_of h h64 hd)
  have KS := Lib.hid (fun W (hb : Below w.heap.size w W) v (hv : BBSl W v (jour s.vis)) => gStored_no (h.below hb) hv (by omega) hno)
  have KF := Lib.hid (fun W (hb : Below w.heap.size w W) => kFlush (h.below hb) (by omega))
  have KQ := Lib.hid (fun W v (hv : BBSl W v (jour s.vis)) => tSeq_some hv (by omega))
  obtain ⟨bp, rfl⟩ := h.ptr
  obtain ⟨J, hJ⟩ : ∃ J, J = jour s.vis := ⟨_, rfl⟩
  rw [← hJ] at KJ KS KQ ⊢
  obtain ⟨HD, hHD⟩ : ∃ HD, HD = (∀ q N, ¬ isHead (J.getD 0 []) q N) := ⟨_, rfl⟩
  rw [← hHD]
  have HHD : Hid (HD → (∀ q N, ¬ isHead (J.getD 0 []) q N)) := Lib.hid (fun h => by rw [hHD] at h; exact h)
  have HR : Hid ((runA [] s).1 = 0) := Lib.hid rfl
  clear h h64 hd hU hno hjl hHD hJ
  cases hok : s.ok
  · rw [hok, if_neg Bool.false_ne_true, if_neg Bool.false_ne_true] at KF
    have HOK : Hid ((runA [] s).2.ok = false) := Lib.hid hok
    clear hok
    go_enter Tryz.func64, Tryz.ntmps64
    go_wp2_with (first
      | (go_at_call 94; (with_reducible refine KJ.out.mono ?_); rintro e w1 ⟨ao, cap, rfl, hv1, hb1⟩
         have HB1 := Lib.hid hb1
         have HV1 := Lib.hid hv1
         clear hb1 hv1)
      | (go_at_call 95; (with_reducible refine (KS.out _ HB1.out _ HV1.out.sl).mono ?_); rintro e w3 ⟨rfl, hb3⟩
         have hns := heap_alloc_new w3 (.cells #[.int .u32 0, .slice none 0 0, .slice none 0 0] 139)
         have hbs := below_box w3 (.cells #[.int .u32 0, .slice none 0 0, .slice none 0 0] 139)
         have HB3 := Lib.hid hb3
         clear hb3)
      | (with_reducible refine wpList_store_t3 rfl 139 sizeT (.tmp 6) (.tmp 24) rfl w3.heap.size rfl _ _ _ _ _ _ rfl rfl rfl rfl _ hns ?_; intro w4 hw4 hr4
         have hb4 := hbs.trans (hw4.below (Nat.le_refl _))
         have HB14 := Lib.hid (HB3.out.trans (hb4.mono HB3.out.size))
         have HB4 := Lib.hid (HB1.out.trans (HB14.out.mono HB1.out.size))
         have HC5 := Lib.hid (Chg.of_below (P := P) HB14.out)
         have HC05 := Lib.hid (Chg.of_below (P := P) HB4.out)
         have KF1 := Lib.hid (KF.out _ HB4.out)
         clear hns hbs hw4 hb4 hr4)
      | (go_at_call 97; (with_reducible refine KF1.out.mono ?_); rintro e w7 ⟨rfl, P7, hd7, hc7⟩))
    go_ret2
    exact RecQ.stop HR.out HOK.out hd7 (HC05.out.trans hc7)
  · rw [hok, if_pos rfl, if_pos rfl] at KF
    have HOK : Hid ((runA [] s).2.ok = true) := Lib.hid hok
    clear hok
    go_enter Tryz.func64, Tryz.ntmps64
    go_wp2_with (first
      | (go_at_call 94; (with_reducible refine KJ.out.mono ?_); rintro e w1 ⟨ao, cap, rfl, hv1, hb1⟩
         have HB1 := Lib.hid hb1
         have HV1 := Lib.hid hv1
         clear hb1 hv1)
      | (go_at_call 95; (with_reducible refine (KS.out _ HB1.out _ HV1.out.sl).mono ?_); rintro e w3 ⟨rfl, hb3⟩
         have hns := heap_alloc_new w3 (.cells #[.int .u32 0, .slice none 0 0, .slice none 0 0] 139)
         have hbs := below_box w3 (.cells #[.int .u32 0, .slice none 0 0, .slice none 0 0] 139)
         have HB3 := Lib.hid hb3
         clear hb3)
      | (with_reducible refine wpList_store_t3 rfl 139 sizeT (.tmp 6) (.tmp 24) rfl w3.heap.size rfl _ _ _ _ _ _ rfl rfl rfl rfl _ hns ?_; intro w4 hw4 hr4
         have hb4 := hbs.trans (hw4.below (Nat.le_refl _))
         have HB14 := Lib.hid (HB3.out.trans (hb4.mono HB3.out.size))
         have HB4 := Lib.hid (HB1.out.trans (HB14.out.mono HB1.out.size))
         have HC5 := Lib.hid (Chg.of_below (P := P) HB14.out)
         have HC05 := Lib.hid (Chg.of_below (P := P) HB4.out)
         have KF1 := Lib.hid (KF.out _ HB4.out)
         clear hns hbs hw4 hb4 hr4)
      | (go_at_call 97; (with_reducible refine KF1.out.mono ?_); rintro e w7 ⟨rfl, P7, hd7, hc7⟩)
      | (go_at_call 98; (with_reducible refine (KQ.out _ _ (HV1.out.chg (HC5.out.trans hc7)).sl).mono ?_); rintro e w8 ⟨y, z, rfl, hb8, hy⟩))
    go_ret2
    exact RecQ.done HR.out HOK.out (hd7.below hb8) ((HC05.out.trans hc7).trans (Chg.of_below hb8)) (fun h => by rw [hy (HHD.out h)]; rfl) (u32_in (y + 1))
end
end Go.Proofs.YtkbeencjklgcnaaGreat

/- Package log: a nil disk; the law's awake. -/
namespace Go.Proofs.YtkbeencjklgcnaaGreat
set_option maxRecDepth 100000
open Go.RowKit
set_option linter.unusedVariables false

theorem nUsable (w : World) : Calls Tryz.prog 121 #[.pointer none] w fun e w' => e = .returned (.bool false) ∧ w = w' := by
  go_enter Tryz.func121, Tryz.ntmps121
  go_wp2_with (go_at_call 130; (with_reducible refine (nBlocks _).mono ?_); rintro e w2 ⟨rfl, rfl⟩)
  go_ret
  exact ⟨rfl, rfl⟩
theorem nTakes (w : World) (q : Int) (no ao : Option Addr) (n nc m dc : Nat) : Calls Tryz.prog 124 #[.pointer none, .agg #[.int .u32 q, .slice no n nc, .slice ao m dc]] w fun e w' => e = .returned (.bool false) ∧ Below w.heap.size w w' := by
  have hbx := below_box w (.cells #[.int .u32 q, .slice no n nc, .slice ao m dc] 139)
  go_enter Tryz.func124, Tryz.ntmps124
  go_upto_region 1 with (fail)
  generalize w.alloc (.cells #[.int .u32 q, .slice no n nc, .slice ao m dc] 139) = u at hbx ⊢
  go_wp2_with (go_at_call 121; (with_reducible refine (nUsable _).mono ?_); rintro e w2 ⟨rfl, rfl⟩)
  go_ret
  exact ⟨rfl, hbx⟩
theorem nJour (w : World) : Calls Tryz.prog 94 #[.pointer none] w fun e w' => e = .returned (.tuple #[.slice none 0 0, .int .i64 1]) ∧ w = w' := by
  go_enter Tryz.func94, Tryz.ntmps94
  go_wp2_with (go_at_call 121; (with_reducible refine (nUsable _).mono ?_); rintro e w2 ⟨rfl, rfl⟩)
  go_ret2
  exact ⟨rfl, rfl⟩
theorem nRecover (w : World) : Calls Tryz.prog 64 #[.pointer none] w fun e w' => e = .returned (.tuple #[.int .u32 0, .int .i64 1]) ∧ w = w' := by
  go_enter Tryz.func64, Tryz.ntmps64
  go_wp2_with (go_at_call 94; (with_reducible refine (nJour _).mono ?_); rintro e w2 ⟨rfl, rfl⟩)
  go_ret2
  exact ⟨rfl, rfl⟩
theorem nWrite10 (w : World) (q : Int) (no ao : Option Addr) (n nc m dc : Nat) : Calls Tryz.prog 110 #[.pointer none, .agg #[.int .u32 q, .slice no n nc, .slice ao m dc]] w fun e w' => e = .returned (.int .i64 1) ∧ Below w.heap.size w w' := by
  have hbx := below_box w (.cells #[.int .u32 q, .slice no n nc, .slice ao m dc] 139)
  have hnx := heap_alloc_new w (.cells #[.int .u32 q, .slice no n nc, .slice ao m dc] 139)
  go_enter Tryz.func110, Tryz.ntmps110
  go_upto_region 1 with (fail)
  generalize w.alloc (.cells #[.int .u32 q, .slice no n nc, .slice ao m dc] 139) = u at hbx hnx ⊢
  have d0 : u.cell? ⟨w.heap.size, 0, none⟩ = some (.int .u32 q) := by rw [cell_of_row _ _ _ _ _ _ hnx]; rfl
  have d1 : u.cell? ⟨w.heap.size, 1, none⟩ = some (.slice no n nc) := by rw [cell_of_row _ _ _ _ _ _ hnx]; rfl
  have d2 : u.cell? ⟨w.heap.size, 2, none⟩ = some (.slice ao m dc) := by rw [cell_of_row _ _ _ _ _ _ hnx]; rfl
  clear hnx
  go_wp2_with (go_at_call 124; (with_reducible refine (nTakes u q no ao n nc m dc).mono ?_); rintro e w2 ⟨rfl, hb2⟩)
  go_ret
  exact ⟨rfl, hbx.trans (hb2.mono hbx.size)⟩
theorem nHome10 (w : World) (q : Int) (no ao : Option Addr) (n nc m dc : Nat) : Calls Tryz.prog 96 #[.pointer none, .agg #[.int .u32 q, .slice no n nc, .slice ao m dc]] w fun e w' => e = .returned (.int .i64 1) ∧ Below w.heap.size w w' := by
  have hbx := below_box w (.cells #[.int .u32 q, .slice no n nc, .slice ao m dc] 139)
  have hnx := heap_alloc_new w (.cells #[.int .u32 q, .slice no n nc, .slice ao m dc] 139)
  go_enter Tryz.func96, Tryz.ntmps96
  go_upto_region 1 with (fail)
  generalize w.alloc (.cells #[.int .u32 q, .slice no n nc, .slice ao m dc] 139) = u at hbx hnx ⊢
  have d0 : u.cell? ⟨w.heap.size, 0, none⟩ = some (.int .u32 q) := by rw [cell_of_row _ _ _ _ _ _ hnx]; rfl
  have d1 : u.cell? ⟨w.heap.size, 1, none⟩ = some (.slice no n nc) := by rw [cell_of_row _ _ _ _ _ _ hnx]; rfl
  have d2 : u.cell? ⟨w.heap.size, 2, none⟩ = some (.slice ao m dc) := by rw [cell_of_row _ _ _ _ _ _ hnx]; rfl
  clear hnx
  go_wp2_with (go_at_call 124; (with_reducible refine (nTakes u q no ao n nc m dc).mono ?_); rintro e w2 ⟨rfl, hb2⟩)
  go_ret
  exact ⟨rfl, hbx.trans (hb2.mono hbx.size)⟩

theorem isHead_word {b : List Int} {q : Int} {N : List Int} (h : isHead b q N) : b.getD 0 0 = 106 := by
  obtain ⟨hN, _, rfl⟩ := h
  have h1 := head_take q N (frmNs_of hN).1
  have h2 := head_word q N
  rw [← h1, List.take_take] at h2
  have h3 := congrArg (fun l : List Int => l.getD 0 0) h2
  simpa [List.getD_eq_getElem?_getD, jrnl] using h3
theorem new_vis (n : Nat) : (DS.new n).vis = List.replicate n zb := rfl
theorem new_get (n i : Nat) (h : i < n) : (DS.new n).vis.getD i [] = z256 := by
  rw [new_vis]
  simp [List.getD_eq_getElem?_getD, h, zb, z256]
theorem new_noTxn {n : Nat} (h : 43 ≤ n) (k : Nat) (q : Int) (N : List Int) (D : List (List Int)) : ¬ holdsT k (jour (DS.new n).vis) q N D := fun ht =>
  jour_zero (by rw [new_vis]; simpa using h) (new_get n 42 (by omega)) q N D ht.1
theorem new_noHead {n : Nat} (h : 43 ≤ n) (q : Int) (N : List Int) : ¬ isHead ((jour (DS.new n).vis).getD 0 []) q N := fun hh => by
  rw [jour_get _ 0 (by omega), new_get n (3 + 0) (by omega)] at hh
  have := isHead_word hh
  rw [z256, rep_zero 256 (by omega)] at this
  exact absurd this (by decide)
end Go.Proofs.YtkbeencjklgcnaaGreat

/- The reference's FormedTxn. -/
namespace Go.Proofs.YtkbeencjklgcnaaGreat
set_option maxRecDepth 100000
open Go.RowKit
set_option linter.unusedVariables false

end Go.Proofs.YtkbeencjklgcnaaGreat

/- The reference's Pack. -/
namespace Go.Proofs.YtkbeencjklgcnaaGreat
set_option maxRecDepth 100000
open Go.RowKit
set_option linter.unusedVariables false

end Go.Proofs.YtkbeencjklgcnaaGreat

/- The reference's SameTxn, the law's sameBlocks: the same is told to be so; Few, few, Theirs. -/
namespace Go.Proofs.YtkbeencjklgcnaaGreat
set_option maxRecDepth 100000
open Go.RowKit
set_option linter.unusedVariables false

theorem conv_drewN {w : World} {v : Value} {l : List Int} (hs : BSl w v l) (m : Nat) : (convert 62 9 v).run Tryz.prog (w.drewN m) = .ok (.string (strOfNums l)) (w.drewN m) := conv_bsl (hs.drewN m)
end Go.Proofs.YtkbeencjklgcnaaGreat

/- The law's functions of layer 10: fits, inJournal, blocks, same. -/
namespace Go.Proofs.YtkbeencjklgcnaaGreat
set_option maxRecDepth 100000
open Go.RowKit
set_option linter.unusedVariables false

/-- Has a change blocks of the journal? -/
def inJS (N : List Int) : Bool := (List.range N.length).any fun k => decide (3 ≤ N.getD k 0) && decide (N.getD k 0 < 43)
theorem inJS_no (N : List Int) : inJS N = false ↔ ∀ k, k < N.length → ¬ (3 ≤ N.getD k 0 ∧ N.getD k 0 < 43) := by
  unfold inJS
  rw [List.any_eq_false]
  constructor
  · intro h k hk hc
    exact h k (List.mem_range.2 hk) (by rw [Bool.and_eq_true, decide_eq_true_eq, decide_eq_true_eq]; exact hc)
  · intro h k hk
    have := h k (List.mem_range.1 hk)
    simp only [Bool.and_eq_true, decide_eq_true_eq]
    exact this
theorem inJS_yes {N : List Int} (k : Nat) (hk : k < N.length) (h : 3 ≤ N.getD k 0 ∧ N.getD k 0 < 43) : inJS N = true := by
  cases e : inJS N
  · exact absurd h ((inJS_no N).1 e k hk)
  · rfl
end Go.Proofs.YtkbeencjklgcnaaGreat

/- The law's functions of layer 10: same, sameOpen, want. -/
namespace Go.Proofs.YtkbeencjklgcnaaGreat
set_option maxRecDepth 100000
open Go.RowKit
set_option linter.unusedVariables false

/-- Alike, but for the journal's. -/
def openS (L M : List (List Int)) (k : Nat) : Prop := ∀ i, i < k → OutJ i → L.getD i [] = M.getD i []
end Go.Proofs.YtkbeencjklgcnaaGreat

/- The law's few, Few, Theirs, awake. -/
namespace Go.Proofs.YtkbeencjklgcnaaGreat
set_option maxRecDepth 100000
open Go.RowKit
set_option linter.unusedVariables false

/-- How many bytes the first k have; is it few? -/
def sumK9 (L : List (List Int)) : Nat → Int
  | 0 => 0
  | k + 1 => sumK9 L k + ((L.getD k []).length : Int)
def okF9 (L : List (List Int)) (k : Nat) : Bool := decide (k < 60) && decide (sumK9 L (k + 1) ≤ 20000)
def fewS (L : List (List Int)) : Bool := (List.range L.length).all fun k => okF9 L k
def FewS (N : List Int) (D : List (List Int)) : Bool := fewS D && decide (N.length ≤ 60)
theorem fewS_iff (L : List (List Int)) : fewS L = true ↔ ∀ k, k < L.length → okF9 L k = true := by
  unfold fewS
  rw [List.all_eq_true]
  exact ⟨fun h i hi => h i (List.mem_range.2 hi), fun h i hi => h i (List.mem_range.1 hi)⟩
theorem fewS_no {L : List (List Int)} (k : Nat) (hk : k < L.length) (h : okF9 L k = false) : fewS L = false := by
  cases e : fewS L
  · rfl
  · rw [(fewS_iff L).1 e k hk] at h; cases h
theorem fewS_len {L : List (List Int)} (h : fewS L = true) : L.length ≤ 60 := by
  by_cases h0 : L.length = 0
  · omega
  · have := (fewS_iff L).1 h (L.length - 1) (by omega)
    unfold okF9 at this
    rw [Bool.and_eq_true, decide_eq_true_eq] at this
    omega
theorem sumK9_pos (L : List (List Int)) (k : Nat) : 0 ≤ sumK9 L k := by
  induction k with
  | zero => exact Int.le_refl _
  | succ k ih => unfold sumK9; omega
theorem okF9_of {L : List (List Int)} {k : Nat} (h : ∀ j, j < k → okF9 L j = true) : k ≤ 60 ∧ sumK9 L k ≤ 20000 := by
  cases k with
  | zero => exact ⟨by omega, by unfold sumK9; omega⟩
  | succ k =>
    have := h k (by omega)
    unfold okF9 at this
    rw [Bool.and_eq_true, decide_eq_true_eq, decide_eq_true_eq] at this
    exact ⟨by omega, this.2⟩
end Go.Proofs.YtkbeencjklgcnaaGreat

/- TxnPacks: the walk of the law itself. -/
namespace Go.Proofs.YtkbeencjklgcnaaGreat
set_option maxRecDepth 100000
open Go.RowKit
set_option linter.unusedVariables false

theorem bbr_empty (w : World) (B : Nat) (hB : B ≤ w.heap.size) : BBR (w.alloc (.cells #[] 62)) B (.slice (some ⟨w.heap.size, 0, none⟩) 0 0) [] :=
  ⟨[], rfl, fun j hj => absurd hj (Nat.not_lt_zero _), rfl, .inr ⟨w.heap.size, 0, #[], rfl, hB, heap_alloc_new w _, Nat.le_refl _, by decide, rfl, rfl⟩⟩
/-- s[:hi] of a [][]byte. -/
theorem wpList_slice_bbh {w : World} {ops : Array Oper} {rest : List Oper} {o : Oper} {a : Act} {Q : Exit → Act → World → Prop} (hgd : o.guard = none) (x hi : Operand) (ho : o.op = .slice 59 x none (some hi) none)
    (b off n cap : Nat) (hx : a.eval x = .slice (some ⟨b, off, none⟩) n cap) (H : Int) (hh : a.eval hi = .int .i64 H) (h : Nat) (hH : H = h) (h2 : h ≤ cap)
    (hK : wpList Tryz.prog ops Q rest (a.put o.dst (.slice (some ⟨b, off, none⟩) h cap)) w) : wpList Tryz.prog ops Q (o :: rest) a w := by
  subst hH
  obtain ⟨i, g2, g3, g4, g5⟩ := info_parts infoBy
  have ee : Tryz.prog.elem 59 = 62 := by kernel_rfl
  have hs : (sizeOf 62).run Tryz.prog w = .ok 1 w := by simp [sizeOf, typeInfo, g2, g4]
  have hrun : (Instr.sliceAt 59 (.slice (some ⟨b, off, none⟩) n cap) none (some (.int .i64 (h : Int))) none).run Tryz.prog w = .ok (.slice (some ⟨b, off, none⟩) h cap) w := by
    rw [run_sliceAt_slice w 59 _ _ _ _ (by rw [ee]; exact Tryz.underlying59), run_slice_h w 59 _ n cap (by rw [ee]; exact Tryz.underlying59) .i64 (h : Int) (by omega) (by omega)]
    simp [sliced, ee, hs, Addr.add_lit]
  refine wpList_plain hgd fun K hK' => ?_
  unfold Oper.wp execOp
  simp only [ho, hx, hh, Option.map_some, Option.map_none, hrun, Sem.run_bind, Sem.run_pure, Result.andThen_ok]
  exact hK' _ _ hK
theorem BBSl.take {w : World} {b off cap : Nat} {L : List (List Int)} (h : BBSl w (.slice (some ⟨b, off, none⟩) L.length cap) L) (k : Nat) (hk : k ≤ L.length) : BBSl w (.slice (some ⟨b, off, none⟩) k cap) (L.take k) := by
  have := h.mid 0 k (by omega) (L.take k) (by rw [List.drop_zero])
  rw [Nat.add_zero, Nat.sub_zero] at this
  exact this
end Go.Proofs.YtkbeencjklgcnaaGreat

/- The law's functions of layer 10: want. -/
namespace Go.Proofs.YtkbeencjklgcnaaGreat
set_option maxRecDepth 100000
open Go.RowKit
set_option linter.unusedVariables false

theorem BBR.row {w : World} {B g n cap : Nat} {L : List (List Int)} (h : BBR w B (.slice (some ⟨g, 0, none⟩) n cap) L) : ∃ cur : Array Value, w.heap[g]? = some (.cells cur 62 (0, 0)) ∧ L.length ≤ cur.size ∧ B ≤ g := by
  obtain ⟨vs, hl, hr, ho⟩ := h
  rcases ho.2 with ⟨hv, _⟩ | ⟨g', cap', cur, hv, hg, hh, hnc, hcm, hcs, ht⟩
  · simp at hv
  · obtain rfl : g = g' := by have := Option.some.inj (Value.slice.inj hv).1; injection this
    exact ⟨cur, hh, by omega, hg⟩
theorem BBR.set {w : World} {B g n cap : Nat} {L : List (List Int)} (h : BBR w B (.slice (some ⟨g, 0, none⟩) n cap) L) {x : Nat} (hx : x < L.length) {y : Value} {l : List Int} (hy : BElt w B y l) : BBR (w.setCell ⟨g, x, none⟩ y) B (.slice (some ⟨g, 0, none⟩) n cap) (L.set x l) := by
  obtain ⟨vs, hl, hr, ho⟩ := h
  rcases ho.2 with ⟨hv, _⟩ | ⟨g', cap', cur, hv, hg, hh, hnc, hcm, hcs, ht⟩
  · simp at hv
  · obtain rfl : g = g' := by have := Option.some.inj (Value.slice.inj hv).1; injection this
    have hw := Wrote.setCell w g x y
    have hgr : w.grownBy (w.setCell ⟨g, x, none⟩ y) (some g) :=
      ⟨hw.1, hw.2.1, hw.2.2.1, by rw [hw.2.2.2.1]; exact Nat.le_refl _, fun b hb hne => hw.2.2.2.2 b (fun e => hne (by rw [e]))⟩
    have hrow : ∀ g', some g = some g' → B ≤ g' ∧ ∃ cur, w.heap[g']? = some (.cells cur 62 (0, 0)) := fun g' e => by
      obtain rfl := Option.some.inj e
      exact ⟨hg, _, hh⟩
    refine ⟨vs.set x y, by rw [List.length_set, List.length_set]; exact hl, fun j hj => ?_, by rw [List.length_set, List.length_set]; exact ho.1, .inr ⟨g, cap', cur.setIfInBounds x y, by rw [List.length_set]; exact hv, hg, ?_, by rw [List.length_set]; exact hnc, hcm, by rw [Array.size_setIfInBounds]; exact hcs, ?_⟩⟩
    · rw [List.length_set] at hj
      by_cases e : j = x
      · subst e
        have e1 : (vs.set j y).getD j undef = y := by simp [List.getD_eq_getElem?_getD, hl, hx]
        have e2 : (L.set j l).getD j [] = l := by simp [List.getD_eq_getElem?_getD, hx]
        rw [e1, e2]
        exact hy.grown hrow hgr
      · have e1 : (vs.set x y).getD j undef = vs.getD j undef := by rw [List.getD_eq_getElem?_getD, List.getElem?_set_ne (by omega), ← List.getD_eq_getElem?_getD]
        have e2 : (L.set x l).getD j [] = L.getD j [] := by rw [List.getD_eq_getElem?_getD, List.getElem?_set_ne (by omega), ← List.getD_eq_getElem?_getD]
        rw [e1, e2]
        exact (hr j hj).grown hrow hgr
    · exact heap_setCell_same w g x _ _ _ hh
    · rw [List.length_set, Array.toList_setIfInBounds, List.take_set, ht]
theorem homeW_take (N : List Int) (D : List (List Int)) (k : Nat) (hk : k < N.length) (L : List (List Int)) : appU ((homeW N D).take (k + 1)) L = (appU ((homeW N D).take k) L).set (N.getD k 0).toNat (D.getD k []) := by
  have hl : k < (homeW N D).length := by simp [homeW]; exact hk
  have e : (homeW N D)[k] = ((N.getD k 0).toNat, D.getD k []) := by simp [homeW]
  rw [List.take_succ_eq_append_getElem hl, e, appU_snoc]
end Go.Proofs.YtkbeencjklgcnaaGreat

/- LogWrites: the walk of the law itself, where it ends early. -/
namespace Go.Proofs.YtkbeencjklgcnaaGreat
set_option maxRecDepth 100000
open Go.RowKit
set_option linter.unusedVariables false

/-- With power, and no fuse, all of it is laid down, and flushed. -/
theorem lay_free {q : Int} {N : List Int} {D : List (List Int)} (hF : frmT N D = true) (q0 : 0 ≤ q) (q1 : q < 4294967296) (s : DS) (h1 : s.fu = false) (h2 : s.dn = false) (h43 : 43 ≤ s.F.length) :
    let r := runA (layA q (layWs q N D)) s
    r.1 = 0 ∧ r.2.fu = false ∧ r.2.dn = false ∧ r.2.U = [] ∧ r.2.F.length = s.F.length ∧ (∀ i, i < D.length + 1 → r.2.vis.getD (3 + i) [] = (packT q N D).getD i []) ∧ r.2.vis.getD 42 [] = (packT q N D).getD (D.length + 1) [] ∧ isTxn (jour r.2.vis) q N D := by
  intro r
  obtain ⟨g1, g2, g3, g4, _⟩ := runA_free (layA q (layWs q N D)) s h1 h2
  obtain ⟨hd, hl, hall⟩ := frmT_of hF
  have e : foldA (layA q (layWs q N D)) s.fuP = ((appU (layWs q N D) (s.vis.set 42 z256)).set 42 (sealS (endL q)), []) := by
    unfold layA
    rw [foldA_append, foldA_append, foldA_ws]
    rfl
  rw [e] at g2
  have e1 : r.2.F = (appU (layWs q N D) (s.vis.set 42 z256)).set 42 (sealS (endL q)) := congrArg Prod.fst g2
  have e2 : r.2.U = [] := congrArg Prod.snd g2
  have ev : r.2.vis = r.2.F := by show appU r.2.U r.2.F = _; rw [e2]; rfl
  have hvl : (s.vis.set 42 z256).length = s.F.length := by rw [List.length_set, DS.vis_length]
  have el : r.2.F.length = s.F.length := by rw [e1, List.length_set, appU_length, hvl]
  have hp : packT q N D = (sealS (headL q N) :: D) ++ [sealS (endL q)] := rfl
  have p1 : ∀ i, i < D.length + 1 → (packT q N D).getD i [] = (sealS (headL q N) :: D).getD i [] := fun i hi => by
    rw [hp, List.getD_eq_getElem?_getD, List.getElem?_append_left (by simpa using hi), ← List.getD_eq_getElem?_getD]
  have p2 : (packT q N D).getD (D.length + 1) [] = sealS (endL q) := by
    rw [hp, List.getD_eq_getElem?_getD, List.getElem?_append_right (by simp)]
    simp
  have a1 : ∀ i, i < D.length + 1 → r.2.vis.getD (3 + i) [] = (sealS (headL q N) :: D).getD i [] := fun i hi => by
    rw [ev, e1, set_other _ _ _ _ (by omega)]
    exact layWs_hit (by omega) (by omega) i hi
  have a2 : r.2.vis.getD 42 [] = sealS (endL q) := by
    rw [ev, e1]
    exact set_same _ _ _ (by rw [appU_length, hvl]; omega)
  refine ⟨g1, g3, g4, e2, el, fun i hi => by rw [a1 i hi, p1 i hi], by rw [a2, p2], ?_⟩
  refine jour_txn (by rw [DS.vis_length, el]; omega) hF ⟨q0, q1⟩ ?_ (fun j hj => ?_) a2
  · exact a1 0 (by omega)
  · have := a1 (1 + j) (by omega)
    rw [show 3 + (1 + j) = 4 + j by omega] at this
    rw [this, show 1 + j = j + 1 by omega]
    rfl
end Go.Proofs.YtkbeencjklgcnaaGreat

/- What a crash leaves while a second change is laid down, and what Recover makes of it. -/
namespace Go.Proofs.YtkbeencjklgcnaaGreat
set_option maxRecDepth 100000
open Go.RowKit
set_option linter.unusedVariables false

theorem far_of {N : List Int} {D : List (List Int)} {z n : Nat} (hF : frmT N D = true) (hH : hasN z N = true) (hJ : inJS N = false) (hz : z ≤ n) : farT n N := fun j hj => by
  have h1 := (frmT_of hF).2.2 j hj
  have h2 := (hasN_iff _ _).1 hH j hj
  have h3 := (inJS_no N).1 hJ j hj
  unfold OutJ
  omega
section
variable {q1 q2 : Int} {N1 N2 : List Int} {D1 D2 Z G : List (List Int)} {er : Int}
/-- Behind a crash: the first change, as it was told to be; none, and all of the first one is there; the second one. -/
def CrI (q1 q2 : Int) (N1 : List Int) (D1 : List (List Int)) (N2 : List Int) (D2 Z : List (List Int)) (er : Int) (F : List (List Int)) : Prop :=
  (InvT F q1 N1 D1 Z ∧ er = 2) ∨ (InvN F (appU (homeW N1 D1) Z) ∧ er = 2) ∨ InvT F q2 N2 D2 (appU (homeW N1 D1) Z)
def CrS (q1 q2 : Int) (N1 : List Int) (D1 : List (List Int)) (N2 : List Int) (D2 Z : List (List Int)) (er : Int) (s : DS) : Prop := s.U = [] ∧ s.dn = false ∧ CrI q1 q2 N1 D1 N2 D2 Z er s.F
/-- What stands there at the end. -/
def CrE (N1 : List Int) (D1 : List (List Int)) (N2 : List Int) (D2 Z : List (List Int)) (er : Int) (V : List (List Int)) : Prop :=
  (∀ i, OutJ i → i < Z.length → V.getD i [] = (appU (homeW N2 D2) (appU (homeW N1 D1) Z)).getD i []) ∨ (er = 2 ∧ ∀ i, OutJ i → i < Z.length → V.getD i [] = (appU (homeW N1 D1) Z).getD i [])
theorem CrS.fuse {s : DS} (h : CrS q1 q2 N1 D1 N2 D2 Z er s) (n : Int) : CrS q1 q2 N1 D1 N2 D2 Z er (s.fuse n) := h
theorem CrI.length {F : List (List Int)} (h : CrI q1 q2 N1 D1 N2 D2 Z er F) : F.length = Z.length := by
  rcases h with ⟨h, _⟩ | ⟨h, _⟩ | h
  · exact h.1
  · rw [h.1, appU_length]
  · rw [h.1, appU_length]
theorem vis_empty {s : DS} (h : s.U = []) : s.vis = s.F := by unfold DS.vis; rw [h]; rfl
/-- One Recover, wherever its power goes: behind a crash it is as it was; with power all is there. -/
theorem recover_cr {w : World} {P : Nat → Prop} {p : Value} {s : DS} (h : Dk w P p s) (hs : CrS q1 q2 N1 D1 N2 D2 Z er s) (hZ : Z.length = 100) (hF1 : frmT N1 D1 = true) (hH1 : hasN 100 N1 = true) (hf1 : farT Z.length N1) (hF2 : frmT N2 D2 = true) (hH2 : hasN 100 N2 = true) (hf2 : farT Z.length N2) :
    Calls Tryz.prog 64 #[p] w fun e w' => ∃ x r s' P', e = .returned (.tuple #[.int .u32 x, .int .i64 r]) ∧ Dk w' P' p s' ∧ Chg P P' w w' ∧ s'.U.length ≤ 1000 ∧ (∀ k, CrS q1 q2 N1 D1 N2 D2 Z er (s'.crash k)) ∧ (s.fu = false → r = 0 ∧ s'.dn = false ∧ s'.F.length = 100 ∧ CrE N1 D1 N2 D2 Z er s'.vis) := by
  obtain ⟨hU, hd, hI⟩ := hs
  have hFl : s.F.length = 100 := hI.length.trans hZ
  have hv := vis_empty hU
  have hU0 : s.U.length ≤ 900000 := by rw [hU]; show 0 ≤ 900000; omega
  have hGl : (appU (homeW N1 D1) Z).length = 100 := by rw [appU_length, hZ]
  have l1 := (frmT_of hF1).1
  have l2 := (frmT_of hF2).1
  rcases hI with ⟨hT, he⟩ | ⟨hN, he⟩ | hT
  · have hc := fun kp => home_crash hF1 hf1 (by omega) s hT (by rw [hU]; intro x hx; cases hx) true kp
    have hdn := fun h1 => home_done hF1 hf1 (by omega) s hT (by rw [hU]; intro x hx; cases hx) h1 hd true
    have hlen := runA_len (homeA N1 D1 ++ [.f]) s
    rw [List.length_append, homeA_length, hU] at hlen
    refine (gRecover_yes h (by omega) hd hU0 (q := q1) (N := N1) (D := D1) ⟨by rw [hv]; exact hT.2.1, by rw [hFl]; exact hH1⟩).mono ?_
    rintro e w' ⟨x, rfl, ⟨P', hk, hcg⟩, _⟩
    refine ⟨x, _, _, P', rfl, hk, hcg, by have := hlen.2; simp at this; omega, fun k => ⟨rfl, rfl, .inl ⟨(hc (kpOf k)).1, he⟩⟩, fun h1 => ?_⟩
    obtain ⟨e1, _, e3, e4, _⟩ := hdn h1
    exact ⟨e1, e3, by rw [hlen.1, hFl], .inr ⟨he, e4⟩⟩
  · have hno : ∀ q N D, ¬ holdsT s.F.length (jour s.vis) q N D := fun q N D ht => jour_zero (by rw [DS.vis_length]; omega) (by rw [hv]; exact hN.2.1) q N D ht.1
    have hst : ∀ kp, appU (keepU kp (runA ([] ++ [.f]) s).2.U) (runA ([] ++ [.f]) s).2.F = s.F ∧ (runA ([] ++ [.f]) s).2.U = [] := fun kp => by
      rw [List.nil_append, runA_cons]
      cases hok : s.ok
      · rw [if_neg Bool.false_ne_true]
        show appU (keepU kp s.U) s.F = s.F ∧ s.U = []
        rw [hU]; exact ⟨rfl, rfl⟩
      · rw [if_pos rfl]
        show appU (keepU kp []) s.vis = s.F ∧ ([] : List (Nat × List Int)) = []
        rw [hv]; exact ⟨rfl, rfl⟩
    have hfr := fun h1 => runA_free ([] ++ [.f]) s h1 hd
    have hlen := runA_len ([] ++ [.f]) s
    refine (gRecover_no h (by omega) hd hU0 hno).mono ?_
    rintro e w' ⟨x, rfl, ⟨P', hk, hcg⟩, _⟩
    refine ⟨x, _, _, P', rfl, hk, hcg, by rw [(hst fun _ => true).2]; show 0 ≤ 1000; omega, fun k => ⟨rfl, rfl, .inr (.inl ⟨?_, he⟩)⟩, fun h1 => ?_⟩
    · show InvN (appU (keepU (kpOf k) _) _) _
      rw [(hst (kpOf k)).1]; exact hN
    · obtain ⟨e1, _, _, e4, _⟩ := hfr h1
      refine ⟨e1, e4, by rw [hlen.1, hFl], .inr ⟨he, fun i hi hl => ?_⟩⟩
      rw [vis_empty (hst fun _ => true).2]
      have := (hst fun _ => true).1
      rw [(hst fun _ => true).2] at this
      have e5 : (runA ([] ++ [.f]) s).2.F = s.F := this
      rw [e5]
      exact hN.2.2 i hi (by rw [hGl]; omega)
  · have hf2' : farT (appU (homeW N1 D1) Z).length N2 := by rw [appU_length]; exact hf2
    have hc := fun kp => home_crash hF2 hf2' (by omega) s hT (by rw [hU]; intro x hx; cases hx) true kp
    have hdn := fun h1 => home_done hF2 hf2' (by omega) s hT (by rw [hU]; intro x hx; cases hx) h1 hd true
    have hlen := runA_len (homeA N2 D2 ++ [.f]) s
    rw [List.length_append, homeA_length, hU] at hlen
    refine (gRecover_yes h (by omega) hd hU0 (q := q2) (N := N2) (D := D2) ⟨by rw [hv]; exact hT.2.1, by rw [hFl]; exact hH2⟩).mono ?_
    rintro e w' ⟨x, rfl, ⟨P', hk, hcg⟩, _⟩
    refine ⟨x, _, _, P', rfl, hk, hcg, by have := hlen.2; simp at this; omega, fun k => ⟨rfl, rfl, .inr (.inr (hc (kpOf k)).1)⟩, fun h1 => ?_⟩
    obtain ⟨e1, _, e3, e4, _⟩ := hdn h1
    exact ⟨e1, e3, by rw [hlen.1, hFl], .inl fun i hi hl => e4 i hi (by rw [appU_length]; exact hl)⟩
end
/-- The first change made, and written home; then the fuse. -/
theorem cr_first {N : List Int} {D : List (List Int)} (hF : frmT N D = true) (hf : farT 100 N) :
    let s1 := (runA (layA 1 (layWs 1 N D)) (DS.new 100)).2
    let s2 := (runA (homeA N D) s1).2
    (runA (layA 1 (layWs 1 N D)) (DS.new 100)).1 = 0 ∧ s1.F.length = 100 ∧ s1.U = [] ∧ (runA (homeA N D) s1).1 = 0 ∧ s2.F.length = 100 ∧ s2.U.length ≤ 37 ∧
      InvT s2.F 1 N D (List.replicate 100 zb) ∧ (∀ x ∈ s2.U, x ∈ homeW N D) ∧ (∀ i, OutJ i → i < 100 → s2.vis.getD i [] = (appU (homeW N D) (List.replicate 100 zb)).getD i []) := by
  intro s1 s2
  have hl0 : (DS.new 100).F.length = 100 := List.length_replicate
  have hzl : (List.replicate 100 zb).length = 100 := List.length_replicate
  obtain ⟨g0, g1, g2, g3, g4, g5, g6, g7⟩ := lay_free hF (q := 1) (by omega) (by omega) (DS.new 100) rfl rfl (by rw [hl0]; omega)
  rw [hl0] at g4
  obtain ⟨f1, f2, _⟩ := frmT_of hF
  -- the other blocks
  have hout : ∀ i, OutJ i → i < 100 → s1.F.getD i [] = (List.replicate 100 zb).getD i [] := fun i hi hl => by
    obtain ⟨k1, k2, _⟩ := runA_free (layA 1 (layWs 1 N D)) (DS.new 100) rfl rfl
    have e : foldA (layA 1 (layWs 1 N D)) (DS.new 100).fuP = ((appU (layWs 1 N D) ((DS.new 100).vis.set 42 z256)).set 42 (sealS (endL 1)), []) := by
      unfold layA
      rw [foldA_append, foldA_append, foldA_ws]
      rfl
    rw [e] at k2
    have e1 : s1.F = (appU (layWs 1 N D) ((DS.new 100).vis.set 42 z256)).set 42 (sealS (endL 1)) := congrArg Prod.fst k2
    rw [e1, set_other _ _ _ _ (by rcases hi with h | h <;> omega), appU_other _ _ _ (fun x hx ex => by
      obtain ⟨k, hk, rfl⟩ := layWs_mem hx
      have ex' : 3 + k = i := ex
      rcases hi with h | h <;> omega), set_other _ _ _ _ (by rcases hi with h | h <;> omega)]
    rfl
  obtain ⟨h0, h1, h2, h3, _⟩ := runA_free (homeA N D) s1 g1 g2
  have ef : foldA (homeA N D) s1.fuP = (s1.F, s1.U ++ homeW N D) := by unfold homeA; rw [foldA_ws]; rfl
  rw [ef] at h1
  have a1 : s2.F = s1.F := congrArg Prod.fst h1
  have a2 : s2.U = s1.U ++ homeW N D := congrArg Prod.snd h1
  rw [show s1.U = [] from g3, List.nil_append] at a2
  have hj : jour s1.vis = jour s1.F := by rw [vis_empty g3]
  have hI : InvT s2.F 1 N D (List.replicate 100 zb) := ⟨by rw [a1, hzl]; exact g4, by rw [a1, ← hj]; exact g7, fun i hi hl => .inl (by rw [a1]; exact hout i hi (by rw [hzl] at hl; exact hl))⟩
  refine ⟨g0, g4, g3, h0, by rw [a1]; exact g4, by rw [a2]; simp [homeW]; omega, hI, fun x hx => by rw [a2] at hx; exact hx, fun i hi hl => ?_⟩
  show (appU s2.U s2.F).getD i [] = _
  rw [a2]
  exact hI.done hF i hi (by rw [hzl]; exact hl)
/-- The second one, while the power may go: what a crash leaves. -/
theorem cr_second {N1 N2 : List Int} {D1 D2 : List (List Int)} (hF1 : frmT N1 D1 = true) (hf1 : farT 100 N1) (hF2 : frmT N2 D2 = true) (hf2 : farT 100 N2) (s : DS) (hI : InvT s.F 1 N1 D1 (List.replicate 100 zb)) (hU : ∀ x ∈ s.U, x ∈ homeW N1 D1)
    (hv : ∀ i, OutJ i → i < 100 → s.vis.getD i [] = (appU (homeW N1 D1) (List.replicate 100 zb)).getD i []) (k : List Bool) :
    let r := runA (layA 2 (layWs 2 N2 D2)) s
    (r.1 = 2 → CrS 1 2 N1 D1 N2 D2 (List.replicate 100 zb) r.1 (r.2.crash k)) ∧ (r.1 = 0 → r.2.U = [] ∧ CrS 1 2 N1 D1 N2 D2 (List.replicate 100 zb) r.1 ((runA (homeA N2 D2) r.2).2.crash k)) := by
  intro r
  have hzl : (List.replicate 100 zb).length = 100 := List.length_replicate
  obtain ⟨a, b⟩ := lay_crash (q2 := 2) (by rw [hzl]; omega) (layW_of hF2) hF1 (by rw [hzl]; exact hf1) hF2 (by omega) s hI hU (fun i hi hl => hv i hi (by rw [hzl] at hl; exact hl)) (kpOf k)
  refine ⟨fun h => ⟨rfl, rfl, ?_⟩, fun h => ?_⟩
  · rcases a with ⟨a, _⟩ | ⟨a, _⟩ | a
    · exact .inl ⟨a, h⟩
    · exact .inr (.inl ⟨a, h⟩)
    · exact .inr (.inr a)
  · obtain ⟨b1, b2, b3⟩ := b h
    refine ⟨b1, rfl, rfl, .inr (.inr ?_)⟩
    have := home_crash hF2 (by rw [appU_length, hzl]; exact hf2) (by rw [appU_length, hzl]; omega) r.2 b2 (by rw [b1]; intro x hx; cases hx) false (kpOf k)
    rw [show (if (false : Bool) = true then [PA.f] else []) = [] from rfl, List.append_nil] at this
    exact this.1
end Go.Proofs.YtkbeencjklgcnaaGreat
