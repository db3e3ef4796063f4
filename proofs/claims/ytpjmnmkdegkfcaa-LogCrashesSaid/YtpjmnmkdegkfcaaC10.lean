/- Contracts of package log: Write, the walk. -/
import Derived.Test.YtpjmnmkdegkfcaaC7
import Derived.Test.YtpjmnmkdegkfcaaC9
namespace Go.Proofs.Ytpjmnmkdegkfcaa
set_option maxRecDepth 100000
open Go.RowKit
set_option linter.unusedVariables false

theorem StSl.drew {w : World} {P : Nat → Prop} {b off : Nat} {St : List (Nat × List (List Int))} (h : StSl w P b off St) : StSl w.drew P b off St := h.chg (Chg.of_below (below_drewN' (Below.refl _ _) 1))
theorem below_drew10 {B : Nat} {w w' : World} (h : Below B w w') : Below B w w'.drew := below_drewN' h 1
section
variable {w : World} {P : Nat → Prop} {p : Value} {s : DS}
theorem gWrite_no (h : Dk w P p s) {v : Value} {q : Int} {N : List Int} {D : List (List Int)} (hv : TxV w v q N D) (hB : takesT s.F.length N D = false) :
    Calls Try.prog 11 #[p, v] w fun e w' => e = .returned (.int .i64 1) ∧ Below w.heap.size w w' := by
  have hv' := hv
  obtain ⟨no, nc, ao, dc, rfl, hN, hD⟩ := hv
  have KT := Lib.hid (fun W (hb : Below w.heap.size w W) => gTakes_is (h.below hb) (hv'.below hb) false hB)
  obtain ⟨bp, rfl⟩ := h.ptr
  generalize N.length = n at KT ⊢
  generalize D.length = m at KT ⊢
  have hbx := below_box w (.cells #[.int .u32 q, .slice no n nc, .slice ao m dc] 35)
  have hnx := heap_alloc_new w (.cells #[.int .u32 q, .slice no n nc, .slice ao m dc] 35)
  clear h hN hD hv' hB
  go_enter Try.func11, Try.ntmps11
  go_upto_region 1 with (fail)
  generalize w.alloc (.cells #[.int .u32 q, .slice no n nc, .slice ao m dc] 35) = u at hbx hnx ⊢
  have KT1 := Lib.hid (KT.out _ hbx)
  have d0 : u.cell? ⟨w.heap.size, 0, none⟩ = some (.int .u32 q) := by rw [cell_of_row _ _ _ _ _ _ hnx]; rfl
  have d1 : u.cell? ⟨w.heap.size, 1, none⟩ = some (.slice no n nc) := by rw [cell_of_row _ _ _ _ _ _ hnx]; rfl
  have d2 : u.cell? ⟨w.heap.size, 2, none⟩ = some (.slice ao m dc) := by rw [cell_of_row _ _ _ _ _ _ hnx]; rfl
  have HBX := Lib.hid hbx
  clear hnx KT hbx
  go_wp2_with (go_at_call 28; (with_reducible refine KT1.out.mono ?_); rintro e w2 ⟨rfl, hb2⟩)
  go_ret
  exact ⟨rfl, HBX.out.trans (hb2.mono HBX.out.size)⟩
set_option maxHeartbeats 2000000 in
theorem gWrite_yes (h : Dk w P p s) {v : Value} {q : Int} {N : List Int} {D : List (List Int)} (hv : TxV w v q N D) (q0 : 0 ≤ q) (q1 : q < 4294967296) (hB : takesT s.F.length N D = true) (hU : s.U.length ≤ 900000) :
    Calls Try.prog 11 #[p, v] w (RunQ (layA q (layWs q N D)) w P p s) := by
  have hv' := hv
  obtain ⟨no, nc, ao, dc, rfl, hN, hD⟩ := hv
  have hB' := hB
  unfold takesT at hB'
  rw [Bool.and_eq_true, Bool.and_eq_true, decide_eq_true_eq] at hB'
  obtain ⟨h64, hF, hH⟩ := hB'
  obtain ⟨f1, f2, f3⟩ := frmT_of hF
  have KT := Lib.hid (fun W (hb : Below w.heap.size w W) => gTakes_is (h.below hb) (hv'.below hb) true hB)
  have KP := Lib.hid (fun W (hb : Below w.heap.size w W) => tPack_own (hv'.below hb) hF q0 q1)
  obtain ⟨M, hM⟩ : ∃ M, M = (packT q N D).length := ⟨_, rfl⟩
  obtain ⟨K, hK⟩ : ∃ K, K = D.length + 1 := ⟨_, rfl⟩
  have hMK : K + 1 = M := by rw [hM, packT_length, hK]
  have hM40 : M ≤ 40 := by omega
  have KL : Hid (∀ W g U3, Below w.heap.size w W → (W.heap.size + 1 + 1 = g) → (StSl U3 P g 0 (strT q N D)) → Below W.heap.size W U3 → Calls Try.prog 30 #[p, .slice (some ⟨g, 0, none⟩) 4 4] U3 (fun e w' => e = .returned (.int .i64 (runA (layA q (layWs q N D)) s).1) ∧ ∃ P', Dk w' P' p (runA (layA q (layWs q N D)) s).2 ∧ Chg P P' w w')) := Lib.hid (fun W g U3 hb _ hs hb2 => by
    have := gLay_of (cap := 4) (h.below (hb.trans (hb2.mono hb.size))) hs hU (by
      unfold cntS; rw [layS_strT]; unfold layA; simp [layWs]; omega) (by show 4 ≤ 1000; omega) (fun j hj i hi => by
      have hj4 : j < 4 := hj
      obtain rfl | rfl | rfl | rfl : j = 0 ∨ j = 1 ∨ j = 2 ∨ j = 3 := by omega
      · exact absurd hi (Nat.not_lt_zero _)
      · obtain rfl : i = 0 := by have : i < 1 := hi; omega
        exact ⟨by show 42 + 0 < _; omega, by show z256.length = 256; exact List.length_replicate⟩
      · have hi' : i < D.length + 1 := hi
        refine ⟨by show 3 + i < _; omega, ?_⟩
        show ((sealS (headL q N) :: D).getD i []).length = 256
        cases i with
        | zero => exact sealS_length _ (by rw [headL_length]; omega)
        | succ i => exact (f3 i (by omega)).2.1
      · obtain rfl : i = 0 := by have : i < 1 := hi; omega
        exact ⟨by show 42 + 0 < _; omega, by show (sealS (endL q)).length = 256; exact sealS_length _ (by rw [endL_length]; omega)⟩) (fun j hj => by
      have hj4 : j < 4 := hj
      obtain rfl | rfl | rfl | rfl : j = 0 ∨ j = 1 ∨ j = 2 ∨ j = 3 := by omega
      · exact ⟨by show 0 ≤ 1000; omega, by show 0 ≤ 1000; omega⟩
      · exact ⟨by show 42 ≤ 1000; omega, by show 1 ≤ 1000; omega⟩
      · exact ⟨by show 3 ≤ 1000; omega, by show D.length + 1 ≤ 1000; omega⟩
      · exact ⟨by show 42 ≤ 1000; omega, by show 1 ≤ 1000; omega⟩)
    rw [layS_strT] at this
    refine this.mono ?_
    rintro e w' ⟨he, P', hd, hc⟩
    exact ⟨he, P', hd, (Chg.of_below (hb.trans (hb2.mono hb.size))).trans hc⟩)
  have hlt := fun k hk => h.lt k hk
  have HAP := Lib.hid (fun W (hb : Below w.heap.size w W) u (hu : BB2 W W.heap.size 0 u (packT q N D)) => hu.zero.apart (h.below hb))
  have HAP2 := Lib.hid (fun W (hb : Below w.heap.size w W) B u (hu : BB2 W B 0 u (packT q N D)) => hu.zero.apart (h.below hb))
  have HSM := Lib.hid (fun W (hb : Below w.heap.size w W) b off cap (hu : BBa W P (.slice (some ⟨b, off, none⟩) M cap) (packT q N D)) => stSl_made (W := W) (P := P) (fun k hk => Nat.lt_of_lt_of_le (hlt k hk) hb.size) hu hM.symm hK.symm)
  have HSH := Lib.hid (fun W u (hu : BBSl W u (packT q N D)) => hu.open')
  rw [← hM] at HSH
  obtain ⟨bp, rfl⟩ := h.ptr
  unfold RunQ
  obtain ⟨A, hA⟩ : ∃ A, A = layA q (layWs q N D) := ⟨_, rfl⟩
  rw [← hA] at KL ⊢
  obtain ⟨rr, hrr⟩ : ∃ rr, rr = (runA A s).1 := ⟨_, rfl⟩
  obtain ⟨rs, hrs⟩ : ∃ rs, rs = (runA A s).2 := ⟨_, rfl⟩
  rw [← hrr, ← hrs] at KL ⊢
  generalize N.length = n at KT KP ⊢
  generalize D.length = m at KT KP ⊢
  have hbx := below_box w (.cells #[.int .u32 q, .slice no n nc, .slice ao m dc] 35)
  have hnx := heap_alloc_new w (.cells #[.int .u32 q, .slice no n nc, .slice ao m dc] 35)
  have hMc : ((K : Nat) : Int) = (M : Int) - 1 := by omega
  have HMK := Lib.hid hMK
  have HM40 := Lib.hid hM40
  have HMC := Lib.hid hMc
  clear h hN hD hv' hB hF hH f1 f2 f3 h64 hlt hU q0 q1 hM hK hA hrr hrs hMK hMc
  go_enter Try.func11, Try.ntmps11
  go_upto_region 1 with (fail)
  generalize w.alloc (.cells #[.int .u32 q, .slice no n nc, .slice ao m dc] 35) = u at hbx hnx ⊢
  have KT1 := Lib.hid (KT.out _ hbx)
  have d0 : u.cell? ⟨w.heap.size, 0, none⟩ = some (.int .u32 q) := by rw [cell_of_row _ _ _ _ _ _ hnx]; rfl
  have d1 : u.cell? ⟨w.heap.size, 1, none⟩ = some (.slice no n nc) := by rw [cell_of_row _ _ _ _ _ _ hnx]; rfl
  have d2 : u.cell? ⟨w.heap.size, 2, none⟩ = some (.slice ao m dc) := by rw [cell_of_row _ _ _ _ _ _ hnx]; rfl
  have hzu : w.heap.size < u.heap.size := (Array.getElem?_eq_some_iff.1 hnx).1
  obtain ⟨d, hd⟩ : ∃ d, d = w.heap.size := ⟨_, rfl⟩
  have HBX := Lib.hid hbx
  have HM0 : Hid (0 < M) := Lib.hid (by have := HMK.out; omega)
  rw [← hd] at d0 d1 d2 hzu ⊢
  have e1 : 1 ≤ M := HM0.out
  clear hnx KT hbx hd
  go_wp2_with (first
    | (go_at_call 28; (with_reducible refine KT1.out.mono ?_); rintro e w2 ⟨rfl, hb2⟩
       have HB2 := Lib.hid (HBX.out.trans (hb2.mono HBX.out.size))
       have g0 := (hb2.cell (p := ⟨d, 0, none⟩) hzu).trans d0
       have g1 := (hb2.cell (p := ⟨d, 1, none⟩) hzu).trans d1
       have g2 := (hb2.cell (p := ⟨d, 2, none⟩) hzu).trans d2
       clear hb2 d0 d1 d2)
    | (go_at_call 29; (with_reducible refine (KP.out _ HB2.out).mono ?_); rintro e w3 ⟨u3, rfl, hu3, hb3⟩
       have HB3 := Lib.hid (HB2.out.trans (hb3.mono HB2.out.size))
       have HA3 := Lib.hid (HAP2.out _ HB3.out _ _ hu3)
       obtain ⟨bo, cap, rfl, hcap, hq3⟩ := HSH.out _ _ hu3.zero.sl
       obtain ⟨b, off, rfl, _, _⟩ := hq3 HM0.out
       have HCAP := Lib.hid hcap
       clear hu3 hb3 hq3 hcap g0 g1 g2))
  have hwr : IntKind.i64.wrap ((M : Int) - 1) = (M : Int) - 1 := IntWalk.i64_in _ (by have := HM40.out; have := HM0.out; omega)
  obtain ⟨Z, hZ⟩ : ∃ Z, Z = Array.replicate 256 (Value.int .u8 0) := ⟨_, rfl⟩
  have hmk := fun W => make_n W 256 (by decide) 256 rfl
  have hs1 := fun W => slice_to b off M cap K ((M : Int) - 1) HMC.out.symm (by have := HCAP.out; have := HMK.out; omega) (by have := HCAP.out; have := HM0.out; omega) W
  have hs2 := fun W => slice_from b off M cap K ((M : Int) - 1) HMC.out.symm HMK.out HCAP.out W
  obtain ⟨h1, h2⟩ := HSM.out _ HB3.out _ _ _ HA3.out
  have KL1 := Lib.hid (KL.out _ _ _ HB3.out rfl h2.drew (below_drew10 h1))
  rw [← hZ] at hmk KL1
  clear h1 h2 hZ HA3
  go_region_held3 (fun W => True) (trivial) (first | (go_at_call 30; (with_reducible refine KL1.out.mono ?_); rintro e w5 ⟨rfl, hx5⟩))
  go_wp2
  go_ret
  exact ⟨rfl, hx5⟩
end
end Go.Proofs.Ytpjmnmkdegkfcaa

/- Contracts of package log: Read, Recover. -/
namespace Go.Proofs.Ytpjmnmkdegkfcaa
set_option maxRecDepth 100000
open Go.RowKit
set_option linter.unusedVariables false

theorem ret_cell_t32 {fn : Func} {p u x : Tmp} {ty : TypeId} {fs} (h : fn.results = #[.cell p ty, .tmp u, .tmp x]) (hu : Try.prog.underlying ty = some (.struct fs)) (hi : (Try.prog.info? ty).map (·.size) = some 3)
    (tmps : Array Value) (w : World) (g : Nat) (T : TypeId) (a b c y z : Value) (hp : tmps.getD p undef = .pointer (some ⟨g, 0, none⟩)) (hg : w.heap[g]? = some (.cells #[a, b, c] T (0, 0))) (hy : tmps.getD u undef = y) (hz : tmps.getD x undef = z) :
    (results fn tmps).run Try.prog w = .ok (.tuple #[.agg #[a, b, c], y, z]) w := by
  have h0 : (results fn tmps).run Try.prog w =
      ((asAddr (tmps.getD p undef)).run Try.prog w).andThen fun a w₁ => ((loadVar ty a).run Try.prog w₁).andThen fun v w₂ => .ok (.tuple #[v, tmps.getD u undef, tmps.getD x undef]) w₂ := by
    simp only [results, h]
    simp [Sem.run_bind, Result.andThen]
  rw [h0, hp, hy, hz]
  simp only [asAddr, Sem.run_pure, Result.andThen_ok]
  rw [run_loadVar_row w g T ty _ (0, 0) _ hg hu rfl (by rw [hi]; rfl)]
  rfl
/-- What Recover hands back, and leaves: the run of A; its sequence is 1 where hd holds. -/
def RecQ (A : List PA) (hd : Prop) (w : World) (P : Nat → Prop) (p : Value) (s : DS) (e : Ending) (w' : World) : Prop :=
  ∃ x, e = .returned (.tuple #[.int .u32 x, .int .i64 (runA A s).1]) ∧ (∃ P', Dk w' P' p (runA A s).2 ∧ Chg P P' w w') ∧ (hd → (runA A s).1 = 0 → x = 1)
theorem runA_two (A : List PA) (s : DS) : (runA A s).1 = 0 ∨ (runA A s).1 = 2 := by
  obtain ⟨_, _, _, h⟩ := runA_pre A s
  exact h.imp (fun x => x.1) id
theorem RecQ.early {A : List PA} {hd : Prop} {w W : World} {P P' : Nat → Prop} {p : Value} {s : DS} (h : (runA A s).1 = 2) (hk : Dk W P' p (runA A s).2) (hc : Chg P P' w W) : RecQ (A ++ [.f]) hd w P p s (.returned (.tuple #[.int .u32 0, .int .i64 2])) W := by
  have e : runA (A ++ [.f]) s = runA A s := by rw [runA_append, if_neg (by rw [h]; decide)]
  unfold RecQ
  rw [e, h]
  exact ⟨0, rfl, ⟨P', hk, hc⟩, fun _ h => absurd h (by decide)⟩
theorem RecQ.stop {A : List PA} {hd : Prop} {w W : World} {P P' : Nat → Prop} {p : Value} {s : DS} (h : (runA A s).1 = 0) (hok : (runA A s).2.ok = false) (hk : Dk W P' p (runA A s).2.pay) (hc : Chg P P' w W) : RecQ (A ++ [.f]) hd w P p s (.returned (.tuple #[.int .u32 0, .int .i64 2])) W := by
  unfold RecQ
  rw [runA_stop h hok]
  exact ⟨0, rfl, ⟨P', hk, hc⟩, fun _ h => absurd (show (2 : Int) = 0 from h) (by decide)⟩
theorem RecQ.done {A : List PA} {hd : Prop} {w W : World} {P P' : Nat → Prop} {p : Value} {s : DS} {x : Int} (h : (runA A s).1 = 0) (hok : (runA A s).2.ok = true) (hk : Dk W P' p (runA A s).2.flush) (hc : Chg P P' w W) (hx : hd → x = 1) : RecQ (A ++ [.f]) hd w P p s (.returned (.tuple #[.int .u32 x, .int .i64 0])) W := by
  unfold RecQ
  rw [runA_next h hok]
  exact ⟨x, rfl, ⟨P', hk, hc⟩, fun h _ => hx h⟩
section
variable {w : World} {P : Nat → Prop} {p : Value} {s : DS}
theorem gRead_yes (h : Dk w P p s) (h64 : 64 ≤ s.F.length) (hd : s.dn = false) {q : Int} {N : List Int} {D : List (List Int)} (ht : holdsT s.F.length (jour s.vis) q N D) :
    Calls Try.prog 17 #[p] w fun e w' => ∃ vN vD, e = .returned (.tuple #[.agg #[.int .u32 q, vN, vD], .bool true, .int .i64 0]) ∧ IR w' 0 vN N ∧ BBR w' 0 vD D ∧ Below w.heap.size w w' := by
  have hjl : (jour s.vis).length = 40 := jour_length (by rw [DS.vis_length]; omega)
  have KJ := Lib.hid (fun W (hb : Below w.heap.size w W) => gJour_of (h.below hb) h64 hd)
  have KS := Lib.hid (fun W (hb : Below w.heap.size w W) v (hv : BBSl W v (jour s.vis)) => gStored_yes (h.below hb) hv (by omega) ht)
  obtain ⟨bp, rfl⟩ := h.ptr
  have hbx := below_box w (.cells #[.int .u32 0, .slice none 0 0, .slice none 0 0] 35)
  have hnx := heap_alloc_new w (.cells #[.int .u32 0, .slice none 0 0, .slice none 0 0] 35)
  clear h h64 hd ht hjl
  go_enter Try.func17, Try.ntmps17
  go_upto_region 1 with (fail)
  generalize w.alloc (.cells #[.int .u32 0, .slice none 0 0, .slice none 0 0] 35) = w1 at hbx hnx ⊢
  have hzu := (Array.getElem?_eq_some_iff.1 hnx).1
  go_wp2_with (first
    | (go_at_call 35; (with_reducible refine (KJ.out _ hbx).mono ?_); rintro e w2 ⟨ao, cap, rfl, hv2, hb2⟩
       have HB2 := Lib.hid hb2
       have HV2 := Lib.hid hv2.sl
       clear hb2 hv2)
    | (go_at_call 36; (with_reducible refine (KS.out _ (hbx.trans (HB2.out.mono hbx.size)) _ HV2.out).mono ?_); rintro e w3 ⟨vN, vD, rfl, hN3, hD3, hb3⟩
       obtain ⟨_, no, nc, rfl, _⟩ := hN3.isc
       obtain ⟨co, dc, rfl, _⟩ := hD3.sl.shape
       have hns := heap_alloc_new w3 (.cells #[.int .u32 0, .slice none 0 0, .slice none 0 0] 35)
       have hbs := below_box w3 (.cells #[.int .u32 0, .slice none 0 0, .slice none 0 0] 35)
       have HN3 := Lib.hid (hN3.below hbs)
       have HD3 := Lib.hid (hD3.below hbs)
       have HB3 := Lib.hid (HB2.out.trans (hb3.mono HB2.out.size))
       generalize hnn : N.length = n at HN3 ⊢
       generalize hmm : D.length = m at HD3 ⊢
       clear hN3 hD3 hnn hmm hb3)
    | (with_reducible refine wpList_store_t3 rfl 35 sizeT (.tmp 7) (.tmp 22) rfl w3.heap.size rfl _ _ _ _ _ _ rfl rfl rfl rfl _ hns ?_; intro w4 hw4 hr4
       have hb4 := hbs.trans (hw4.below (Nat.le_refl _))
       have hb14 := HB3.out.trans (hb4.mono HB3.out.size)
       have hr0 := hold9 hnx hb14
       have HB4 := Lib.hid (hbx.trans (hb14.mono hbx.size))
       have x0 : w4.cell? ⟨w3.heap.size, 0, none⟩ = some (.int .u32 q) := by rw [cell_of_row _ _ _ _ _ _ hr4]; rfl
       have x1 : w4.cell? ⟨w3.heap.size, 1, none⟩ = some (.slice no n nc) := by rw [cell_of_row _ _ _ _ _ _ hr4]; rfl
       have x2 : w4.cell? ⟨w3.heap.size, 2, none⟩ = some (.slice co m dc) := by rw [cell_of_row _ _ _ _ _ _ hr4]; rfl
       have HN4 := Lib.hid (HN3.out.wrote hw4 hns (by decide))
       have HD4 := Lib.hid (HD3.out.wrote hw4 (Nat.zero_le _) hns (by decide) (by decide))
       clear hns hbs hw4 hb4 hb14 HN3 HD3 hr4)
    | (with_reducible refine wpList_store_t3 rfl 35 sizeT (.tmp 2) (.tmp 24) rfl w.heap.size rfl _ _ _ _ _ _ rfl rfl rfl rfl _ hr0 ?_; intro w9 hw9 hr9))
  refine bodyPost_ret (ret_cell_t32 rfl Try.underlying35 sizeT _ _ w.heap.size _ _ _ _ _ _ rfl hr9 rfl rfl) rfl ⟨_, _, rfl, ?_, ?_, HB4.out.trans (hw9.below (Nat.le_refl _))⟩
  · exact HN4.out.wrote hw9 hr0 (by decide)
  · exact HD4.out.wrote hw9 (Nat.zero_le _) hr0 (by decide) (by decide)
/-- Seq, as Recover uses it. -/
theorem tSeq_some {W : World} {v : Value} {J : List (List Int)} (hv : BBSl W v J) (hJ : 0 < J.length) :
    Calls Try.prog 40 #[v] W fun e w' => ∃ y z, e = .returned (.tuple #[.int .u32 y, .bool z]) ∧ Below W.heap.size W w' ∧ ((∀ q N, ¬ isHead (J.getD 0 []) q N) → y = 0) :=
  (tSeq_any hv).mono fun e w' ⟨hb, hc⟩ => by
    rcases hc with ⟨q, N, h0, hh, he⟩ | ⟨_, he⟩
    · exact ⟨q, true, he, hb, fun h => absurd hh (h q N)⟩
    · exact ⟨0, false, he, hb, fun _ => rfl⟩
-- WALKS
theorem gRecover_yes (h : Dk w P p s) (h64 : 64 ≤ s.F.length) (hd : s.dn = false) (hU : s.U.length ≤ 900000) {q : Int} {N : List Int} {D : List (List Int)} (ht : holdsT s.F.length (jour s.vis) q N D) :
    Calls Try.prog 23 #[p] w (RecQ (homeA N D ++ [.f]) (∀ q N, ¬ isHead ((jour s.vis).getD 0 []) q N) w P p s) := by
  have hjl : (jour s.vis).length = 40 := jour_length (by rw [DS.vis_length]; omega)
  obtain ⟨hF, q0, q1⟩ := isTxn_frm ht.1
  have hlen := runA_len (homeA N D) s
  rw [homeA_length] at hlen
  have h37 := (frmT_of hF).1
  have KJ := Lib.hid (gJour_of h h64 hd)
  have KS := Lib.hid (fun W (hb : Below w.heap.size w W) v (hv : BBSl W v (jour s.vis)) => gStored_yes (h.below hb) hv (by omega) ht)
  have HTV := Lib.hid (fun W (hb : Below w.heap.size w W) vN vD (hN : IR W 0 vN N) (hD : BBR W 0 vD D) => TxVa.own (h.below hb) (q := q) hN hD)
  have KH := Lib.hid (fun W (hb : Below w.heap.size w W) v (hv : TxVa W P v q N D) => gHome_yes (h.below hb) hv (by
    unfold takesT
    rw [decide_eq_true h64, hF, ht.2]; rfl) hU)
  have KF := Lib.hid (fun W Pk (hk : Dk W Pk p (runA (homeA N D) s).2) => kFlush hk (by omega))
  have KQ := Lib.hid (fun W v (hv : BBSl W v (jour s.vis)) => tSeq_some hv (by omega))
  obtain ⟨bp, rfl⟩ := h.ptr
  obtain ⟨J, hJ⟩ : ∃ J, J = jour s.vis := ⟨_, rfl⟩
  rw [← hJ] at KJ KS KQ ⊢
  obtain ⟨HD, hHD⟩ : ∃ HD, HD = (∀ q N, ¬ isHead (J.getD 0 []) q N) := ⟨_, rfl⟩
  rw [← hHD]
  have HHD : Hid (HD → (∀ q N, ¬ isHead (J.getD 0 []) q N)) := Lib.hid (fun h => by rw [hHD] at h; exact h)
  obtain ⟨A, hA⟩ : ∃ A, A = homeA N D := ⟨_, rfl⟩
  rw [← hA] at KF KH ⊢
  unfold RunQ at KH
  clear h h64 hd hU ht hjl hF q0 q1 hlen h37 hHD hA hJ
  rcases runA_two A s with hr | hr
  · rw [hr] at KH
    have HR := Lib.hid hr
    clear hr
    cases hok : (runA A s).2.ok
    · rw [hok, if_neg Bool.false_ne_true, if_neg Bool.false_ne_true] at KF
      have HOK := Lib.hid hok
      clear hok
      go_enter Try.func23, Try.ntmps23
      go_wp2_with (first
        | (go_at_call 35; (with_reducible refine KJ.out.mono ?_); rintro e w1 ⟨ao, cap, rfl, hv1, hb1⟩
           have HB1 := Lib.hid hb1
           have HV1 := Lib.hid hv1
           clear hb1 hv1)
        | (go_at_call 36; (with_reducible refine (KS.out _ HB1.out _ HV1.out.sl).mono ?_); rintro e w3 ⟨vN, vD, rfl, hN3, hD3, hb3⟩
           obtain ⟨_, no, nc, rfl, _⟩ := hN3.isc
           obtain ⟨co, dc, rfl, _⟩ := hD3.sl.shape
           have hns := heap_alloc_new w3 (.cells #[.int .u32 0, .slice none 0 0, .slice none 0 0] 35)
           have hbs := below_box w3 (.cells #[.int .u32 0, .slice none 0 0, .slice none 0 0] 35)
           have HN3 := Lib.hid (hN3.below hbs)
           have HD3 := Lib.hid (hD3.below hbs)
           have HB3 := Lib.hid hb3
           generalize hnn : N.length = n at HN3 ⊢
           generalize hmm : D.length = m at HD3 ⊢
           clear hN3 hD3 hnn hmm hb3)
        | (with_reducible refine wpList_store_t3 rfl 35 sizeT (.tmp 6) (.tmp 24) rfl w3.heap.size rfl _ _ _ _ _ _ rfl rfl rfl rfl _ hns ?_; intro w4 hw4 hr4
           have hb4 := hbs.trans (hw4.below (Nat.le_refl _))
           have HB14 := Lib.hid (HB3.out.trans (hb4.mono HB3.out.size))
           have HB4 := Lib.hid (HB1.out.trans (HB14.out.mono HB1.out.size))
           have x0 : w4.cell? ⟨w3.heap.size, 0, none⟩ = some (.int .u32 q) := by rw [cell_of_row _ _ _ _ _ _ hr4]; rfl
           have x1 : w4.cell? ⟨w3.heap.size, 1, none⟩ = some (.slice no n nc) := by rw [cell_of_row _ _ _ _ _ _ hr4]; rfl
           have x2 : w4.cell? ⟨w3.heap.size, 2, none⟩ = some (.slice co m dc) := by rw [cell_of_row _ _ _ _ _ _ hr4]; rfl
           have HTX := Lib.hid (HTV.out _ HB4.out _ _ (HN3.out.wrote hw4 hns (by decide)) (HD3.out.wrote hw4 (Nat.zero_le _) hns (by decide) (by decide)))
           clear hns hbs hw4 hb4 HN3 HD3 hr4)
        | (go_at_call 12; (with_reducible refine (KH.out _ HB4.out _ HTX.out).mono ?_); rintro e w5 ⟨rfl, P5, hd5, hc5⟩
           have HC5 := Lib.hid ((Chg.of_below (P := P) HB14.out).trans hc5)
           have HC05 := Lib.hid ((Chg.of_below (P := P) HB1.out).trans HC5.out)
           have KF1 := Lib.hid (KF.out _ _ hd5)
           clear x0 x1 x2 hc5)
        | (go_at_call 39; (with_reducible refine KF1.out.mono ?_); rintro e w7 ⟨rfl, P7, hd7, hc7⟩))
      go_ret2
      exact RecQ.stop HR.out HOK.out hd7 (HC05.out.trans hc7)
    · rw [hok, if_pos rfl, if_pos rfl] at KF
      have HOK := Lib.hid hok
      clear hok
      go_enter Try.func23, Try.ntmps23
      go_wp2_with (first
        | (go_at_call 35; (with_reducible refine KJ.out.mono ?_); rintro e w1 ⟨ao, cap, rfl, hv1, hb1⟩
           have HB1 := Lib.hid hb1
           have HV1 := Lib.hid hv1
           clear hb1 hv1)
        | (go_at_call 36; (with_reducible refine (KS.out _ HB1.out _ HV1.out.sl).mono ?_); rintro e w3 ⟨vN, vD, rfl, hN3, hD3, hb3⟩
           obtain ⟨_, no, nc, rfl, _⟩ := hN3.isc
           obtain ⟨co, dc, rfl, _⟩ := hD3.sl.shape
           have hns := heap_alloc_new w3 (.cells #[.int .u32 0, .slice none 0 0, .slice none 0 0] 35)
           have hbs := below_box w3 (.cells #[.int .u32 0, .slice none 0 0, .slice none 0 0] 35)
           have HN3 := Lib.hid (hN3.below hbs)
           have HD3 := Lib.hid (hD3.below hbs)
           have HB3 := Lib.hid hb3
           generalize hnn : N.length = n at HN3 ⊢
           generalize hmm : D.length = m at HD3 ⊢
           clear hN3 hD3 hnn hmm hb3)
        | (with_reducible refine wpList_store_t3 rfl 35 sizeT (.tmp 6) (.tmp 24) rfl w3.heap.size rfl _ _ _ _ _ _ rfl rfl rfl rfl _ hns ?_; intro w4 hw4 hr4
           have hb4 := hbs.trans (hw4.below (Nat.le_refl _))
           have HB14 := Lib.hid (HB3.out.trans (hb4.mono HB3.out.size))
           have HB4 := Lib.hid (HB1.out.trans (HB14.out.mono HB1.out.size))
           have x0 : w4.cell? ⟨w3.heap.size, 0, none⟩ = some (.int .u32 q) := by rw [cell_of_row _ _ _ _ _ _ hr4]; rfl
           have x1 : w4.cell? ⟨w3.heap.size, 1, none⟩ = some (.slice no n nc) := by rw [cell_of_row _ _ _ _ _ _ hr4]; rfl
           have x2 : w4.cell? ⟨w3.heap.size, 2, none⟩ = some (.slice co m dc) := by rw [cell_of_row _ _ _ _ _ _ hr4]; rfl
           have HTX := Lib.hid (HTV.out _ HB4.out _ _ (HN3.out.wrote hw4 hns (by decide)) (HD3.out.wrote hw4 (Nat.zero_le _) hns (by decide) (by decide)))
           clear hns hbs hw4 hb4 HN3 HD3 hr4)
        | (go_at_call 12; (with_reducible refine (KH.out _ HB4.out _ HTX.out).mono ?_); rintro e w5 ⟨rfl, P5, hd5, hc5⟩
           have HC5 := Lib.hid ((Chg.of_below (P := P) HB14.out).trans hc5)
           have HC05 := Lib.hid ((Chg.of_below (P := P) HB1.out).trans HC5.out)
           have KF1 := Lib.hid (KF.out _ _ hd5)
           clear x0 x1 x2 hc5)
        | (go_at_call 39; (with_reducible refine KF1.out.mono ?_); rintro e w7 ⟨rfl, P7, hd7, hc7⟩)
        | (go_at_call 40; (with_reducible refine (KQ.out _ _ (HV1.out.chg (HC5.out.trans hc7)).sl).mono ?_); rintro e w8 ⟨y, z, rfl, hb8, hy⟩))
      go_ret2
      exact RecQ.done HR.out HOK.out (hd7.below hb8) ((HC05.out.trans hc7).trans (Chg.of_below hb8)) (fun h => by rw [hy (HHD.out h)]; rfl)
  · rw [hr] at KH
    have HR := Lib.hid hr
    clear hr
    go_enter Try.func23, Try.ntmps23
    go_wp2_with (first
      | (go_at_call 35; (with_reducible refine KJ.out.mono ?_); rintro e w1 ⟨ao, cap, rfl, hv1, hb1⟩
         have HB1 := Lib.hid hb1
         have HV1 := Lib.hid hv1
         clear hb1 hv1)
      | (go_at_call 36; (with_reducible refine (KS.out _ HB1.out _ HV1.out.sl).mono ?_); rintro e w3 ⟨vN, vD, rfl, hN3, hD3, hb3⟩
         obtain ⟨_, no, nc, rfl, _⟩ := hN3.isc
         obtain ⟨co, dc, rfl, _⟩ := hD3.sl.shape
         have hns := heap_alloc_new w3 (.cells #[.int .u32 0, .slice none 0 0, .slice none 0 0] 35)
         have hbs := below_box w3 (.cells #[.int .u32 0, .slice none 0 0, .slice none 0 0] 35)
         have HN3 := Lib.hid (hN3.below hbs)
         have HD3 := Lib.hid (hD3.below hbs)
         have HB3 := Lib.hid hb3
         generalize hnn : N.length = n at HN3 ⊢
         generalize hmm : D.length = m at HD3 ⊢
         clear hN3 hD3 hnn hmm hb3)
      | (with_reducible refine wpList_store_t3 rfl 35 sizeT (.tmp 6) (.tmp 24) rfl w3.heap.size rfl _ _ _ _ _ _ rfl rfl rfl rfl _ hns ?_; intro w4 hw4 hr4
         have hb4 := hbs.trans (hw4.below (Nat.le_refl _))
         have HB14 := Lib.hid (HB3.out.trans (hb4.mono HB3.out.size))
         have HB4 := Lib.hid (HB1.out.trans (HB14.out.mono HB1.out.size))
         have x0 : w4.cell? ⟨w3.heap.size, 0, none⟩ = some (.int .u32 q) := by rw [cell_of_row _ _ _ _ _ _ hr4]; rfl
         have x1 : w4.cell? ⟨w3.heap.size, 1, none⟩ = some (.slice no n nc) := by rw [cell_of_row _ _ _ _ _ _ hr4]; rfl
         have x2 : w4.cell? ⟨w3.heap.size, 2, none⟩ = some (.slice co m dc) := by rw [cell_of_row _ _ _ _ _ _ hr4]; rfl
         have HTX := Lib.hid (HTV.out _ HB4.out _ _ (HN3.out.wrote hw4 hns (by decide)) (HD3.out.wrote hw4 (Nat.zero_le _) hns (by decide) (by decide)))
         clear hns hbs hw4 hb4 HN3 HD3 hr4)
      | (go_at_call 12; (with_reducible refine (KH.out _ HB4.out _ HTX.out).mono ?_); rintro e w5 ⟨rfl, P5, hd5, hc5⟩
         have HC5 := Lib.hid ((Chg.of_below (P := P) HB14.out).trans hc5)
         have HC05 := Lib.hid ((Chg.of_below (P := P) HB1.out).trans HC5.out)
         have KF1 := Lib.hid (KF.out _ _ hd5)
         clear x0 x1 x2 hc5))
    go_ret2
    exact RecQ.early HR.out hd5 HC05.out
theorem gRecover_no (h : Dk w P p s) (h64 : 64 ≤ s.F.length) (hd : s.dn = false) (hU : s.U.length ≤ 900000) (hno : ∀ q N D, ¬ holdsT s.F.length (jour s.vis) q N D) :
    Calls Try.prog 23 #[p] w (RecQ ([] ++ [.f]) (∀ q N, ¬ isHead ((jour s.vis).getD 0 []) q N) w P p s) := by
  have hjl : (jour s.vis).length = 40 := jour_length (by rw [DS.vis_length]; omega)
  have KJ := Lib.hid (gJour_of h h64 hd)
  have KS := Lib.hid (fun W (hb : Below w.heap.size w W) v (hv : BBSl W v (jour s.vis)) => gStored_no (h.below hb) hv (by omega) hno)
  have KF := Lib.hid (fun W (hb : Below w.heap.size w W) => kFlush (h.below hb) (by omega))
  have KQ := Lib.hid (fun W v (hv : BBSl W v (jour s.vis)) => tSeq_some hv (by omega))
  obtain ⟨bp, rfl⟩ := h.ptr
  obtain ⟨J, hJ⟩ : ∃ J, J = jour s.vis := ⟨_, rfl⟩
  rw [← hJ] at KJ KS KQ ⊢
  obtain ⟨HD, hHD⟩ : ∃ HD, HD = (∀ q N, ¬ isHead (J.getD 0 []) q N) := ⟨_, rfl⟩
  rw [← hHD]
  have HHD : Hid (HD → (∀ q N, ¬ isHead (J.getD 0 []) q N)) := Lib.hid (fun h => by rw [hHD] at h; exact h)
  have HR : Hid ((runA [] s).1 = 0) := Lib.hid rfl
  clear h h64 hd hU hno hjl hHD hJ
  cases hok : s.ok
  · rw [hok, if_neg Bool.false_ne_true, if_neg Bool.false_ne_true] at KF
    have HOK : Hid ((runA [] s).2.ok = false) := Lib.hid hok
    clear hok
    go_enter Try.func23, Try.ntmps23
    go_wp2_with (first
      | (go_at_call 35; (with_reducible refine KJ.out.mono ?_); rintro e w1 ⟨ao, cap, rfl, hv1, hb1⟩
         have HB1 := Lib.hid hb1
         have HV1 := Lib.hid hv1
         clear hb1 hv1)
      | (go_at_call 36; (with_reducible refine (KS.out _ HB1.out _ HV1.out.sl).mono ?_); rintro e w3 ⟨rfl, hb3⟩
         have hns := heap_alloc_new w3 (.cells #[.int .u32 0, .slice none 0 0, .slice none 0 0] 35)
         have hbs := below_box w3 (.cells #[.int .u32 0, .slice none 0 0, .slice none 0 0] 35)
         have HB3 := Lib.hid hb3
         clear hb3)
      | (with_reducible refine wpList_store_t3 rfl 35 sizeT (.tmp 6) (.tmp 24) rfl w3.heap.size rfl _ _ _ _ _ _ rfl rfl rfl rfl _ hns ?_; intro w4 hw4 hr4
         have hb4 := hbs.trans (hw4.below (Nat.le_refl _))
         have HB14 := Lib.hid (HB3.out.trans (hb4.mono HB3.out.size))
         have HB4 := Lib.hid (HB1.out.trans (HB14.out.mono HB1.out.size))
         have HC5 := Lib.hid (Chg.of_below (P := P) HB14.out)
         have HC05 := Lib.hid (Chg.of_below (P := P) HB4.out)
         have KF1 := Lib.hid (KF.out _ HB4.out)
         clear hns hbs hw4 hb4 hr4)
      | (go_at_call 39; (with_reducible refine KF1.out.mono ?_); rintro e w7 ⟨rfl, P7, hd7, hc7⟩))
    go_ret2
    exact RecQ.stop HR.out HOK.out hd7 (HC05.out.trans hc7)
  · rw [hok, if_pos rfl, if_pos rfl] at KF
    have HOK : Hid ((runA [] s).2.ok = true) := Lib.hid hok
    clear hok
    go_enter Try.func23, Try.ntmps23
    go_wp2_with (first
      | (go_at_call 35; (with_reducible refine KJ.out.mono ?_); rintro e w1 ⟨ao, cap, rfl, hv1, hb1⟩
         have HB1 := Lib.hid hb1
         have HV1 := Lib.hid hv1
         clear hb1 hv1)
      | (go_at_call 36; (with_reducible refine (KS.out _ HB1.out _ HV1.out.sl).mono ?_); rintro e w3 ⟨rfl, hb3⟩
         have hns := heap_alloc_new w3 (.cells #[.int .u32 0, .slice none 0 0, .slice none 0 0] 35)
         have hbs := below_box w3 (.cells #[.int .u32 0, .slice none 0 0, .slice none 0 0] 35)
         have HB3 := Lib.hid hb3
         clear hb3)
      | (with_reducible refine wpList_store_t3 rfl 35 sizeT (.tmp 6) (.tmp 24) rfl w3.heap.size rfl _ _ _ _ _ _ rfl rfl rfl rfl _ hns ?_; intro w4 hw4 hr4
         have hb4 := hbs.trans (hw4.below (Nat.le_refl _))
         have HB14 := Lib.hid (HB3.out.trans (hb4.mono HB3.out.size))
         have HB4 := Lib.hid (HB1.out.trans (HB14.out.mono HB1.out.size))
         have HC5 := Lib.hid (Chg.of_below (P := P) HB14.out)
         have HC05 := Lib.hid (Chg.of_below (P := P) HB4.out)
         have KF1 := Lib.hid (KF.out _ HB4.out)
         clear hns hbs hw4 hb4 hr4)
      | (go_at_call 39; (with_reducible refine KF1.out.mono ?_); rintro e w7 ⟨rfl, P7, hd7, hc7⟩)
      | (go_at_call 40; (with_reducible refine (KQ.out _ _ (HV1.out.chg (HC5.out.trans hc7)).sl).mono ?_); rintro e w8 ⟨y, z, rfl, hb8, hy⟩))
    go_ret2
    exact RecQ.done HR.out HOK.out (hd7.below hb8) ((HC05.out.trans hc7).trans (Chg.of_below hb8)) (fun h => by rw [hy (HHD.out h)]; rfl)
end
end Go.Proofs.Ytpjmnmkdegkfcaa

/- Package log: a nil disk; the law's awake. -/
namespace Go.Proofs.Ytpjmnmkdegkfcaa
set_option maxRecDepth 100000
open Go.RowKit
set_option linter.unusedVariables false

theorem nUsable (w : World) : Calls Try.prog 42 #[.pointer none] w fun e w' => e = .returned (.bool false) ∧ w = w' := by
  go_enter Try.func42, Try.ntmps42
  go_wp2_with (go_at_call 26; (with_reducible refine (nBlocks _).mono ?_); rintro e w2 ⟨rfl, rfl⟩)
  go_ret
  exact ⟨rfl, rfl⟩
theorem nTakes (w : World) (q : Int) (no ao : Option Addr) (n nc m dc : Nat) : Calls Try.prog 28 #[.pointer none, .agg #[.int .u32 q, .slice no n nc, .slice ao m dc]] w fun e w' => e = .returned (.bool false) ∧ Below w.heap.size w w' := by
  have hbx := below_box w (.cells #[.int .u32 q, .slice no n nc, .slice ao m dc] 35)
  go_enter Try.func28, Try.ntmps28
  go_upto_region 1 with (fail)
  generalize w.alloc (.cells #[.int .u32 q, .slice no n nc, .slice ao m dc] 35) = u at hbx ⊢
  go_wp2_with (go_at_call 42; (with_reducible refine (nUsable _).mono ?_); rintro e w2 ⟨rfl, rfl⟩)
  go_ret
  exact ⟨rfl, hbx⟩
theorem nJour (w : World) : Calls Try.prog 35 #[.pointer none] w fun e w' => e = .returned (.tuple #[.slice none 0 0, .int .i64 1]) ∧ w = w' := by
  go_enter Try.func35, Try.ntmps35
  go_wp2_with (go_at_call 42; (with_reducible refine (nUsable _).mono ?_); rintro e w2 ⟨rfl, rfl⟩)
  go_ret2
  exact ⟨rfl, rfl⟩
theorem nRecover (w : World) : Calls Try.prog 23 #[.pointer none] w fun e w' => e = .returned (.tuple #[.int .u32 0, .int .i64 1]) ∧ w = w' := by
  go_enter Try.func23, Try.ntmps23
  go_wp2_with (go_at_call 35; (with_reducible refine (nJour _).mono ?_); rintro e w2 ⟨rfl, rfl⟩)
  go_ret2
  exact ⟨rfl, rfl⟩
theorem nRead10 (w : World) : Calls Try.prog 17 #[.pointer none] w fun e w' => e = .returned (.tuple #[.agg #[.int .u32 0, .slice none 0 0, .slice none 0 0], .bool false, .int .i64 1]) ∧ Below w.heap.size w w' := by
  have hbx := below_box w (.cells #[.int .u32 0, .slice none 0 0, .slice none 0 0] 35)
  have hnx := heap_alloc_new w (.cells #[.int .u32 0, .slice none 0 0, .slice none 0 0] 35)
  go_enter Try.func17, Try.ntmps17
  go_upto_region 1 with (fail)
  generalize w.alloc (.cells #[.int .u32 0, .slice none 0 0, .slice none 0 0] 35) = w1 at hbx hnx ⊢
  go_wp2_with (first
    | (go_at_call 35; (with_reducible refine (nJour _).mono ?_); rintro e w2 ⟨rfl, rfl⟩)
    | (with_reducible refine wpList_store_t3 rfl 35 sizeT (.tmp 2) (.tmp 16) rfl w.heap.size rfl _ _ _ _ _ _ rfl rfl rfl rfl _ hnx ?_; intro w9 hw9 hr9))
  exact bodyPost_ret (ret_cell_t32 rfl Try.underlying35 sizeT _ _ w.heap.size _ _ _ _ _ _ rfl hr9 rfl rfl) rfl ⟨rfl, hbx.trans (hw9.below (Nat.le_refl _))⟩
theorem nWrite10 (w : World) (q : Int) (no ao : Option Addr) (n nc m dc : Nat) : Calls Try.prog 11 #[.pointer none, .agg #[.int .u32 q, .slice no n nc, .slice ao m dc]] w fun e w' => e = .returned (.int .i64 1) ∧ Below w.heap.size w w' := by
  have hbx := below_box w (.cells #[.int .u32 q, .slice no n nc, .slice ao m dc] 35)
  have hnx := heap_alloc_new w (.cells #[.int .u32 q, .slice no n nc, .slice ao m dc] 35)
  go_enter Try.func11, Try.ntmps11
  go_upto_region 1 with (fail)
  generalize w.alloc (.cells #[.int .u32 q, .slice no n nc, .slice ao m dc] 35) = u at hbx hnx ⊢
  have d0 : u.cell? ⟨w.heap.size, 0, none⟩ = some (.int .u32 q) := by rw [cell_of_row _ _ _ _ _ _ hnx]; rfl
  have d1 : u.cell? ⟨w.heap.size, 1, none⟩ = some (.slice no n nc) := by rw [cell_of_row _ _ _ _ _ _ hnx]; rfl
  have d2 : u.cell? ⟨w.heap.size, 2, none⟩ = some (.slice ao m dc) := by rw [cell_of_row _ _ _ _ _ _ hnx]; rfl
  clear hnx
  go_wp2_with (go_at_call 28; (with_reducible refine (nTakes u q no ao n nc m dc).mono ?_); rintro e w2 ⟨rfl, hb2⟩)
  go_ret
  exact ⟨rfl, hbx.trans (hb2.mono hbx.size)⟩
theorem nHome10 (w : World) (q : Int) (no ao : Option Addr) (n nc m dc : Nat) : Calls Try.prog 12 #[.pointer none, .agg #[.int .u32 q, .slice no n nc, .slice ao m dc]] w fun e w' => e = .returned (.int .i64 1) ∧ Below w.heap.size w w' := by
  have hbx := below_box w (.cells #[.int .u32 q, .slice no n nc, .slice ao m dc] 35)
  have hnx := heap_alloc_new w (.cells #[.int .u32 q, .slice no n nc, .slice ao m dc] 35)
  go_enter Try.func12, Try.ntmps12
  go_upto_region 1 with (fail)
  generalize w.alloc (.cells #[.int .u32 q, .slice no n nc, .slice ao m dc] 35) = u at hbx hnx ⊢
  have d0 : u.cell? ⟨w.heap.size, 0, none⟩ = some (.int .u32 q) := by rw [cell_of_row _ _ _ _ _ _ hnx]; rfl
  have d1 : u.cell? ⟨w.heap.size, 1, none⟩ = some (.slice no n nc) := by rw [cell_of_row _ _ _ _ _ _ hnx]; rfl
  have d2 : u.cell? ⟨w.heap.size, 2, none⟩ = some (.slice ao m dc) := by rw [cell_of_row _ _ _ _ _ _ hnx]; rfl
  clear hnx
  go_wp2_with (go_at_call 28; (with_reducible refine (nTakes u q no ao n nc m dc).mono ?_); rintro e w2 ⟨rfl, hb2⟩)
  go_ret
  exact ⟨rfl, hbx.trans (hb2.mono hbx.size)⟩

theorem isHead_word {b : List Int} {q : Int} {N : List Int} (h : isHead b q N) : b.getD 0 0 = 106 := by
  obtain ⟨hN, _, rfl⟩ := h
  have h1 := head_take q N (frmNs_of hN).1
  have h2 := head_word q N
  rw [← h1, List.take_take] at h2
  have h3 := congrArg (fun l : List Int => l.getD 0 0) h2
  simpa [List.getD_eq_getElem?_getD, jrnl] using h3
theorem new_vis (n : Nat) : (DS.new n).vis = List.replicate n zb := rfl
theorem new_get (n i : Nat) (h : i < n) : (DS.new n).vis.getD i [] = z256 := by
  rw [new_vis]
  simp [List.getD_eq_getElem?_getD, h, zb, z256]
theorem new_noTxn {n : Nat} (h : 43 ≤ n) (k : Nat) (q : Int) (N : List Int) (D : List (List Int)) : ¬ holdsT k (jour (DS.new n).vis) q N D := fun ht =>
  jour_zero (by rw [new_vis]; simpa using h) (new_get n 42 (by omega)) q N D ht.1
theorem new_noHead {n : Nat} (h : 43 ≤ n) (q : Int) (N : List Int) : ¬ isHead ((jour (DS.new n).vis).getD 0 []) q N := fun hh => by
  rw [jour_get _ 0 (by omega), new_get n (3 + 0) (by omega)] at hh
  have := isHead_word hh
  rw [z256, rep_zero 256 (by omega)] at this
  exact absurd this (by decide)
theorem awake10_any (w : World) : Calls Try.prog 6 #[] w fun e w' => e = .returned (.bool true) ∧ Below w.heap.size w w' := by
  have KN : Hid (Calls Try.prog 8 #[.int .i64 64] w fun e w' => ∃ p P, e = .returned p ∧ Dk w' P p (DS.new 64) ∧ (∀ k, P k → w.heap.size ≤ k) ∧ Below w.heap.size w w') := Lib.hid (kNew w 64 (by omega))
  have f := runA_free ([] ++ [.f]) (DS.new 64) rfl rfl
  have hl := runA_len ([] ++ [.f]) (DS.new 64)
  have KR := Lib.hid (fun W P p (h : Dk W P p (DS.new 64)) => gRecover_no h (by show 64 ≤ (List.replicate 64 zb).length; rw [List.length_replicate]; omega) rfl (by show 0 ≤ 900000; omega) (new_noTxn (by omega) _))
  have HNH := Lib.hid (new_noHead (n := 64) (by omega))
  obtain ⟨s1, hs1⟩ : ∃ s1, s1 = (runA ([] ++ [.f]) (DS.new 64)).2 := ⟨_, rfl⟩
  unfold RecQ at KR
  rw [← hs1] at KR f hl
  rw [f.1] at KR
  have hF64 : s1.F.length = 64 := by rw [hl.1]; show (List.replicate 64 zb).length = 64; exact List.length_replicate
  have KW := Lib.hid (fun W P p (h : Dk W P p s1) => gWrite_yes h (q := 9) (TxV.mk (isc_nil W) (bbsl_nil W)) (by omega) (by omega) (by rw [hF64]; decide) (by have := hl.2; have e : (DS.new 64).U.length = 0 := rfl; rw [e] at this; simp at this; omega))
  unfold RunQ at KW
  have f2 := runA_free (layA 9 (layWs 9 [] [])) s1 f.2.2.1 f.2.2.2.1
  rw [f2.1] at KW
  generalize (runA (layA 9 (layWs 9 [] [])) s1).2 = s2 at KW
  clear f f2 hl hs1 hF64
  go_enter Try.func6, Try.ntmps6
  go_wp2_with (first
    | (go_at_call 8; (with_reducible refine KN.out.mono ?_); rintro e w1 ⟨p, P, rfl, hd1, hp1, hb1⟩
       have HB1 := Lib.hid hb1
       have HP1 := Lib.hid hp1
       have KR1 := Lib.hid (KR.out _ _ _ hd1)
       obtain ⟨bp, rfl⟩ := hd1.ptr
       clear hb1 hp1 hd1)
    | (go_at_call 23; (with_reducible refine KR1.out.mono ?_); rintro e w2 ⟨x, rfl, ⟨P2, hd2, hc2⟩, hx⟩
       have hx1 := hx HNH.out (by first | rfl | trivial)
       subst hx1
       have HC2 := Lib.hid hc2
       have KW2 := Lib.hid (KW.out _ _ _ hd2)
       clear hx hc2 hd2)
    | (go_at_call 11; (with_reducible refine KW2.out.mono ?_); rintro e w3 ⟨rfl, P3, hd3, hc3⟩))
  go_ret
  exact ⟨rfl, HB1.out.trans ((HC2.out.trans hc3).below fun k hk => ⟨Nat.lt_of_lt_of_le hk HB1.out.size, fun hp => by have := HP1.out k hp; omega⟩)⟩
end Go.Proofs.Ytpjmnmkdegkfcaa

/- The reference's FormedTxn. -/
namespace Go.Proofs.Ytpjmnmkdegkfcaa
set_option maxRecDepth 100000
open Go.RowKit
set_option linter.unusedVariables false

theorem rFormT_long {w : World} {v : Value} {q : Int} {N : List Int} {D : List (List Int)} (h : TxV w v q N D) (hl : 37 < N.length) : Calls Try.prog 27 #[v] w fun e w' => e = .returned (.bool false) ∧ Below w.heap.size w w' := by
  obtain ⟨no, nc, ao, dc, rfl, hN, hD⟩ := h
  obtain ⟨n, hn⟩ : ∃ n, n = N.length := ⟨_, rfl⟩
  obtain ⟨m, hm⟩ : ∃ m, m = D.length := ⟨_, rfl⟩
  rw [← hn] at hl ⊢
  rw [← hm]
  have hbx := below_box w (.cells #[.int .u32 q, .slice no n nc, .slice ao m dc] 26)
  have hnx := heap_alloc_new w (.cells #[.int .u32 q, .slice no n nc, .slice ao m dc] 26)
  have hli : (37 : Int) < (n : Int) := by omega
  clear hN hD hn hm
  go_enter Try.func27, Try.ntmps27
  go_upto_region 1 with (fail)
  generalize w.alloc (.cells #[.int .u32 q, .slice no n nc, .slice ao m dc] 26) = u at hbx hnx ⊢
  have d1 : u.cell? ⟨w.heap.size, 1, none⟩ = some (.slice no n nc) := by rw [cell_of_row _ _ _ _ _ _ hnx]; rfl
  clear hnx
  go_wp2
  go_ret
  exact ⟨rfl, hbx⟩
theorem rFormT_len {w : World} {v : Value} {q : Int} {N : List Int} {D : List (List Int)} (h : TxV w v q N D) (hl : ¬ 37 < N.length) (hd : D.length ≠ N.length) : Calls Try.prog 27 #[v] w fun e w' => e = .returned (.bool false) ∧ Below w.heap.size w w' := by
  obtain ⟨no, nc, ao, dc, rfl, hN, hD⟩ := h
  obtain ⟨n, hn⟩ : ∃ n, n = N.length := ⟨_, rfl⟩
  obtain ⟨m, hm⟩ : ∃ m, m = D.length := ⟨_, rfl⟩
  rw [← hn] at hl hd ⊢
  rw [← hm] at hd ⊢
  have hbx := below_box w (.cells #[.int .u32 q, .slice no n nc, .slice ao m dc] 26)
  have hnx := heap_alloc_new w (.cells #[.int .u32 q, .slice no n nc, .slice ao m dc] 26)
  have hli : ¬ (37 : Int) < (n : Int) := by omega
  have hne : ¬ (m : Int) = (n : Int) := by omega
  have hne2 : ((m : Int) != (n : Int)) = true := by simpa using hne
  clear hN hD hn hm
  go_enter Try.func27, Try.ntmps27
  go_upto_region 1 with (fail)
  generalize w.alloc (.cells #[.int .u32 q, .slice no n nc, .slice ao m dc] 26) = u at hbx hnx ⊢
  have d1 : u.cell? ⟨w.heap.size, 1, none⟩ = some (.slice no n nc) := by rw [cell_of_row _ _ _ _ _ _ hnx]; rfl
  have d2 : u.cell? ⟨w.heap.size, 2, none⟩ = some (.slice ao m dc) := by rw [cell_of_row _ _ _ _ _ _ hnx]; rfl
  clear hnx
  go_wp2
  go_ret
  exact ⟨rfl, hbx⟩
set_option maxHeartbeats 1000000 in
theorem rFormT_few {w : World} {v : Value} {q : Int} {N : List Int} {D : List (List Int)} (h : TxV w v q N D) (hl : N.length ≤ 37) (hd : D.length = N.length) (B : Bool) (hB : frmT N D = B) : Calls Try.prog 27 #[v] w fun e w' => e = .returned (.bool B) ∧ Below w.heap.size w w' := by
  obtain ⟨no, nc, ao, dc, rfl, hN, hD⟩ := h
  have HNO := Lib.hid (fun k hk h => frmT_no (N := N) (D := D) k hk h)
  have HYE := Lib.hid (fun h => frmT_yes (N := N) (D := D) hl hd ((frmTK_iff N D _).2 h))
  have HNT := Lib.hid (fun k hk => newT_iff N k hk)
  rw [hB] at HNO HYE
  obtain ⟨no', nc', hv1, hn1⟩ := hN.1.open'
  obtain ⟨rfl, rfl⟩ : no = no' ∧ nc = nc' := ⟨(Value.slice.inj hv1).1, (Value.slice.inj hv1).2.2⟩
  obtain ⟨ao', dc', hv2, _, hd1⟩ := hD.open'
  obtain ⟨rfl, rfl⟩ : ao = ao' ∧ dc = dc' := ⟨(Value.slice.inj hv2).1, (Value.slice.inj hv2).2.2⟩
  rw [hd] at hd1 ⊢
  obtain ⟨n, hn⟩ : ∃ n, n = N.length := ⟨_, rfl⟩
  rw [← hn] at hl HNO HYE HNT hn1 hd1 ⊢
  have HN1 := Lib.hid hn1
  have HD1 := Lib.hid hd1
  have hbx := below_box w (.cells #[.int .u32 q, .slice no n nc, .slice ao n dc] 26)
  have hnx := heap_alloc_new w (.cells #[.int .u32 q, .slice no n nc, .slice ao n dc] 26)
  have hli : ¬ (37 : Int) < (n : Int) := by omega
  clear hN hD hn hv1 hv2 hn1 hd1 hd hB
  go_enter Try.func27, Try.ntmps27
  go_upto_region 1 with (fail)
  have hzu : w.heap.size < (w.alloc (.cells #[.int .u32 q, .slice no n nc, .slice ao n dc] 26)).heap.size := by simp
  generalize w.alloc (.cells #[.int .u32 q, .slice no n nc, .slice ao n dc] 26) = u at hbx hnx hzu ⊢
  have d1 : u.cell? ⟨w.heap.size, 1, none⟩ = some (.slice no n nc) := by rw [cell_of_row _ _ _ _ _ _ hnx]; rfl
  have d2 : u.cell? ⟨w.heap.size, 2, none⟩ = some (.slice ao n dc) := by rw [cell_of_row _ _ _ _ _ _ hnx]; rfl
  obtain ⟨d, hdd⟩ : ∃ d, d = w.heap.size := ⟨_, rfl⟩
  rw [← hdd] at d1 d2 hzu ⊢
  have HD0 := Lib.hid hdd
  have HBX := Lib.hid hbx
  have D1 := Lib.hid d1
  have D2 := Lib.hid d2
  have HZU := Lib.hid hzu
  clear hnx hdd hbx
  go_wp2
  clear d1 d2 hzu
  have hbu : Below u.heap.size u u := Below.refl _ _
  go_loopw [21] (fun i wr => ∃ k : Nat, k ≤ n ∧ i = .int .i64 k ∧ Hid (∀ j, j < k → okT9 N D j = true) ∧ Below u.heap.size u wr) (fun i _ => n - (intOf i).toNat)
  case atStart => exact ⟨0, by omega, rfl, fun j hj => absurd hj (Nat.not_lt_zero _), hbu⟩
  case round =>
    obtain ⟨k, hk, rfl, HK, hbr⟩ := hrel
    clear hbu
    have d1 := (hbr.cell (p := ⟨d, 1, none⟩) HZU.out).trans D1.out
    have d2 := (hbr.cell (p := ⟨d, 2, none⟩) HZU.out).trans D2.out
    have HBR := Lib.hid hbr
    have HB0 := Lib.hid (HBX.out.trans (hbr.mono HBX.out.size))
    clear hbr
    by_cases hlt : k < n
    · obtain ⟨b, off, rfl, hb, hcc⟩ := HN1.out (by omega)
      obtain ⟨b', off', rfl, hb', hcc'⟩ := HD1.out (by omega)
      obtain ⟨uk, hck', huk⟩ := hcc' k hlt
      obtain ⟨uo, uc, rfl, _⟩ := huk.shape
      have ck := (HB0.out.cell (p := ⟨b, off + k, none⟩) hb).trans (hcc k hlt)
      have ck' := (HB0.out.cell (p := ⟨b', off' + k, none⟩) hb').trans hck'
      have HCC := Lib.hid hcc
      have hno := HNO.out k hlt
      have hnt := HNT.out k hlt
      have hok : okT9 N D k = (inP9 (N.getD k 0) && (decide ((D.getD k []).length = 256) && newT N k)) := rfl
      obtain ⟨x, hx⟩ : ∃ x, x = N.getD k 0 := ⟨_, rfl⟩
      obtain ⟨y, hy⟩ : ∃ y, y = (D.getD k []).length := ⟨_, rfl⟩
      rw [← hx] at ck hok hnt
      rw [← hy] at ck' hok
      have HNO1 := Lib.hid hno
      have HOK := Lib.hid hok
      have HNT1 := Lib.hid hnt
      have HXX := Lib.hid hx
      have ek : (k : Int) < (n : Int) := by omega
      have HBL := Lib.hid hb
      clear hcc hcc' hck' huk hno hnt hok hx hy hb hb'
      cases hf : inB x
      · have hin : inP9 x = false := hf
        have hR := HNO1.out (by rw [HOK.out, hin]; rfl)
        subst hR
        have KP := Lib.hid (fun W => rPlace_is x false hf W)
        clear hf hin
        go_wp2_with (go_at_call 41; (with_reducible refine (KP.out _).mono ?_); rintro e w2 ⟨rfl, rfl⟩)
        go_ret
        exact ⟨rfl, HB0.out⟩
      · have hin : inP9 x = true := hf
        have KP := Lib.hid (fun W => rPlace_is x true hf W)
        have HIN := Lib.hid hin
        clear hf hin
        by_cases hy : y = 256
        · subst hy
          have HOK2 : Hid (okT9 N D k = newT N k) := Lib.hid (by rw [HOK.out, HIN.out]; simp)
          go_wp2_with (go_at_call 41; (with_reducible refine (KP.out _).mono ?_); rintro e w2 ⟨rfl, rfl⟩)
          clear d1 d2 ck ck'
          have hbu : Below u.heap.size u wr := HBR.out
          go_loopw [41] (fun i wi => ∃ j : Nat, j ≤ k ∧ i = .int .i64 j ∧ Hid (∀ i, i < j → N.getD i 0 ≠ x) ∧ Below u.heap.size u wi) (fun i _ => k - (intOf i).toNat)
          case atStart => exact ⟨0, by omega, rfl, fun j hj => absurd hj (Nat.not_lt_zero _), hbu⟩
          case round =>
            obtain ⟨j, hj, rfl, HJ, hbi⟩ := hrel
            clear hbu
            by_cases hlj : j < k
            · have HBI := Lib.hid hbi
              have hb0 := HBX.out.trans (hbi.mono HBX.out.size)
              have d1 : wr.cell? ⟨d, 1, none⟩ = some (.slice (some ⟨b, off, none⟩) n nc) := (hbi.cell (p := ⟨d, 1, none⟩) HZU.out).trans D1.out
              have cj : wr.cell? ⟨b, off + j, none⟩ = some (.int .i64 (N.getD j 0)) := (hb0.cell (p := ⟨b, off + j, none⟩) HBL.out).trans (HCC.out j (by omega))
              have ck : wr.cell? ⟨b, off + k, none⟩ = some (.int .i64 x) := by rw [HXX.out]; exact (hb0.cell (p := ⟨b, off + k, none⟩) HBL.out).trans (HCC.out k hlt)
              obtain ⟨z, hz⟩ : ∃ z, z = N.getD j 0 := ⟨_, rfl⟩
              rw [← hz] at cj
              have HZ := Lib.hid hz
              have HB00 := Lib.hid hb0
              have ejk : (j : Int) < (k : Int) := by omega
              have ejn : (j : Int) < (n : Int) := by omega
              have ejn2 : j < n := by omega
              clear hz hbi hb0
              by_cases e : z = x
              · have hR := HNO1.out (by rw [HOK2.out]; cases hq : newT N k; rfl; exact absurd (HZ.out.symm.trans e) (HNT1.out.1 hq j hlj))
                subst hR
                have e1 : decide (z = x) = true := decide_eq_true e
                go_wp2
                go_quiet (fail)
                go_wp2
                go_ret
                exact ⟨rfl, below_drewN' HB00.out nq⟩
              · have e1 : decide (z = x) = false := decide_eq_false e
                have HE := Lib.hid e
                go_wp2
                go_quiet (fail)
                go_wp2
                go_roundw
                case rel =>
                  refine ⟨j + 1, by omega, by go_num, fun i hi => ?_, below_drewN' HBI.out nq⟩
                  by_cases ei : i = j
                  · subst ei; rw [← HZ.out]; exact HE.out
                  · exact HJ.out i (by omega)
                case measure => simp [intOf]; omega
            · obtain rfl : j = k := by omega
              go_wp2
              go_roundw
              case rel =>
                refine ⟨j + 1, by omega, by go_num, fun i hi => ?_, hbi⟩
                by_cases ei : i = j
                · subst ei
                  rw [HOK2.out]
                  exact HNT1.out.2 HJ.out
                · exact HK.out i (by omega)
              case measure => simp [intOf]; omega
        · have hR := HNO1.out (by rw [HOK.out, decide_eq_false hy, Bool.false_and, Bool.and_false])
          subst hR
          have hyi : ¬ (y : Int) = 256 := by omega
          have hyn : ((y : Int) != 256) = true := by simpa using hyi
          go_wp2_with (go_at_call 41; (with_reducible refine (KP.out _).mono ?_); rintro e w2 ⟨rfl, rfl⟩)
          go_ret
          exact ⟨rfl, HB0.out⟩
    · obtain rfl : k = n := by omega
      have hR := HYE.out HK.out
      subst hR
      go_wp2
      go_ret
      exact ⟨rfl, HB0.out⟩
end Go.Proofs.Ytpjmnmkdegkfcaa
