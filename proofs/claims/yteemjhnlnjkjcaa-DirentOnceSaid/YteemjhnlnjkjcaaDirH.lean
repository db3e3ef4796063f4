/- The reference's Read. -/
import Derived.Test.YteemjhnlnjkjcaaDirG
import Derived.Deep.Cut
import Derived.Deep.RegionWith
namespace Go.Proofs.Yteemjhnlnjkjcaa
open Go.RowKit
set_option linter.unusedVariables false

theorem getV2_le8 {c : List Int} (h : ∀ x ∈ c, 0 ≤ x ∧ x ≤ 255) (a : Nat) : 0 ≤ getV c a 2 ∧ getV c a 2 ≤ 65535 := by
  have h1 := getV_bound h a 2
  have e : (256 : Int) ^ 2 = 65536 := rfl
  rw [e] at h1
  omega
theorem rTwoW8 {w : World} {v : Value} {c : List Int} (hs : BSl w v c) (hc : c.length ≤ 100000) (a : Nat) (A : Int) (hA : A = a) (ha : a + 2 ≤ c.length) (y : Int) (hy : y = getV c a 2) : Calls Try.prog 28 #[v, .int .i64 A] w fun e w' => e = .returned (.int .i64 y) ∧ w = w' := by
  have hb := getV2_le8 (byt_mem hs.1) a
  have HG := Lib.hid (rGetW8 hs hc a 2 A 2 hA rfl (by omega) (by omega) ha y hy)
  rw [← hy] at hb
  clear hs hc ha hy hA
  go_enter Try.func28, Try.ntmps28
  go_wp2_with (go_at_call 32; refine HG.out.mono ?_; rintro e w' ⟨rfl, rfl⟩)
  go_ret
  exact ⟨rfl, rfl⟩
theorem take_getD {c : List Int} (j n : Nat) (h : j < n) : (c.take n).getD j 0 = c.getD j 0 := by
  simp [List.getD_eq_getElem?_getD, List.getElem?_take, h]
/-- What sixteen bytes say, read off a longer list. -/
theorem rdE_take {c : List Int} (h : (c.take 16).getD 2 0 ≤ 13) : rdE (c.take 16) = (getV c 0 2, strOfNums ((c.drop 3).take (c.getD 2 0).toNat)) := by
  rw [take_getD 2 16 (by omega)] at h
  unfold rdE
  rw [take_getD 2 16 (by omega)]
  congr 1
  · unfold getV
    rw [List.drop_zero, List.drop_zero, List.take_take, Nat.min_eq_left (by omega)]
  · rw [List.drop_take, List.take_take, Nat.min_eq_left (by omega)]
theorem rReadE_long {w : World} {v : Value} {c : List Int} (hs : BSl w v c) (hc : 16 ≤ c.length) (h : 13 < c.getD 2 0) :
    Calls Try.prog 23 #[v] w fun e w' => (∃ i s, e = .returned (.tuple #[.agg #[.int .i64 i, .string s], .bool false])) ∧ Below w.heap.size w w' := by
  have hy0 := hs.1 2
  obtain ⟨b, off, cap, rfl, hcap, hb⟩ := hs.open' (by omega)
  have hb1 := below_box w (.cells #[.int .i64 0, .string ⟨#[]⟩] 34)
  have hh1 := heap_alloc_new w (.cells #[.int .i64 0, .string ⟨#[]⟩] 34)
  have hc2 : (w.alloc (.cells #[.int .i64 0, .string ⟨#[]⟩] 34)).cell? ⟨b, off + 2, none⟩ = some (.int .u8 (c.getD 2 0)) := by
    rw [hb1.cell (p := ⟨b, off + 2, none⟩) hb]
    rcases hs.2 with ⟨hv, _⟩ | ⟨a', c', hv, _, hcc⟩
    · simp at hv
    · obtain ⟨rfl, rfl⟩ : a' = ⟨b, off, none⟩ ∧ cap = c' := ⟨(Option.some.inj (Value.slice.inj hv).1).symm, (Value.slice.inj hv).2.2⟩
      exact (hcc 2 (by omega)).2.2
  obtain ⟨y, hy⟩ : ∃ y, y = c.getD 2 0 := ⟨_, rfl⟩
  rw [← hy] at hc2 h hy0
  obtain ⟨N, hN⟩ : ∃ N, N = c.length := ⟨_, rfl⟩
  rw [← hN] at hcap hc ⊢
  have h2 : (2 : Nat) < N := by omega
  have h2i : (2 : Int) < (N : Int) := by omega
  have u1 := Try.underlying34
  have hwn : IntKind.i64.wrap y = y := IntWalk.i64_in _ (by omega)
  clear hs hy hN
  go_enter Try.func23, Try.ntmps23
  go_wp2_with (with_reducible refine wpList_store_e2 rfl 34 sizeRE (.tmp 2) (.tmp 12) rfl w.heap.size rfl _ _ _ _ rfl rfl rfl _ hh1 ?_; intro w3 hw3 hr3)
  exact bodyPost_ret (ret_cell_e2 rfl Try.underlying34 sizeRE _ _ w.heap.size _ _ _ _ rfl hr3 rfl) rfl ⟨⟨_, _, rfl⟩, hb1.trans (hw3.below (Nat.le_refl _))⟩
/-- In a region that draws its order, S may be strengthened on the way. -/
theorem wpAnyH_more {P : Program} {md : Region.Mode} {ops : Array Oper} {Q : Exit → Act → World → Prop} {S S' : World → Prop} (h : ∀ w, S' w → S w) : ∀ (fuel : Nat) (listed : Array Bool) (a : Act) (w : World), wpAnyH P md ops Q S' fuel listed a w → wpAnyH P md ops Q S fuel listed a w
  | 0, _, _, _, h0 => h0
  | fuel + 1, _, _, _, h0 => ⟨h0.1, fun i hi => wpOp_mono (fun a' w' h' => ⟨h _ h'.1, wpAnyH_more h fuel _ a' w' h'.2⟩) (h0.2 i hi)⟩
theorem OB.wrote {w w' : World} {B g : Nat} {v : Value} {l : List Int} (h : OB w B v l) (hw : Wrote w w' g) (hg : g < B) : OB w' B v l := by
  refine ⟨h.1, h.2.1, ?_⟩
  rcases h.2.2 with h | ⟨g', cap, cur, hv, hg', hh, r⟩
  · exact .inl h
  · exact .inr ⟨g', cap, cur, hv, hg', by rw [hw.2.2.2.2 g' (by omega)]; exact hh, r⟩
/-- A store of an entry, as one step of a region that draws. -/
theorem step_store_e2 {ops : Array Oper} {o : Oper} {a : Act} {w : World} {K : Act → World → Prop} {Q : Exit → Act → World → Prop} {E : Prop} (hgd : o.guard = none) (ty : TypeId) (hi : (Try.prog.info? ty).map (·.size) = some 2) (x y : Operand) (ho : o.op = .store ty x y)
    (g : Nat) (hx : a.eval x = .pointer (some ⟨g, 0, none⟩)) (p q p' q' : Value) (hy : a.eval y = .agg #[p, q]) (hp : p.oneCell' = true) (hq : q.oneCell' = true) (T : TypeId) (hg : w.heap[g]? = some (.cells #[p', q'] T (0, 0)))
    (h : ∀ w', Wrote w w' g → w'.heap[g]? = some (.cells #[p, q] T (0, 0)) → K (a.put o.dst undef) w') :
    if Region.wanted o (yielded ops a.tmps) = true then Oper.wp Try.prog o a w K Q else E := by
  have hw : Region.wanted o (yielded ops a.tmps) = true := by simp [Region.wanted, hgd]
  rw [if_pos hw]
  exact wp_store_row ty x y ho g #[p, q] hx hy T _ hg hi rfl (by simp [hp, hq]) (h _ (Wrote.setRow _ _ _) (setRow_heap _ _ _ _ _ _ hg))
theorem slice_16 (b off N cap : Nat) (h : 16 ≤ cap) (W : World) : (Instr.slice 24 (.slice (some ⟨b, off, none⟩) N cap) none (some (.int .i64 16)) none).run Try.prog W = .ok (.slice (some ⟨b, off, none⟩) 16 cap) W := by
  obtain ⟨i, g2, g3, g4, g5⟩ := info_parts infoU8
  have ee : Try.prog.elem 24 = 5 := by kernel_rfl
  have hs : (sizeOf 5).run Try.prog W = .ok 1 W := by simp [sizeOf, typeInfo, g2, g4]
  rw [run_slice_h W 24 _ N cap (by rw [ee]; exact Try.underlying24) .i64 16 (by omega) (by omega), ee, hs]
  have hne : cap ≠ 0 := by omega
  simp [sliced, hne, Addr.add_lit]
theorem below_hold8 {w w1 : World} {g : Nat} {o : Obj} (h : w.heap[g]? = some o) (hb : Below w.heap.size w w1) : w1.heap[g]? = some o := (hb.block _ (Array.getElem?_eq_some_iff.1 h).1).trans h
set_option maxHeartbeats 6000000 in
theorem rReadE_short {w : World} {v : Value} {c : List Int} (hs : BSl w v c) (hc : 16 ≤ c.length) (hcM : c.length ≤ 100000) (n : Nat) (hn : c.getD 2 0 = n) (h : n ≤ 13) (x : Int) (hx : x = getV c 0 2) (S : ByteArray) (hS : S = strOfNums ((c.drop 3).take n)) (D : Bool) (hD : D = (frmE (x, S) && decide (encE (x, S) = c.take 16))) :
    Calls Try.prog 23 #[v] w fun e w' => e = .returned (.tuple #[.agg #[.int .i64 x, .string S], .bool D]) ∧ Below w.heap.size w w' := by
  obtain ⟨b, off, cap, rfl, hcap, hb⟩ := hs.open' (by omega)
  have hb1 := below_box w (.cells #[.int .i64 0, .string ⟨#[]⟩] 34)
  have hh1 := heap_alloc_new w (.cells #[.int .i64 0, .string ⟨#[]⟩] 34)
  obtain ⟨W1, hW1⟩ : ∃ W1, W1 = w.alloc (.cells #[.int .i64 0, .string ⟨#[]⟩] 34) := ⟨_, rfl⟩
  rw [← hW1] at hb1 hh1
  have H1 : Hid (w.alloc (.cells #[.int .i64 0, .string ⟨#[]⟩] 34) = W1) := Lib.hid hW1.symm
  have hs1 := hs.below hb1
  have hc2 : (w.alloc (.cells #[.int .i64 0, .string ⟨#[]⟩] 34)).cell? ⟨b, off + 2, none⟩ = some (.int .u8 (c.getD 2 0)) := by
    rw [← hW1]
    rcases hs1.2 with ⟨hv, _⟩ | ⟨a', c', hv, _, hcc⟩
    · simp at hv
    · obtain ⟨rfl, rfl⟩ : a' = ⟨b, off, none⟩ ∧ cap = c' := ⟨(Option.some.inj (Value.slice.inj hv).1).symm, (Value.slice.inj hv).2.2⟩
      exact (hcc 2 (by omega)).2.2
  rw [hn] at hc2
  have HTW := Lib.hid (fun W (hW : Below W1.heap.size W1 W) => rTwoW8 (hs1.below hW) hcM 0 0 rfl (by omega) x hx)
  have hcv : ∀ W, Below W1.heap.size W1 W → (convert 24 9 (.slice (some ⟨b, off + 3, none⟩) n (cap - 3))).run Try.prog W = .ok (.string S) W := fun W hW => by
    rw [hS]; exact conv_at (hs1.below hW) (by omega)
  have HCV := Lib.hid hcv
  have HC16 : Hid (∀ W, Below w.heap.size w W → (convert 24 9 (.slice (some ⟨b, off, none⟩) 16 cap)).run Try.prog W = .ok (.string (strOfNums (c.take 16))) W) := Lib.hid fun W hW => by
    have := conv_bsl ((hs.below hW).mid 0 16 (by omega))
    rw [Nat.add_zero, Nat.sub_zero, List.drop_zero] at this; exact this
  have HS1 := Lib.hid hs1
  obtain ⟨N, hN⟩ : ∃ N, N = c.length := ⟨_, rfl⟩
  rw [← hN] at hcap hc HTW HS1 ⊢
  have h2 : (2 : Nat) < N := by omega
  have h2i : (2 : Int) < (N : Int) := by omega
  have hni : (n : Int) ≤ 13 := by omega
  have u1 := Try.underlying34
  have hwn : IntKind.i64.wrap (n : Int) = (n : Int) := IntWalk.i64_in _ (by omega)
  clear hs hn hN hs1 hx hS hcv hcM hW1
  go_enter Try.func23, Try.ntmps23
  go_wp2
  rw [H1.out]
  clear hc2
  have b0 : Below W1.heap.size W1 W1.drew := below_drewN' (Below.refl _ _) 1
  have b1 : Below W1.heap.size W1 (W1.alloc (.cells #[.int .i64 0, .string ⟨#[]⟩] 34)).drew := below_drewN' (below_box W1 _) 1
  have hsl : ∀ W : World, (Instr.slice 24 (.slice (some ⟨b, off, none⟩) N cap) (some (.int .i64 3)) (some (.int .i64 (3 + (n : Int)))) none).run Try.prog W = .ok (.slice (some ⟨b, off + 3, none⟩) n (cap - 3)) W := fun W => by
    have := run_slice_part W b off N cap 3 (3 + n) (some (.int .i64 ((3 + n : Nat) : Int))) (.inr rfl) (by omega) (by omega) (by omega)
    have ee : Try.prog.elem 24 = 5 := by kernel_rfl
    rw [run_sliceAt_slice W 24 _ _ _ _ (by rw [ee]; exact Try.underlying24), show 3 + n - 3 = n by omega, show ((3 + n : Nat) : Int) = 3 + (n : Int) by omega] at this
    exact this
  have hadd : IntKind.i64.wrap (3 + (n : Int)) = 3 + (n : Int) := IntWalk.i64_in _ (by omega)
  have cv0 := HCV.out _ b0
  have cv1 := HCV.out _ b1
  have cvA : ∀ o, (convert 24 9 (.slice (some ⟨b, off + 3, none⟩) n (cap - 3))).run Try.prog (W1.alloc o).drew = .ok (.string S) (W1.alloc o).drew := fun o => HCV.out _ (below_drewN' (below_box W1 o) 1)
  have HWS : Hid (w.heap.size < W1.heap.size) := Lib.hid (Array.getElem?_eq_some_iff.1 hh1).1
  go_cut [5] from 13 (fun t5 wc => t5 = .pointer (some ⟨W1.heap.size, 0, none⟩) ∧ wc = (W1.alloc (.cells #[.int .i64 x, .string S] 34)).drew)
  case first =>
    go_region_held3 (fun W => (convert 24 9 (.slice (some ⟨b, off + 3, none⟩) n (cap - 3))).run Try.prog W = .ok (.string S) W) (first | exact cv0 | exact cv1 | exact cvA _) (first
      | (go_at_call 28; with_reducible refine (HTW.out _ (by assumption)).mono ?_; rintro e w' ⟨rfl, rfl⟩))
    all_goals (go_wp2_with fail; go_meet; exact ⟨rfl, rfl⟩)
  case rest =>
    obtain ⟨rfl, hwc⟩ := hcut
    have hbc : Below W1.heap.size W1 wc := by rw [hwc]; exact below_drewN' (below_box W1 _) 1
    have hhc : wc.heap[W1.heap.size]? = some (.cells #[.int .i64 x, .string S] 34 (0, 0)) := by rw [hwc]; exact heap_alloc_new W1 _
    have hr0 := below_hold8 hh1 hbc
    have k0 : wc.cell? ⟨W1.heap.size, 0, none⟩ = some (.int .i64 x) := by rw [cell_of_row _ _ _ _ _ _ hhc]; rfl
    have k1 : wc.cell? ⟨W1.heap.size, 1, none⟩ = some (.string S) := by rw [cell_of_row _ _ _ _ _ _ hhc]; rfl
    have hqc : W1.heap.size < wc.heap.size := (Array.getElem?_eq_some_iff.1 hhc).1
    obtain ⟨q, hq⟩ : ∃ q, q = W1.heap.size := ⟨_, rfl⟩
    have hgq : w.heap.size < q := by rw [hq]; exact HWS.out
    rw [← hq] at k0 k1 hqc ⊢
    have d0 : wc.drew.cell? ⟨q, 0, none⟩ = some (.int .i64 x) := k0
    have d1 : wc.drew.cell? ⟨q, 1, none⟩ = some (.string S) := k1
    have d2 := HC16.out wc.drew (below_drewN' (hb1.trans (hbc.mono hb1.size)) 1)
    have HBC := Lib.hid (below_drewN' hbc 1)
    have HR0 := Lib.hid hr0
    have hs16 := slice_16 b off N cap (by omega)
    have hgc0 : w.heap.size < wc.heap.size := by omega
    have hgc : w.heap.size < wc.drew.heap.size := hgc0
    have hqc : q < wc.drew.heap.size := hqc
    have HQ := Lib.hid hq
    clear b0 b1 cv0 cv1 cvA hsl hadd hwc hhc k0 k1 hr0 hbc HTW HCV hh1 hq
    cases hf : frmE (x, S)
    · have KF := Lib.hid (fun W => rFormE_is x S false hf W)
      have HD : Hid (D = false) := Lib.hid (by rw [hD, hf]; rfl)
      clear hD hf
      have z0 : wc.drew.heap[w.heap.size]? = some (.cells #[.int .i64 0, .string ⟨#[]⟩] 34 (0, 0)) := HR0.out
      go_wp2_with fail
      refine wp_region_held_drew (S := fun W => W.cell? ⟨q, 0, none⟩ = some (.int .i64 x) ∧ W.cell? ⟨q, 1, none⟩ = some (.string S)) (by kernel_rfl) ⟨d0, d1⟩ (fun hHeld => ?_)
      refine wpAnyH_take (i := 0) (v := .agg #[.int .i64 x, .string S]) rfl (by kernel_rfl) (by kernel_rfl) (by kernel_rfl) (fun _ _ _ h => h) (Or.inl ⟨by rfl, ?_⟩) (by assumption) ?_
      · intro W hSw
        obtain ⟨s0, s1⟩ := hSw
        go_simp
      simp only [Act.put, List.setIfInBounds_toArray, List.set_cons_zero, List.set_cons_succ, List.getElem_toArray, List.getElem_cons_zero, List.getElem_cons_succ]
      refine wpAnyH_take (i := 1) (v := .agg #[.int .i64 x, .string S]) rfl (by kernel_rfl) (by kernel_rfl) (by kernel_rfl) (fun _ _ _ h => h) (Or.inl ⟨by rfl, ?_⟩) (by assumption) ?_
      · intro W hSw
        obtain ⟨s0, s1⟩ := hSw
        go_simp
      simp only [Act.put, List.setIfInBounds_toArray, List.set_cons_zero, List.set_cons_succ, List.getElem_toArray, List.getElem_cons_zero, List.getElem_cons_succ]
      refine wpAnyH_ready (rs := [2]) (by kernel_rfl) (by simp) (AllReadyH.cons rfl (fun K hK => ?_) AllReadyH.nil)
      go_simp
      go_at_call 11
      refine (KF.out _).mono ?_
      rintro e w6 ⟨rfl, hb6⟩
      have e0 := (hb6.cell (p := ⟨q, 0, none⟩) hqc).trans d0
      have e1 := (hb6.cell (p := ⟨q, 1, none⟩) hqc).trans d1
      have z6 := (hb6.block _ hgc).trans z0
      refine hK.out _ _ ⟨e0, e1⟩ (fun hHeld => ?_)
      clear hK K
      refine wpAnyH_take (i := 3) (v := .bool false) rfl (by kernel_rfl) (by kernel_rfl) (by kernel_rfl) (fun _ _ _ h => h) (Or.inl ⟨by rfl, ?_⟩) (by assumption) ?_
      · intro W hSw
        obtain ⟨s0, s1⟩ := hSw
        go_simp
      simp only [Act.put, List.setIfInBounds_toArray, List.set_cons_zero, List.set_cons_succ, List.getElem_toArray, List.getElem_cons_zero, List.getElem_cons_succ]
      refine wpAnyH_take (i := 4) (v := undef) rfl (by kernel_rfl) (by kernel_rfl) (by kernel_rfl) (fun _ _ _ h => h) (Or.inr ⟨by rfl, rfl⟩) (by assumption) ?_
      simp only [Act.put, List.setIfInBounds_toArray, List.set_cons_zero, List.set_cons_succ, List.getElem_toArray, List.getElem_cons_zero, List.getElem_cons_succ]
      refine wpAnyH_take (i := 5) (v := undef) rfl (by kernel_rfl) (by kernel_rfl) (by kernel_rfl) (fun _ _ _ h => h) (Or.inr ⟨by rfl, rfl⟩) (by assumption) ?_
      simp only [Act.put, List.setIfInBounds_toArray, List.set_cons_zero, List.set_cons_succ, List.getElem_toArray, List.getElem_cons_zero, List.getElem_cons_succ]
      refine wpAnyH_take (i := 6) (v := undef) rfl (by kernel_rfl) (by kernel_rfl) (by kernel_rfl) (fun _ _ _ h => h) (Or.inr ⟨by rfl, rfl⟩) (by assumption) ?_
      simp only [Act.put, List.setIfInBounds_toArray, List.set_cons_zero, List.set_cons_succ, List.getElem_toArray, List.getElem_cons_zero, List.getElem_cons_succ]
      refine wpAnyH_take (i := 7) (v := undef) rfl (by kernel_rfl) (by kernel_rfl) (by kernel_rfl) (fun _ _ _ h => h) (Or.inr ⟨by rfl, rfl⟩) (by assumption) ?_
      simp only [Act.put, List.setIfInBounds_toArray, List.set_cons_zero, List.set_cons_succ, List.getElem_toArray, List.getElem_cons_zero, List.getElem_cons_succ]
      refine wpAnyH_take (i := 8) (v := undef) rfl (by kernel_rfl) (by kernel_rfl) (by kernel_rfl) (fun _ _ _ h => h) (Or.inr ⟨by rfl, rfl⟩) (by assumption) ?_
      simp only [Act.put, List.setIfInBounds_toArray, List.set_cons_zero, List.set_cons_succ, List.getElem_toArray, List.getElem_cons_zero, List.getElem_cons_succ]
      refine wpAnyH_take (i := 9) (v := undef) rfl (by kernel_rfl) (by kernel_rfl) (by kernel_rfl) (fun _ _ _ h => h) (Or.inr ⟨by rfl, rfl⟩) (by assumption) ?_
      simp only [Act.put, List.setIfInBounds_toArray, List.set_cons_zero, List.set_cons_succ, List.getElem_toArray, List.getElem_cons_zero, List.getElem_cons_succ]
      refine wpAnyH_take (i := 10) (v := undef) rfl (by kernel_rfl) (by kernel_rfl) (by kernel_rfl) (fun _ _ _ h => h) (Or.inr ⟨by rfl, rfl⟩) (by assumption) ?_
      simp only [Act.put, List.setIfInBounds_toArray, List.set_cons_zero, List.set_cons_succ, List.getElem_toArray, List.getElem_cons_zero, List.getElem_cons_succ]
      refine wpAnyH_take (i := 11) (v := .bool false) rfl (by kernel_rfl) (by kernel_rfl) (by kernel_rfl) (fun _ _ _ h => h) (Or.inl ⟨by rfl, ?_⟩) (by assumption) ?_
      · intro W hSw
        obtain ⟨s0, s1⟩ := hSw
        go_simp
      simp only [Act.put, List.setIfInBounds_toArray, List.set_cons_zero, List.set_cons_succ, List.getElem_toArray, List.getElem_cons_zero, List.getElem_cons_succ]
      refine wpAnyH_ready (rs := [12]) (by kernel_rfl) (by simp) (AllReadyH.cons rfl (fun K hK => ?_) AllReadyH.nil)
      refine step_store_e2 rfl 34 sizeRE (.tmp 2) (.tmp 21) rfl w.heap.size rfl _ _ _ _ rfl rfl rfl _ z6 ?_
      intro w9 hw9 hr9
      refine hK.out _ _ ⟨by simp only [World.cell?]; rw [hw9.2.2.2.2 q (by omega)]; exact e0, by simp only [World.cell?]; rw [hw9.2.2.2.2 q (by omega)]; exact e1⟩ (fun hHeld => ?_)
      clear hK K
      simp only [Act.put, List.setIfInBounds_toArray, List.set_cons_zero, List.set_cons_succ, List.getElem_toArray, List.getElem_cons_zero, List.getElem_cons_succ]
      refine wpAnyH_take (i := 13) (v := .bool false) rfl (by kernel_rfl) (by kernel_rfl) (by kernel_rfl) (fun _ _ _ h => h) (Or.inl ⟨by rfl, ?_⟩) (by assumption) ?_
      · intro W hSw
        obtain ⟨s0, s1⟩ := hSw
        go_simp
      simp only [Act.put, List.setIfInBounds_toArray, List.set_cons_zero, List.set_cons_succ, List.getElem_toArray, List.getElem_cons_zero, List.getElem_cons_succ]
      refine wpAnyH_done (by kernel_rfl) ?_ _
      go_wp2
      have HB6 := Lib.hid (HBC.out.trans (hb6.mono HBC.out.size))
      refine bodyPost_ret (ret_cell_e2 rfl Try.underlying34 sizeRE _ _ w.heap.size _ _ _ _ rfl hr9 rfl) rfl ⟨by rw [HD.out]; rfl, ?_⟩
      exact (hb1.trans (HB6.out.mono hb1.size)).trans (hw9.below (Nat.le_refl _))
    · have hwt := frmE_len hf
      have KF := Lib.hid (fun W => rFormE_is x S true hf W)
      have KW := Lib.hid (fun W => rSpelt_of x S hf W)
      have hEQ : ((strOfNums (encE (x, S))).toList == (strOfNums (c.take 16)).toList) = D := by
        rw [hD, hf, Bool.true_and]
        by_cases e : encE (x, S) = c.take 16
        · rw [decide_eq_true e, e]; exact beq_self_eq_true _
        · rw [decide_eq_false e, ByteArray.toList_eq, ByteArray.toList_eq, beq_eq_false_iff_ne]
          exact fun hh => e (strOf_inj (encE_byt hwt.2) (byt_take HS1.out.1 16) hh)
      obtain ⟨L1, hL1⟩ : ∃ L, L = strOfNums (encE (x, S)) := ⟨_, rfl⟩
      obtain ⟨L2, hL2⟩ : ∃ L, L = strOfNums (c.take 16) := ⟨_, rfl⟩
      have HL1 := Lib.hid hL1
      rw [← hL2] at d2 HC16 hEQ
      rw [← hL1] at hEQ
      clear hD hf hwt hL1 hL2
      go_wp2_with fail
      refine wp_region_held_drew (S := fun W => W.cell? ⟨q, 0, none⟩ = some (.int .i64 x) ∧ W.cell? ⟨q, 1, none⟩ = some (.string S) ∧ (convert 24 9 (.slice (some ⟨b, off, none⟩) 16 cap)).run Try.prog W = .ok (.string L2) W) (by kernel_rfl) ⟨d0, d1, d2⟩ (fun hHeld => ?_)
      refine wpAnyH_take (i := 0) (v := .agg #[.int .i64 x, .string S]) rfl (by kernel_rfl) (by kernel_rfl) (by kernel_rfl) (fun _ _ _ h => h) (Or.inl ⟨by rfl, ?_⟩) (by assumption) ?_
      · intro W hSw
        obtain ⟨s0, s1, s2⟩ := hSw
        go_simp
      simp only [Act.put, List.setIfInBounds_toArray, List.set_cons_zero, List.set_cons_succ, List.getElem_toArray, List.getElem_cons_zero, List.getElem_cons_succ]
      refine wpAnyH_take (i := 1) (v := .agg #[.int .i64 x, .string S]) rfl (by kernel_rfl) (by kernel_rfl) (by kernel_rfl) (fun _ _ _ h => h) (Or.inl ⟨by rfl, ?_⟩) (by assumption) ?_
      · intro W hSw
        obtain ⟨s0, s1, s2⟩ := hSw
        go_simp
      simp only [Act.put, List.setIfInBounds_toArray, List.set_cons_zero, List.set_cons_succ, List.getElem_toArray, List.getElem_cons_zero, List.getElem_cons_succ]
      refine wpAnyH_ready (rs := [2]) (by kernel_rfl) (by simp) (AllReadyH.cons rfl (fun K hK => ?_) AllReadyH.nil)
      go_simp
      go_at_call 11
      refine (KF.out _).mono ?_
      rintro e w6 ⟨rfl, hb6⟩
      have e0 := (hb6.cell (p := ⟨q, 0, none⟩) hqc).trans d0
      have e1 := (hb6.cell (p := ⟨q, 1, none⟩) hqc).trans d1
      have HB6 := Lib.hid (HBC.out.trans (hb6.mono HBC.out.size))
      have e2 := HC16.out w6 (hb1.trans (HB6.out.mono hb1.size))
      have z6 := (hb6.block _ hgc).trans HR0.out
      have hq6 : q < w6.heap.size := Nat.lt_of_lt_of_le hqc hb6.size
      have hg6 : w.heap.size < w6.heap.size := Nat.lt_of_lt_of_le hgc hb6.size
      refine hK.out _ _ ⟨e0, e1, e2⟩ (fun hHeld => ?_)
      clear hK K
      refine wpAnyH_take (i := 3) (v := .bool true) rfl (by kernel_rfl) (by kernel_rfl) (by kernel_rfl) (fun _ _ _ h => h) (Or.inl ⟨by rfl, ?_⟩) (by assumption) ?_
      · intro W hSw
        obtain ⟨s0, s1, s2⟩ := hSw
        go_simp
      simp only [Act.put, List.setIfInBounds_toArray, List.set_cons_zero, List.set_cons_succ, List.getElem_toArray, List.getElem_cons_zero, List.getElem_cons_succ]
      refine wpAnyH_take (i := 4) (v := .agg #[.int .i64 x, .string S]) rfl (by kernel_rfl) (by kernel_rfl) (by kernel_rfl) (fun _ _ _ h => h) (Or.inl ⟨by rfl, ?_⟩) (by assumption) ?_
      · intro W hSw
        obtain ⟨s0, s1, s2⟩ := hSw
        go_simp
      simp only [Act.put, List.setIfInBounds_toArray, List.set_cons_zero, List.set_cons_succ, List.getElem_toArray, List.getElem_cons_zero, List.getElem_cons_succ]
      refine wpAnyH_take (i := 7) (v := .slice (some ⟨b, off, none⟩) N cap) rfl (by kernel_rfl) (by kernel_rfl) (by kernel_rfl) (fun _ _ _ h => h) (Or.inl ⟨by rfl, ?_⟩) (by assumption) ?_
      · intro W hSw
        obtain ⟨s0, s1, s2⟩ := hSw
        go_simp
      simp only [Act.put, List.setIfInBounds_toArray, List.set_cons_zero, List.set_cons_succ, List.getElem_toArray, List.getElem_cons_zero, List.getElem_cons_succ]
      refine wpAnyH_take (i := 8) (v := .slice (some ⟨b, off, none⟩) 16 cap) rfl (by kernel_rfl) (by kernel_rfl) (by kernel_rfl) (fun _ _ _ h => h) (Or.inl ⟨by rfl, ?_⟩) (by assumption) ?_
      · intro W hSw
        obtain ⟨s0, s1, s2⟩ := hSw
        go_simp
      simp only [Act.put, List.setIfInBounds_toArray, List.set_cons_zero, List.set_cons_succ, List.getElem_toArray, List.getElem_cons_zero, List.getElem_cons_succ]
      refine wpAnyH_take (i := 9) (v := .string L2) rfl (by kernel_rfl) (by kernel_rfl) (by kernel_rfl) (fun _ _ _ h => h) (Or.inl ⟨by rfl, ?_⟩) (by assumption) ?_
      · intro W hSw
        obtain ⟨s0, s1, s2⟩ := hSw
        go_simp
      simp only [Act.put, List.setIfInBounds_toArray, List.set_cons_zero, List.set_cons_succ, List.getElem_toArray, List.getElem_cons_zero, List.getElem_cons_succ]
      refine wpAnyH_ready (rs := [5]) (by kernel_rfl) (by simp) (AllReadyH.cons rfl (fun K hK => ?_) AllReadyH.nil)
      go_simp
      go_at_call 19
      refine (KW.out _).mono ?_
      rintro e w7 ⟨v7, rfl, hob7, hb7⟩
      have f0 := (hb7.cell (p := ⟨q, 0, none⟩) hq6).trans e0
      have f1 := (hb7.cell (p := ⟨q, 1, none⟩) hq6).trans e1
      have HB7 := Lib.hid (HB6.out.trans (hb7.mono HB6.out.size))
      have f2 := HC16.out w7 (hb1.trans (HB7.out.mono hb1.size))
      have z7 := (hb7.block _ hg6).trans z6
      have hv7 := conv_bsl hob7.bsl
      rw [← HL1.out] at hv7
      refine hK.out _ _ ⟨f0, f1, f2⟩ (fun hHeld => ?_)
      clear hK K
      refine wpAnyH_more (S' := fun W => W.cell? ⟨q, 0, none⟩ = some (.int .i64 x) ∧ W.cell? ⟨q, 1, none⟩ = some (.string S) ∧ (convert 24 9 (.slice (some ⟨b, off, none⟩) 16 cap)).run Try.prog W = .ok (.string L2) W ∧ (convert 24 9 v7).run Try.prog W = .ok (.string L1) W) (fun W hW => ⟨hW.1, hW.2.1, hW.2.2.1⟩) _ _ _ _ ?_
      clear hHeld
      have hHeld : w7.cell? ⟨q, 0, none⟩ = some (.int .i64 x) ∧ w7.cell? ⟨q, 1, none⟩ = some (.string S) ∧ (convert 24 9 (.slice (some ⟨b, off, none⟩) 16 cap)).run Try.prog w7 = .ok (.string L2) w7 ∧ (convert 24 9 v7).run Try.prog w7 = .ok (.string L1) w7 := ⟨f0, f1, f2, hv7⟩
      refine wpAnyH_take (i := 6) (v := .string L1) rfl (by kernel_rfl) (by kernel_rfl) (by kernel_rfl) (fun _ _ _ h => h) (Or.inl ⟨by rfl, ?_⟩) (by assumption) ?_
      · intro W hSw
        obtain ⟨s0, s1, s2, s3⟩ := hSw
        go_simp
      simp only [Act.put, List.setIfInBounds_toArray, List.set_cons_zero, List.set_cons_succ, List.getElem_toArray, List.getElem_cons_zero, List.getElem_cons_succ]
      refine wpAnyH_take (i := 10) (v := .bool D) rfl (by kernel_rfl) (by kernel_rfl) (by kernel_rfl) (fun _ _ _ h => h) (Or.inl ⟨by rfl, ?_⟩) (by assumption) ?_
      · intro W hSw
        obtain ⟨s0, s1, s2, s3⟩ := hSw
        go_simp
      simp only [Act.put, List.setIfInBounds_toArray, List.set_cons_zero, List.set_cons_succ, List.getElem_toArray, List.getElem_cons_zero, List.getElem_cons_succ]
      refine wpAnyH_take (i := 11) (v := .bool D) rfl (by kernel_rfl) (by kernel_rfl) (by kernel_rfl) (fun _ _ _ h => h) (Or.inl ⟨by rfl, ?_⟩) (by assumption) ?_
      · intro W hSw
        obtain ⟨s0, s1, s2, s3⟩ := hSw
        go_simp
      simp only [Act.put, List.setIfInBounds_toArray, List.set_cons_zero, List.set_cons_succ, List.getElem_toArray, List.getElem_cons_zero, List.getElem_cons_succ]
      have HOB7 := Lib.hid hob7
      have HZ6 := Lib.hid hg6
      refine wpAnyH_ready (rs := [12]) (by kernel_rfl) (by simp) (AllReadyH.cons rfl (fun K hK => ?_) AllReadyH.nil)
      refine step_store_e2 rfl 34 sizeRE (.tmp 2) (.tmp 21) rfl w.heap.size rfl _ _ _ _ rfl rfl rfl _ z7 ?_
      intro w9 hw9 hr9
      have HB9 := Lib.hid ((hb1.trans (HB7.out.mono hb1.size)).trans (hw9.below (Nat.le_refl _)))
      have hv9 := conv_bsl (HOB7.out.wrote hw9 HZ6.out).bsl
      rw [← HL1.out] at hv9
      refine hK.out _ _ ⟨by simp only [World.cell?]; rw [hw9.2.2.2.2 q (by omega)]; exact f0, by simp only [World.cell?]; rw [hw9.2.2.2.2 q (by omega)]; exact f1, HC16.out w9 HB9.out, hv9⟩ (fun hHeld => ?_)
      clear hK K
      simp only [Act.put, List.setIfInBounds_toArray, List.set_cons_zero, List.set_cons_succ, List.getElem_toArray, List.getElem_cons_zero, List.getElem_cons_succ]
      refine wpAnyH_take (i := 13) (v := .bool D) rfl (by kernel_rfl) (by kernel_rfl) (by kernel_rfl) (fun _ _ _ h => h) (Or.inl ⟨by rfl, ?_⟩) (by assumption) ?_
      · intro W hSw
        obtain ⟨s0, s1, s2, s3⟩ := hSw
        go_simp
      simp only [Act.put, List.setIfInBounds_toArray, List.set_cons_zero, List.set_cons_succ, List.getElem_toArray, List.getElem_cons_zero, List.getElem_cons_succ]
      refine wpAnyH_done (by kernel_rfl) ?_ _
      go_wp2
      exact bodyPost_ret (ret_cell_e2 rfl Try.underlying34 sizeRE _ _ w.heap.size _ _ _ _ rfl hr9 rfl) rfl ⟨rfl, HB9.out⟩
end Go.Proofs.Yteemjhnlnjkjcaa
