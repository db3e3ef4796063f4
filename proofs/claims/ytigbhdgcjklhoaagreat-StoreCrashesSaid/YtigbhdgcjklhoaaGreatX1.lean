/- The law StoreCrashes. -/
import Derived.Test.YtigbhdgcjklhoaaGreatLawStGC
namespace Go.Proofs.YtigbhdgcjklhoaaGreat
set_option maxRecDepth 100000
open Go.RowKit
set_option linter.unusedVariables false

theorem hold11 {w w1 : World} {g : Nat} {o : Obj} (h : w.heap[g]? = some o) (hb : Below w.heap.size w w1) : w1.heap[g]? = some o := (hb.block _ (Array.getElem?_eq_some_iff.1 h).1).trans h
theorem Live.newNot {w0 W : World} {d p q vS : Value} {f : Bool} {N : Nat} {P M : Nat → Prop} {X : XSt} {r : RSt} (h : Live SInv w0 d p q f N W P M vS X r) : ¬ (P W.heap.size ∨ M W.heap.size) := fun e => e.elim (fun e => Nat.lt_irrefl _ (landed.lt h.inv _ e)) fun e => Nat.lt_irrefl _ (h.rso.lt e)
/-- The law's do met ErrIO. -/
structure Over11 (w0 : World) (d p q : Value) (kl : List Bool) (W : World) (P M : Nat → Prop) (vS vI : Value) (sts : List (List (List Int))) (is : List (List Int)) (ds : DS) : Prop where
  dead : SDead W P d p ds
  old : ROld W P M vS sts
  c0 : ∃ qb cur, q = .pointer (some ⟨qb, 0, none⟩) ∧ M qb ∧ ¬ P qb ∧ W.heap[qb]? = some (.cells cur 42 (0, 0)) ∧ cur.size = 5 ∧ W.cell? ⟨qb, 0, none⟩ = some vI
  vI : BBa W (fun k => P k ∨ M k) vI is
  un : ds.U.length ≤ 1000
  jst : ∃ G, Jst 80 (ds.crash kl).F G ∧ ∃ H, H ∈ sts ++ [is] ∧ eqO H G
  lens : ∀ H, H ∈ sts ++ [is] → H.length = 80
  ne : 0 < sts.length
  few : sts.length ≤ 1000
  own : ∀ k, P k ∨ M k → w0.heap.size ≤ k
  low : Below w0.heap.size w0 W
/-- The law's do, whether there is a fuse or not. -/
theorem Live.doesF {w0 W : World} {d p q vS : Value} {f : Bool} {N : Nat} {P M : Nat → Prop} {X : XSt} {r : RSt} (h : Live SInv w0 d p q f N W P M vS X r) (hN : N ≤ 1000) (kl : List Bool) (o : O11) (ho : o.ok) (hj : o.k = 1 ∨ o.k = 3 ∨ o.k = 4 ∨ ¬ (3 ≤ o.n ∧ o.n < 43)) :
    Calls Tryz.prog 11 #[p, q, opV o.k o.n o.x o.keep o.short] W fun e W' => ∃ b P' M', e = .returned (.bool b) ∧ Chg (fun k => P k ∨ M k) (fun k => P' k ∨ M' k) W W' ∧
      ((b = true ∧ ∃ vS' X' r', Live SInv w0 d p q f (N + 1) W' P' M' vS' X' r') ∨ ∃ vI is ds, Over11 w0 d p q kl W' P' M' vS vI r.sts is ds) :=
  (do11_any landed h.inv h.rso h.rel (Nat.le_trans h.sts hN) o.k o.n o.x o.keep o.short ho.1 ho.2 hj).mono fun e W' hq => by
    rcases hq with ⟨P', M', vS', X', r', he, h1, h2, h3, _, h5, h6, h7, h8, _⟩ | ⟨_, b, P', M', vS', ds', r', l, he, hd, hr', hol, hch, hil, hok, hl⟩
    · obtain ⟨k1, k2⟩ := h.past h5
      exact ⟨true, P', M', he, h5, .inl ⟨rfl, vS', X', r', ⟨h1, h2, h3, h7.trans h.fu, h8.trans h.len, by have := h.sts; omega, k1, k2⟩⟩⟩
    · obtain ⟨k1, k2⟩ := h.past hch
      rw [h.len] at hil hok
      refine ⟨b, P', M', he, hch, .inr ?_⟩
      obtain ⟨qb, m, vI, vC, vP, hq, hA⟩ := hr'
      obtain ⟨G, hG, hJ⟩ := hok.2.2 kl
      obtain ⟨H, hH, e⟩ := hl G hG
      have hqM : M' qb := (hA.own qb).2 (.inl rfl)
      obtain ⟨H0, hH0, _⟩ := h.rel.base
      refine ⟨vI, r'.is, ds', hd, hol, ⟨qb, _, hq, hqM, hA.apart qb hqM, hA.hb, rfl, hA.c0⟩, hA.hI, hok.1, ⟨G, hJ, H, hH, e⟩, ?_, List.length_pos_of_mem hH0, Nat.le_trans h.sts hN, k1, k2⟩
      intro H hH
      rcases List.mem_append.1 hH with hH | hH
      · exact (h.rel.lens.1 H hH).trans (h.rel.len.trans h.len)
      · rw [List.mem_singleton.1 hH]; exact hil
theorem st_step3 {w8 W : World} {g e m wcap : Nat} {us : List Value} (hb : Below w8.heap.size w8 W) (hE : W.heap[e]? = some (.cells #[] 34 (0, 0))) (he : w8.heap.size ≤ e) (hown : w8.ownsRow 0 34 1 (.slice (some ⟨g, 0, none⟩) m wcap) m us) (h1 : ∀ u ∈ us, u.oneCell' = true) (hm : m ≤ 1000) (ty : TypeId) :
    ∃ v1 W', (Builtin.append_ #[40, 40] ty #[.slice (some ⟨e, 0, none⟩) 0 0, .slice (some ⟨g, 0, none⟩) m wcap]).run Tryz.prog W = .ok v1 W' ∧ W'.ownsRow w8.heap.size 34 1 v1 m us ∧ Below w8.heap.size w8 W' ∧ (∀ q, q ≠ e → q < W.heap.size → W'.heap[q]? = W.heap[q]?) := by
  obtain ⟨t, h2, h3, h4, h5⟩ := info_parts infoBB
  have how : W.ownsRow w8.heap.size 34 1 (.slice (some ⟨e, 0, none⟩) 0 0) 0 [] := ⟨by simp, .inr ⟨e, 0, #[], rfl, he, hE, Nat.le_refl _, Nat.zero_le _, rfl, by simp⟩⟩
  have hul : us.length = m * 1 := hown.1
  have hcell : ∀ j u, us[j]? = some u → W.cell? ((⟨g, 0, none⟩ : Addr).add j) = some u := by
    rcases hown.2 with ⟨e0, _⟩ | ⟨g', cap, cur, e1, _, hh, hnc, _, hcs, ht⟩
    · cases e0
    · injection e1 with a1 a2 a3
      injection a1 with a1
      injection a1 with a1
      subst a1
      intro j u hj
      have hgl := (Array.getElem?_eq_some_iff.1 hh).1
      rw [Addr.add_lit, Nat.zero_add, World.cell?_of_block (w := w8) (a := ⟨g, j, none⟩) (hb.block g hgl), cell_of_row _ _ _ _ _ _ hh]
      have h9 : (cur.toList.take (m * 1))[j]? = us[j]? := by rw [ht]
      have hjm : j < us.length := (List.getElem?_eq_some_iff.1 hj).1
      rw [List.getElem?_take, if_pos (by omega), hj] at h9
      simpa using h9
  obtain ⟨v', w', hrun, h6, h7, _, _⟩ := run_append_own_at (P := Tryz.prog) W w8.heap.size 40 ty 34 t _ 1 24 Tryz.underlying40 h2 h3 h4 h5 rfl (by decide) _ 0 [] how ⟨g, 0, none⟩ m wcap us (by omega) hcell h1 (by simp only [maxLen]; omega) (by omega) hb.size
  rw [Nat.zero_add, List.nil_append] at h6
  refine ⟨v', w', hrun, h6, hb.grown h7 hb.size fun k hk => ?_, fun q hq hql => h7.block q hql fun e => hq (Option.some.inj e)⟩
  simp [Value.ownBlock] at hk
  omega
theorem st_step9 {w8 W : World} {q m : Nat} {us : List Value} {v1 vI : Value} (hb : Below w8.heap.size w8 W) (ho1 : W.ownsRow w8.heap.size 34 1 v1 m us) (hq : W.heap[q]? = some (.cells #[vI] 34 (0, 0))) (hone : vI.oneCell' = true) (hm : m ≤ 1000) (ty : TypeId) :
    ∃ v2 W', (Builtin.append_ #[40, 40] ty #[v1, .slice (some ⟨q, 0, none⟩) 1 1]).run Tryz.prog W = .ok v2 W' ∧ W'.ownsRow w8.heap.size 34 1 v2 (m + 1) (us ++ [vI]) ∧ Below w8.heap.size w8 W' := by
  obtain ⟨t, h2, h3, h4, h5⟩ := info_parts infoBB
  have hcell : ∀ j u, ([vI] : List Value)[j]? = some u → W.cell? ((⟨q, 0, none⟩ : Addr).add j) = some u := fun j u hj => by
    have hj0 : j = 0 := by have := (List.getElem?_eq_some_iff.1 hj).1; simp at this; omega
    subst hj0
    rw [Addr.add_lit, Nat.zero_add, cell_of_row _ _ _ _ _ _ hq, ← hj]; rfl
  obtain ⟨v', w', hrun, h6, h7, _, _⟩ := run_append_own_at (P := Tryz.prog) W w8.heap.size 40 ty 34 t _ 1 24 Tryz.underlying40 h2 h3 h4 h5 rfl (by decide) v1 m us ho1 ⟨q, 0, none⟩ 1 1 [vI] rfl hcell (fun u hu => by simp at hu; subst hu; exact hone) (by simp only [maxLen]; omega) (by omega) hb.size
  exact ⟨v', w', hrun, h6, hb.grown h7 hb.size fun k hk => (ho1.lt k hk).1⟩
/-- The States laid anew: ahead of the crash. -/
theorem Over11.ruin {w0 w8 W' : World} {d p : Value} {qb : Nat} {kl : List Bool} {P M : Nat → Prop} {vS vI v2 : Value} {sts : List (List (List Int))} {is : List (List Int)} {ds : DS} (h : Over11 w0 d p (.pointer (some ⟨qb, 0, none⟩)) kl w8 P M vS vI sts is ds) {us : List Value} (hul : us.length = sts.length) (hue : ∀ j, j < sts.length → BBa w8 (fun k => P k ∨ M k) (us.getD j undef) (sts.getD j []))
    (hb : Below w8.heap.size w8 W') (ho2 : W'.ownsRow w8.heap.size 34 1 v2 (sts.length + 1) (us ++ [vI])) : Ruin w0 d (.pointer (some ⟨qb, 0, none⟩)) kl (W'.setCell ⟨qb, 3, none⟩ v2) P M v2 (sts ++ [is]) ds := by
  obtain ⟨qb', cur, hqe, hqM, hqP, hqr, hqs, _⟩ := h.c0
  obtain rfl : qb = qb' := by injection hqe with e; injection e with e; injection e with e
  have hql : qb < w8.heap.size := (Array.getElem?_eq_some_iff.1 hqr).1
  have hqr' : W'.heap[qb]? = some (.cells cur 42 (0, 0)) := (hb.block qb hql).trans hqr
  have hoth : ∀ k, k ≠ qb → (W'.setCell ⟨qb, 3, none⟩ v2).heap[k]? = W'.heap[k]? := fun k hk => heap_setCell_other _ _ _ _ hk
  have hsz : (W'.setCell ⟨qb, 3, none⟩ v2).heap.size = W'.heap.size := by simp [World.setCell]
  obtain ⟨Pd, hs, hdk⟩ := landed.deadDisk h.dead
  have hlt := landed.deadLt h.dead
  have hc : Chg (fun k => P k ∨ M k) (fun k => P k ∨ M k) w8 (W'.setCell ⟨qb, 3, none⟩ v2) := ⟨hb.os, hb.tape, hb.output, by rw [hsz]; exact hb.size, fun k hk hn => ⟨(hoth k fun e => hn (.inr (e ▸ hqM))).trans (hb.block k hk), hn⟩⟩
  have hv2 : ∀ g, v2.ownBlock = some g → w8.heap.size ≤ g := fun g hg => (ho2.lt g hg).1
  refine ⟨⟨Pd, hs, hdk.same fun k hk => (hoth k fun e => hqP (e ▸ hs k hk)).trans (hb.block k (hlt k (hs k hk)))⟩, h.un, h.jst, ⟨qb, rfl, by rw [hsz]; exact Nat.lt_of_lt_of_le hql hb.size, hqP, ?_⟩, ⟨us ++ [vI], by simp [hul], fun j hj => ?_, ?_⟩, fun g hg hp => by have := hlt g hp; have := hv2 g hg; omega, h.lens, by have := h.few; simp; omega, fun k hk => h.own k (.inl hk), h.low.trans (hc.below fun k hk => ⟨Nat.lt_of_lt_of_le hk h.low.size, fun e => by have := h.own k e; omega⟩)⟩
  · rw [cell_of_row _ _ _ _ _ _ (heap_setCell_same W' qb 3 _ _ v2 hqr')]
    simp [hqs]
  · rw [List.length_append, List.length_singleton] at hj
    by_cases hj1 : j < sts.length
    · have e1 : (us ++ [vI]).getD j undef = us.getD j undef := by rw [List.getD_eq_getElem?_getD, List.getD_eq_getElem?_getD, List.getElem?_append_left (by omega)]
      have e2 : (sts ++ [is]).getD j [] = sts.getD j [] := by rw [List.getD_eq_getElem?_getD, List.getD_eq_getElem?_getD, List.getElem?_append_left hj1]
      rw [e1, e2]
      exact (hue j hj1).chg hc
    · obtain rfl : j = sts.length := by omega
      have e1 : (us ++ [vI]).getD sts.length undef = vI := by rw [← hul]; simp [List.getD_eq_getElem?_getD]
      have e2 : (sts ++ [is]).getD sts.length [] = is := by simp [List.getD_eq_getElem?_getD]
      rw [e1, e2]
      exact h.vI.chg hc
  · have hk := ownsRow_keep (w' := W'.setCell ⟨qb, 3, none⟩ v2) ho2 fun g hg => hoth g (by have := hv2 g hg; omega)
    rw [List.length_append, List.length_singleton]
    exact ⟨hk.1, hk.2.imp id fun ⟨g, cap, cur, a, _, b⟩ => ⟨g, cap, cur, a, Nat.zero_le _, b⟩⟩
theorem RSo.c3 {w : World} {P M : Nat → Prop} {qb : Nat} {vS : Value} {r : RSt} (h : RSo w P M (.pointer (some ⟨qb, 0, none⟩)) vS r) : w.cell? ⟨qb, 3, none⟩ = some vS := by
  obtain ⟨b, m, vI, vC, vP, e, hA⟩ := h
  obtain rfl : qb = b := by injection e with e; injection e with e; injection e with e
  exact hA.c3
theorem lStCrash_long {w : World} {v kv : Value} {Sc : List O11} {kl : List Bool} {fz tm : Int} (hs : OpsS w v Sc) (hk : KSl w kv kl) (hl : 150 < Sc.length ∨ 200 < kl.length) : Calls Tryz.prog 3 #[v, .int .u8 fz, kv, .int .u8 tm] w fun e w' => e = .returned (.bool true) ∧ Below w.heap.size w w' := by
  obtain ⟨a, c, rfl⟩ := hs.shape
  obtain ⟨a2, c2, rfl⟩ := hk.shape
  generalize Sc.length = L at hl ⊢
  generalize kl.length = L2 at hl ⊢
  clear hs hk
  by_cases h1 : 150 < L
  · have hl' : 150 < (L : Int) := by omega
    clear hl h1
    go_enter Tryz.func3, Tryz.ntmps3
    go_wp2_with (first
      | (go_at_call 4; (with_reducible refine (awake11_any w).mono ?_); rintro e w1 ⟨rfl, hb1⟩
         have HB1 := Lib.hid hb1
         clear hb1)
      | (go_at_call 4; (with_reducible refine (awake11_any w1).mono ?_); rintro e w2 ⟨rfl, hb2⟩))
    go_ret
    exact ⟨rfl, HB1.out.trans (hb2.mono HB1.out.size)⟩
  · have hl' : ¬ 150 < (L : Int) := by omega
    have hl2 : 200 < (L2 : Int) := by omega
    clear hl h1
    go_enter Tryz.func3, Tryz.ntmps3
    go_wp2_with (first
      | (go_at_call 4; (with_reducible refine (awake11_any w).mono ?_); rintro e w1 ⟨rfl, hb1⟩
         have HB1 := Lib.hid hb1
         clear hb1)
      | (go_at_call 4; (with_reducible refine (awake11_any w1).mono ?_); rintro e w2 ⟨rfl, hb2⟩))
    go_ret
    exact ⟨rfl, HB1.out.trans (hb2.mono HB1.out.size)⟩
set_option maxHeartbeats 4000000 in
theorem lStCrash_any {w : World} {v kv : Value} {Sc : List O11} {kl : List Bool} {fz tm : Int} (hs : OpsS w v Sc) (hk : KSl w kv kl) (hfz : 0 ≤ fz ∧ fz ≤ 255) (htm : 0 ≤ tm ∧ tm ≤ 255) : Calls Tryz.prog 3 #[v, .int .u8 fz, kv, .int .u8 tm] w fun e w' => e = .returned (.bool true) ∧ Below w.heap.size w w' := by
  by_cases hlong : 150 < Sc.length ∨ 200 < kl.length
  · exact lStCrash_long hs hk hlong
  have HSC := Lib.hid hs
  obtain ⟨a, cap, rfl⟩ := hs.shape
  have HK := Lib.hid hk
  obtain ⟨a2, cap2, rfl⟩ := hk.shape
  obtain ⟨L, hL⟩ : ∃ L, L = Sc.length := ⟨_, rfl⟩
  obtain ⟨L2, hL2⟩ : ∃ L2, L2 = kl.length := ⟨_, rfl⟩
  rw [← hL] at HSC hlong ⊢
  rw [← hL2] at HK hlong ⊢
  have hl1 : ¬ 150 < (L : Int) := by omega
  have hl2 : ¬ 200 < (L2 : Int) := by omega
  have HL := Lib.hid hL
  have HLL : Hid (L ≤ 150) := Lib.hid (by omega)
  obtain ⟨tn, htn⟩ : ∃ tn : Nat, (tn : Int) = tm % 6 := ⟨(tm % 6).toNat, Int.toNat_of_nonneg (by omega)⟩
  have HTN : Hid (tn ≤ 1000) := Lib.hid (by omega)
  have HTE := Lib.hid htn
  have KZ := Lib.hid (fun (W : World) (P : Nat → Prop) (hP : ∀ k, P k → k < W.heap.size) => show Calls Tryz.prog 9 #[.int .i64 80] W fun e w' => ∃ v, e = .returned v ∧ BBo w' W.heap.size P v (List.replicate 80 zb) ∧ Below W.heap.size W w' from zeros11_of hP 80 (by decide))
  have KN := Lib.hid (fun (W : World) => show Calls Tryz.prog 5 #[.int .i64 80] W fun e w' => ∃ p P, e = .returned p ∧ Dk w' P p (DS.new 80) ∧ (∀ k, P k → W.heap.size ≤ k) ∧ Below W.heap.size W w' from kNew W 80 (by decide))
  have HFZ := Lib.hid hfz
  have hfw : IntKind.i64.wrap fz = fz := IntWalk.i64_in _ (by omega)
  clear hs hk hL hL2 hlong htn
  go_enter Tryz.func3, Tryz.ntmps3
  go_wp2_with (first
    | (go_at_call 4; (with_reducible refine (awake11_any w).mono ?_); rintro e w1 ⟨rfl, hb1⟩
       have HB1 := Lib.hid hb1
       clear hb1)
    | (go_at_call 5; (with_reducible refine (KN.out w1).mono ?_); rintro e w2 ⟨d, P0, rfl, hd2, hp2, hb2⟩
       have KO := Lib.hid (openNew landed hd2 (by decide) (by decide))
       have HP2 := Lib.hid (fun k hk => Nat.le_trans HB1.out.size (hp2 k hk))
       have HB2 := Lib.hid (HB1.out.trans (hb2.mono HB1.out.size))
       obtain ⟨bd, rfl⟩ := hd2.ptr
       clear hd2 hp2 hb2)
    | (go_at_call 6; (with_reducible refine KO.out.mono ?_); rintro e w3 ⟨p, ds0, P1, rfl, _, hI3, hc3⟩
       have HO3 := Lib.hid (set1 HP2.out HB2.out hc3)
       have KF := Lib.hid (hI3.fuse fz (by have := HFZ.out; omega))
       obtain ⟨bs, rfl⟩ := landed.ptr hI3
       clear hI3 hc3)
    | (go_at_call 7; (with_reducible refine KF.out.mono ?_); rintro e w6 ⟨rfl, hI6, hc6⟩
       have HO6 := Lib.hid (set1 HO3.out.1 HO3.out.2 hc6)
       have HI6 := Lib.hid hI6
       have KZ3 := Lib.hid (KZ.out w6 P1 (landed.lt hI6))
       clear hI6 hc6)
    | (go_at_call 9; (with_reducible refine KZ3.out.mono ?_); rintro e w4 ⟨v4, rfl, hv4, hb4⟩
       have HB4 := Lib.hid hb4
       have KR := Lib.hid (rNew_of (hv4.bba (landed.lt HI6.out)) (by rw [List.length_replicate]; decide) (fun k hk => Nat.lt_of_lt_of_le (landed.lt HI6.out k hk) hb4.size))
       obtain ⟨ao4, c4, rfl⟩ := shape80 (hv4.bba (landed.lt HI6.out))
       clear hv4 hb4)
    | (go_at_call 8; (with_reducible refine KR.out.mono ?_); rintro e w5 ⟨q, vS, M, rfl, hr5, hb5, hM5⟩
       have HLV := Lib.hid (set2 landed HI6.out rfl HO6.out.1 HO6.out.2 HB4.out hr5 hb5 hM5)
       obtain ⟨qb, rfl⟩ := (HLV.out.ptrs landed).2
       clear hr5 hb5 hM5))
  clear KZ KN KO KZ3 KR HP2 HB2 HO3 HI6 HB4 KF HO6
  generalize hff : (DS.fuse ds0 fz).fu = f0 at HLV
  generalize DS.fuse ds0 fz = ds1 at HLV
  clear hff
  go_loopw [10, 12, 47] (fun s q i wr => ∃ (k bs qb : Nat) (f : Bool) (P M : Nat → Prop) (vS : Value) (X : XSt) (r : RSt), s = .pointer (some ⟨bs, 0, none⟩) ∧ q = .pointer (some ⟨qb, 0, none⟩) ∧ i = .int .i64 k ∧ k ≤ L ∧ Hid (Live SInv w (.pointer (some ⟨bd, 0, none⟩)) (.pointer (some ⟨bs, 0, none⟩)) (.pointer (some ⟨qb, 0, none⟩)) f (k + 1) wr P M vS X r)) (fun s q i _ => L - (intOf i).toNat)
  case atStart => exact ⟨0, _, _, _, _, _, _, _, _, rfl, rfl, rfl, Nat.zero_le _, HLV⟩
  case round =>
    clear HLV
    obtain ⟨k, bs, qb, f, P2, M2, vS2, X, r, rfl, rfl, rfl, hkL, HV⟩ := hrel
    by_cases hlt : k < L
    · have ek : (k : Int) < (L : Int) := by omega
      obtain ⟨ab, off, kd, n, x, kp, sh, rfl, hab, hok, c0, c1, c2, c3, c4⟩ := HSC.out.op HL.out hlt
      have q0 : wr.cell? ⟨ab, off + k * 5, none⟩ = some (.int .i64 kd) := (HV.out.low.cell (p := ⟨ab, _, none⟩) hab).trans c0
      have q1 : wr.cell? ⟨ab, off + k * 5 + 1, none⟩ = some (.int .i64 n) := (HV.out.low.cell (p := ⟨ab, _, none⟩) hab).trans c1
      have q2 : wr.cell? ⟨ab, off + k * 5 + 2, none⟩ = some (.int .u8 x) := (HV.out.low.cell (p := ⟨ab, _, none⟩) hab).trans c2
      have q3 : wr.cell? ⟨ab, off + k * 5 + 3, none⟩ = some (.bool kp) := (HV.out.low.cell (p := ⟨ab, _, none⟩) hab).trans c3
      have q4 : wr.cell? ⟨ab, off + k * 5 + 4, none⟩ = some (.bool sh) := (HV.out.low.cell (p := ⟨ab, _, none⟩) hab).trans c4
      have HOK := Lib.hid hok
      have hns := heap_alloc_new wr (.cells #[.int .i64 0, .int .i64 0, .int .u8 0, .bool false, .bool false] 37)
      have hbs := below_box wr (.cells #[.int .i64 0, .int .i64 0, .int .u8 0, .bool false, .bool false] 37)
      clear c0 c1 c2 c3 c4 hok hab
      have HA6 := Lib.hid (fun (w6 : World) (hb6 : Below wr.heap.size wr w6) (hr6 : w6.heap[wr.heap.size]? = some (.cells #[.int .i64 kd, .int .i64 n, .int .u8 x, .bool kp, .bool sh] 37 (0, 0))) => show ∃ bx, bx = wr.heap.size ∧ w6.heap[bx]? = some (.cells #[.int .i64 kd, .int .i64 n, .int .u8 x, .bool kp, .bool sh] 37 (0, 0)) ∧ ¬ (P2 bx ∨ M2 bx) ∧ Live SInv w (.pointer (some ⟨bd, 0, none⟩)) (.pointer (some ⟨bs, 0, none⟩)) (.pointer (some ⟨qb, 0, none⟩)) f (k + 1) w6 P2 M2 vS2 X r ∧
          Calls Tryz.prog 10 #[.agg #[.int .i64 kd, .int .i64 n, .int .u8 x, .bool kp, .bool sh]] w6 fun e w' => e = .returned (.bool (inJo kd n)) ∧ Below w6.heap.size w6 w' from
        ⟨_, rfl, hr6, HV.out.newNot, HV.out.below landed hb6, inJ11_is kd n x kp sh w6⟩)
      clear HV
      by_cases hij : inJo kd n = true
      · go_wp2_with (first
          | (with_reducible refine wpList_store_t5 rfl 37 sizeO11 (.tmp 14) (.tmp 53) rfl wr.heap.size rfl _ _ _ _ _ _ _ _ _ _ rfl rfl rfl rfl rfl rfl _ hns ?_; intro w6 hw6 hr6
             obtain ⟨bx, hbx, hr, hn, hv, hj⟩ := HA6.out w6 (hbs.trans (hw6.below (Nat.le_refl _))) hr6
             rw [hij] at hj
             rw [← hbx]
             obtain ⟨s0, s1, s2, s3, s4⟩ := box5 hr
             have HX6 := Lib.hid hr
             have HN6 := Lib.hid hn
             have HV6 := Lib.hid hv
             have KJ := Lib.hid hj
             clear hns hbs hw6 hr6 hbx hr hn hv hj q0 q1 q2 q3 q4 HA6)
          | (go_at_call 10; (with_reducible refine KJ.out.mono ?_); rintro e w7 ⟨rfl, hb7⟩
             have HV7 := Lib.hid (HV6.out.below landed hb7)
             have HX7 := Lib.hid (hold11 HX6.out hb7)
             obtain ⟨u0, u1, u2, u3, u4⟩ := box5 HX7.out
             have i3 := HV7.out.rso.c3
             clear hb7 s0 s1 s2 s3 s4 KJ HV6 HX6))
        go_roundw
        case rel => exact ⟨k + 1, _, _, _, _, _, _, _, _, rfl, rfl, by go_num, by omega, Lib.hid (HV7.out.more (Nat.le_succ _))⟩
        case measure => simp [intOf]; omega
      rw [Bool.not_eq_true] at hij
      by_cases h5 : 5 < kd
      · go_wp2_with (first
          | (with_reducible refine wpList_store_t5 rfl 37 sizeO11 (.tmp 14) (.tmp 53) rfl wr.heap.size rfl _ _ _ _ _ _ _ _ _ _ rfl rfl rfl rfl rfl rfl _ hns ?_; intro w6 hw6 hr6
             obtain ⟨bx, hbx, hr, hn, hv, hj⟩ := HA6.out w6 (hbs.trans (hw6.below (Nat.le_refl _))) hr6
             rw [hij] at hj
             rw [← hbx]
             obtain ⟨s0, s1, s2, s3, s4⟩ := box5 hr
             have HX6 := Lib.hid hr
             have HN6 := Lib.hid hn
             have HV6 := Lib.hid hv
             have KJ := Lib.hid hj
             clear hns hbs hw6 hr6 hbx hr hn hv hj q0 q1 q2 q3 q4 HA6)
          | (go_at_call 10; (with_reducible refine KJ.out.mono ?_); rintro e w7 ⟨rfl, hb7⟩
             have HV7 := Lib.hid (HV6.out.below landed hb7)
             have HX7 := Lib.hid (hold11 HX6.out hb7)
             obtain ⟨u0, u1, u2, u3, u4⟩ := box5 HX7.out
             have i3 := HV7.out.rso.c3
             clear hb7 s0 s1 s2 s3 s4 KJ HV6 HX6))
        go_roundw
        case rel => exact ⟨k + 1, _, _, _, _, _, _, _, _, rfl, rfl, by go_num, by omega, Lib.hid (HV7.out.more (Nat.le_succ _))⟩
        case measure => simp [intOf]; omega
      by_cases h1 : kd < 1
      · go_wp2_with (first
          | (with_reducible refine wpList_store_t5 rfl 37 sizeO11 (.tmp 14) (.tmp 53) rfl wr.heap.size rfl _ _ _ _ _ _ _ _ _ _ rfl rfl rfl rfl rfl rfl _ hns ?_; intro w6 hw6 hr6
             obtain ⟨bx, hbx, hr, hn, hv, hj⟩ := HA6.out w6 (hbs.trans (hw6.below (Nat.le_refl _))) hr6
             rw [hij] at hj
             rw [← hbx]
             obtain ⟨s0, s1, s2, s3, s4⟩ := box5 hr
             have HX6 := Lib.hid hr
             have HN6 := Lib.hid hn
             have HV6 := Lib.hid hv
             have KJ := Lib.hid hj
             clear hns hbs hw6 hr6 hbx hr hn hv hj q0 q1 q2 q3 q4 HA6)
          | (go_at_call 10; (with_reducible refine KJ.out.mono ?_); rintro e w7 ⟨rfl, hb7⟩
             have HV7 := Lib.hid (HV6.out.below landed hb7)
             have HX7 := Lib.hid (hold11 HX6.out hb7)
             obtain ⟨u0, u1, u2, u3, u4⟩ := box5 HX7.out
             have i3 := HV7.out.rso.c3
             clear hb7 s0 s1 s2 s3 s4 KJ HV6 HX6))
        go_roundw
        case rel => exact ⟨k + 1, _, _, _, _, _, _, _, _, rfl, rfl, by go_num, by omega, Lib.hid (HV7.out.more (Nat.le_succ _))⟩
        case measure => simp [intOf]; omega
      by_cases e5 : kd = 5
      · subst e5
        go_upto_region 21 with (first
          | (with_reducible refine wpList_store_t5 rfl 37 sizeO11 (.tmp 14) (.tmp 53) rfl wr.heap.size rfl _ _ _ _ _ _ _ _ _ _ rfl rfl rfl rfl rfl rfl _ hns ?_; intro w6 hw6 hr6
             obtain ⟨bx, hbx, hr, hn, hv, hj⟩ := HA6.out w6 (hbs.trans (hw6.below (Nat.le_refl _))) hr6
             rw [hij] at hj
             rw [← hbx]
             obtain ⟨s0, s1, s2, s3, s4⟩ := box5 hr
             have HX6 := Lib.hid hr
             have HN6 := Lib.hid hn
             have HV6 := Lib.hid hv
             have KJ := Lib.hid hj
             clear hns hbs hw6 hr6 hbx hr hn hv hj q0 q1 q2 q3 q4 HA6)
          | (go_at_call 10; (with_reducible refine KJ.out.mono ?_); rintro e w7 ⟨rfl, hb7⟩
             have HV7 := Lib.hid (HV6.out.below landed hb7)
             have HX7 := Lib.hid (hold11 HX6.out hb7)
             obtain ⟨u0, u1, u2, u3, u4⟩ := box5 HX7.out
             have i3 := HV7.out.rso.c3
             have KV := Lib.hid (landed.over HV7.out.inv)
             clear hb7 s0 s1 s2 s3 s4 KJ HV6 HX6)
          | (go_at_call 12; (with_reducible refine KV.out.mono ?_); rintro e w9 ⟨rfl, rfl⟩))
        have HR := Lib.hid (HV7.out.ruin (by have := HLL.out; omega) kl)
        clear HV7 HX7 HN6 u0 u1 u2 u3 u4 i3
        have hen : ∀ (w : World) (ad : Addr) (c : Nat), (binOp .eql 34 (.slice (some ad) 80 c) (.slice none 0 0)).run Tryz.prog w = .ok (.bool false) w := fun _ _ _ => rfl
        have KA := Lib.hid (HR.out.again HK.out tn HTN.out)
        rw [HTE.out] at KA
        go_wp2_with (first
          | (go_at_call 13; (with_reducible refine KA.out.mono ?_); rintro e wa ⟨pb, rfl, hcell, _, hst⟩
             have i3 := hcell _ rfl
             have KS := Lib.hid hst
             clear hcell hst)
          | (go_at_call 14; (with_reducible refine KS.out.mono ?_); rintro e wb ⟨ad, c, rfl, _, hn⟩
             have KW := Lib.hid hn
             clear hn)
          | (go_at_call 8; (with_reducible refine KW.out.mono ?_); rintro e wc ⟨qb4, P4, M4, vS4, X4, r4, rfl, hv4⟩
             have HV4 := Lib.hid hv4
             clear hv4))
        go_roundw
        case rel => exact ⟨k + 1, _, _, _, _, _, _, _, _, rfl, rfl, by go_num, by omega, Lib.hid (HV4.out.more (by omega))⟩
        case measure => simp [intOf]; omega
      · have HC : Hid (kd = 1 ∨ kd = 3 ∨ kd = 4 ∨ ¬ (3 ≤ n ∧ n < 43)) := Lib.hid (by
          have h := hij
          unfold inJo at h
          simp only [Bool.and_eq_false_iff, decide_eq_false_iff_not] at h
          omega)
        have g5 : (kd == 5) = false := by simp [e5]
        have g6 : (kd != 5) = true := by simp [e5]
        go_upto_region 16 with (first
          | (with_reducible refine wpList_store_t5 rfl 37 sizeO11 (.tmp 14) (.tmp 53) rfl wr.heap.size rfl _ _ _ _ _ _ _ _ _ _ rfl rfl rfl rfl rfl rfl _ hns ?_; intro w6 hw6 hr6
             obtain ⟨bx, hbx, hr, hn, hv, hj⟩ := HA6.out w6 (hbs.trans (hw6.below (Nat.le_refl _))) hr6
             rw [hij] at hj
             rw [← hbx]
             obtain ⟨s0, s1, s2, s3, s4⟩ := box5 hr
             have HX6 := Lib.hid hr
             have HN6 := Lib.hid hn
             have HV6 := Lib.hid hv
             have KJ := Lib.hid hj
             clear hns hbs hw6 hr6 hbx hr hn hv hj q0 q1 q2 q3 q4 HA6)
          | (go_at_call 10; (with_reducible refine KJ.out.mono ?_); rintro e w7 ⟨rfl, hb7⟩
             have HV7 := Lib.hid (HV6.out.below landed hb7)
             have HX7 := Lib.hid (hold11 HX6.out hb7)
             obtain ⟨u0, u1, u2, u3, u4⟩ := box5 HX7.out
             have i3 := HV7.out.rso.c3
             have KD := Lib.hid (show Calls Tryz.prog 11 #[(.pointer (some ⟨bs, 0, none⟩)), (.pointer (some ⟨qb, 0, none⟩)), .agg #[.int .i64 kd, .int .i64 n, .int .u8 x, .bool kp, .bool sh]] w7 fun e W' => ∃ b P' M', e = .returned (.bool b) ∧ Chg (fun k => P2 k ∨ M2 k) (fun k => P' k ∨ M' k) w7 W' ∧
               ((b = true ∧ ∃ vS' X' r', Live SInv w (.pointer (some ⟨bd, 0, none⟩)) (.pointer (some ⟨bs, 0, none⟩)) (.pointer (some ⟨qb, 0, none⟩)) f (k + 1 + 1) W' P' M' vS' X' r') ∨ ∃ vI is ds, Over11 w (.pointer (some ⟨bd, 0, none⟩)) (.pointer (some ⟨bs, 0, none⟩)) (.pointer (some ⟨qb, 0, none⟩)) kl W' P' M' vS2 vI r.sts is ds) from HV7.out.doesF (by have := HLL.out; omega) kl ⟨kd, n, x, kp, sh⟩ HOK.out HC.out)
             clear hb7 s0 s1 s2 s3 s4 KJ HV6 HX6)
          | (go_at_call 11; (with_reducible refine KD.out.mono ?_); rintro e w8 ⟨b, P3, M3, rfl, hc8, ho⟩
             have HX8 : Hid (w8.heap[bx]? = _) := Lib.hid ((hc8.keep bx (Array.getElem?_eq_some_iff.1 HX7.out).1 HN6.out).1.trans HX7.out)
             obtain ⟨b0, b1, b2, b3, b4⟩ := box5 HX8.out
             have HO := Lib.hid ho
             clear hc8 ho u0 u1 u2 u3 u4 i3 KD HX7 HX8 HV7))
        rcases HO.out with ⟨rfl, vS3, X3, r3, hv3⟩ | ⟨vI, is, ds3, hov⟩
        · have KV := Lib.hid (landed.over hv3.inv)
          have HV3 := Lib.hid hv3
          clear hv3 HO
          go_wp2_with (go_at_call 12; (with_reducible refine KV.out.mono ?_); rintro e w9 ⟨rfl, rfl⟩)
          go_roundw
          case rel => exact ⟨k + 1, _, _, _, _, _, _, _, _, rfl, rfl, by go_num, by omega, HV3⟩
          case measure => simp [intOf]; omega
        · have KV := Lib.hid (landed.overDead hov.dead)
          have HOV := Lib.hid hov
          clear hov HO
          go_upto_region 20 with (go_at_call 12; (with_reducible refine KV.out.mono ?_); rintro e w9 ⟨rfl, rfl⟩)
          clear KV
          obtain ⟨qb', cur, hqe, hqM, hqP, hqr, hqs, hq0⟩ := HOV.out.c0
          obtain rfl : qb = qb' := by injection hqe with e; injection e with e; injection e with e
          obtain ⟨us, hul, hue, hown⟩ := HOV.out.old
          obtain ⟨aI, cI, hvI, _⟩ := HOV.out.vI.sl.shape
          subst hvI
          obtain ⟨g, wcap, hwas⟩ : ∃ g wcap, vS2 = .slice (some ⟨g, 0, none⟩) r.sts.length wcap := by
            rcases hown.2 with ⟨_, e0⟩ | ⟨g, wcap, cur, e, _⟩
            · have := HOV.out.ne; omega
            · exact ⟨g, wcap, e⟩
          subst hwas
          obtain ⟨u3, hu3⟩ : ∃ u3, w8.cell? ⟨qb, 3, none⟩ = some u3 := by
            rw [cell_of_row _ _ _ _ _ _ hqr]
            exact ⟨_, Array.getElem?_eq_getElem (by omega)⟩
          have HU3 := Lib.hid hu3
          have HQL := Lib.hid (Array.getElem?_eq_some_iff.1 hqr).1
          have HQ0 := Lib.hid hq0
          have HQR := Lib.hid hqr
          have HUL := Lib.hid hul
          have HUE := Lib.hid hue
          have HUS : Hid (∀ u ∈ us, u.oneCell' = true) := Lib.hid (fun u hu => by
            obtain ⟨j, hj, rfl⟩ := List.mem_iff_getElem.1 hu
            obtain ⟨a9, c9, e9, _⟩ := (hue j (by omega)).sl.shape
            rw [List.getD_eq_getElem?_getD, List.getElem?_eq_getElem hj] at e9
            rw [show us[j] = _ from e9]
            rfl)
          obtain ⟨m, hm⟩ : ∃ m, m = r.sts.length := ⟨_, rfl⟩
          have HOWN : Hid (w8.ownsRow 0 34 1 (.slice (some ⟨g, 0, none⟩) m wcap) m us) := Lib.hid (by rw [hm]; exact hown)
          have HM1 : Hid (m ≤ 1000) := Lib.hid (by rw [hm]; exact HOV.out.few)
          have HMM := Lib.hid hm
          rw [← hm]
          have hS : w8.drew.cell? ⟨qb, 0, none⟩ = some (.slice aI is.length cI) := hq0
          clear hm hqe hqM hqP hqr hqs hq0 hul hue hown hu3
          refine wp_region_held_drew (S := fun W => W.cell? ⟨qb, 0, none⟩ = some (.slice aI is.length cI)) (by kernel_rfl) hS (fun hHeld => ?_)
          clear hHeld
          refine wpAnyH_take (i := 0) (v := .pointer (some ⟨qb, 0, none⟩)) rfl (by kernel_rfl) (by kernel_rfl) (by kernel_rfl) (fun _ _ _ h => h) (Or.inl ⟨by rfl, ?_⟩) (by assumption) ?_
          · intro W hSw
            go_simp
          (try simp only [Act.put, List.setIfInBounds_toArray, List.set_cons_zero, List.set_cons_succ, List.getElem_toArray, List.getElem_cons_zero, List.getElem_cons_succ])
          refine wpAnyH_take (i := 2) (v := .slice (some ⟨g, 0, none⟩) m wcap) rfl (by kernel_rfl) (by kernel_rfl) (by kernel_rfl) (fun _ _ _ h => h) (Or.inl ⟨by rfl, ?_⟩) (by assumption) ?_
          · intro W hSw
            go_simp
          (try simp only [Act.put, List.setIfInBounds_toArray, List.set_cons_zero, List.set_cons_succ, List.getElem_toArray, List.getElem_cons_zero, List.getElem_cons_succ])
          refine wpAnyH_take (i := 4) (v := .pointer (some ⟨qb, 0, none⟩)) rfl (by kernel_rfl) (by kernel_rfl) (by kernel_rfl) (fun _ _ _ h => h) (Or.inl ⟨by rfl, ?_⟩) (by assumption) ?_
          · intro W hSw
            go_simp
          (try simp only [Act.put, List.setIfInBounds_toArray, List.set_cons_zero, List.set_cons_succ, List.getElem_toArray, List.getElem_cons_zero, List.getElem_cons_succ])
          refine wpAnyH_take (i := 5) (v := .pointer (some ⟨qb, 0, none⟩)) rfl (by kernel_rfl) (by kernel_rfl) (by kernel_rfl) (fun _ _ _ h => h) (Or.inl ⟨by rfl, ?_⟩) (by assumption) ?_
          · intro W hSw
            go_simp
          (try simp only [Act.put, List.setIfInBounds_toArray, List.set_cons_zero, List.set_cons_succ, List.getElem_toArray, List.getElem_cons_zero, List.getElem_cons_succ])
          refine wpAnyH_take (i := 6) (v := .pointer (some ⟨qb, 0, none⟩)) rfl (by kernel_rfl) (by kernel_rfl) (by kernel_rfl) (fun _ _ _ h => h) (Or.inl ⟨by rfl, ?_⟩) (by assumption) ?_
          · intro W hSw
            go_simp
          (try simp only [Act.put, List.setIfInBounds_toArray, List.set_cons_zero, List.set_cons_succ, List.getElem_toArray, List.getElem_cons_zero, List.getElem_cons_succ])
          refine wpAnyH_take (i := 7) (v := .slice aI is.length cI) rfl (by kernel_rfl) (by kernel_rfl) (by kernel_rfl) (fun _ _ _ h => h) (Or.inl ⟨by rfl, ?_⟩) (by assumption) ?_
          · intro W hSw
            go_simp
          (try simp only [Act.put, List.setIfInBounds_toArray, List.set_cons_zero, List.set_cons_succ, List.getElem_toArray, List.getElem_cons_zero, List.getElem_cons_succ])
          refine wpAnyH_ready (rs := [1, 8]) (by kernel_rfl) (by simp) (AllReadyH.cons rfl (fun K hK => ?_) (AllReadyH.cons rfl (fun K hK => ?_) (AllReadyH.nil)))
          · go_simp
            obtain ⟨wA, hwwA⟩ : ∃ W, W = (w8.alloc (.cells #[] 34)).drew := ⟨_, rfl⟩
            rw [← hwwA]
            have HBwA : Hid (Below w8.heap.size w8 wA) := Lib.hid (by rw [hwwA]; exact (below_box w8 _).drew)
            have HEwA : Hid (wA.heap[w8.heap.size]? = some (.cells #[] 34 (0, 0))) := Lib.hid (by rw [hwwA]; exact heap_alloc_new w8 _)
            clear hwwA
            have hSwA : wA.cell? ⟨qb, 0, none⟩ = some (.slice aI is.length cI) := (HBwA.out.cell (p := ⟨qb, 0, none⟩) HQL.out).trans HQ0.out
            refine hK.out _ _ hSwA (fun hHeld => ?_)
            clear hK K hHeld hS
            (try simp only [Act.put, List.setIfInBounds_toArray, List.set_cons_zero, List.set_cons_succ, List.getElem_toArray, List.getElem_cons_zero, List.getElem_cons_succ])
            refine wpAnyH_ready (rs := [3, 8]) (by kernel_rfl) (by simp) (AllReadyH.cons rfl (fun K hK => ?_) (AllReadyH.cons rfl (fun K hK => ?_) (AllReadyH.nil)))
            · obtain ⟨v1, wB, hrun, ho1, hbb, hkk⟩ := st_step3 HBwA.out HEwA.out (Nat.le_refl _) HOWN.out HUS.out HM1.out 40
              have HBwB := Lib.hid hbb
              have HOwB := Lib.hid ho1
              clear ho1 hbb hkk
              refine step_append_run (by rfl) (.tmp 92) (.tmp 93) 40 40 (by rfl) (by rfl) _ _ _ _ (by rfl) (by rfl) hrun ?_
              clear hrun
              have hSwB : wB.cell? ⟨qb, 0, none⟩ = some (.slice aI is.length cI) := (HBwB.out.cell (p := ⟨qb, 0, none⟩) HQL.out).trans HQ0.out
              refine hK.out _ _ hSwB (fun hHeld => ?_)
              clear hK K hHeld hSwA
              (try simp only [Act.put, List.setIfInBounds_toArray, List.set_cons_zero, List.set_cons_succ, List.getElem_toArray, List.getElem_cons_zero, List.getElem_cons_succ])
              refine wpAnyH_ready (rs := [8]) (by kernel_rfl) (by simp) (AllReadyH.cons rfl (fun K hK => ?_) (AllReadyH.nil))
              go_simp
              obtain ⟨wC, hwwC⟩ : ∃ W, W = wB.alloc (.cells #[.slice aI is.length cI] 34) := ⟨_, rfl⟩
              rw [← hwwC]
              have HBwC : Hid (Below w8.heap.size w8 wC) := Lib.hid (by rw [hwwC]; exact HBwB.out.trans ((below_box wB _).mono HBwB.out.size))
              have HQwC : Hid (wC.heap[wB.heap.size]? = some (.cells #[.slice aI is.length cI] 34 (0, 0))) := Lib.hid (by rw [hwwC]; exact heap_alloc_new wB _)
              have HOwC : Hid (wC.ownsRow w8.heap.size 34 1 v1 m us) := Lib.hid (by rw [hwwC]; exact ownsRow_keep HOwB.out fun g hg => (below_box wB _).block g (HOwB.out.lt g hg).2)
              clear hwwC
              have hSwC : wC.cell? ⟨qb, 0, none⟩ = some (.slice aI is.length cI) := (HBwC.out.cell (p := ⟨qb, 0, none⟩) HQL.out).trans HQ0.out
              refine hK.out _ _ hSwC (fun hHeld => ?_)
              clear hK K hHeld hSwB
              (try simp only [Act.put, List.setIfInBounds_toArray, List.set_cons_zero, List.set_cons_succ, List.getElem_toArray, List.getElem_cons_zero, List.getElem_cons_succ])
              refine wpAnyH_ready (rs := [9]) (by kernel_rfl) (by simp) (AllReadyH.cons rfl (fun K hK => ?_) (AllReadyH.nil))
              obtain ⟨v2, wD, hrun, ho2, hbb⟩ := st_step9 HBwC.out HOwC.out HQwC.out rfl HM1.out 40
              obtain ⟨av2, cv2, rfl⟩ := ownsRow_shape ho2
              have HBwD := Lib.hid hbb
              have HO2 := Lib.hid ho2
              have hi3 : wD.cell? ⟨qb, 3, none⟩ = some u3 := (hbb.cell (p := ⟨qb, 3, none⟩) HQL.out).trans HU3.out
              have hf3 : wD.frozen? ⟨qb, 3, none⟩ = false := by
                have e : wD.heap[qb]? = some (.cells cur 42 (0, 0)) := (hbb.block qb HQL.out).trans HQR.out
                simp [World.frozen?, e]
              clear ho2 hbb
              refine step_append_run (by rfl) (.tmp 94) (.tmp 99) 40 40 (by rfl) (by rfl) _ _ _ _ (by rfl) (by rfl) hrun ?_
              clear hrun
              have hSwD : wD.cell? ⟨qb, 0, none⟩ = some (.slice aI is.length cI) := (HBwD.out.cell (p := ⟨qb, 0, none⟩) HQL.out).trans HQ0.out
              refine hK.out _ _ hSwD (fun hHeld => ?_)
              clear hK K hHeld hSwC
              (try simp only [Act.put, List.setIfInBounds_toArray, List.set_cons_zero, List.set_cons_succ, List.getElem_toArray, List.getElem_cons_zero, List.getElem_cons_succ])
              refine wpAnyH_take (i := 10) (v := .pointer (some ⟨qb, 0, none⟩)) rfl (by kernel_rfl) (by kernel_rfl) (by kernel_rfl) (fun _ _ _ h => h) (Or.inl ⟨by rfl, ?_⟩) (by assumption) ?_
              · intro W hSw
                go_simp
              (try simp only [Act.put, List.setIfInBounds_toArray, List.set_cons_zero, List.set_cons_succ, List.getElem_toArray, List.getElem_cons_zero, List.getElem_cons_succ])
              refine wpAnyH_take (i := 11) (v := .pointer (some ⟨qb, 3, none⟩)) rfl (by kernel_rfl) (by kernel_rfl) (by kernel_rfl) (fun _ _ _ h => h) (Or.inl ⟨by rfl, ?_⟩) (by assumption) ?_
              · intro W hSw
                go_simp
              (try simp only [Act.put, List.setIfInBounds_toArray, List.set_cons_zero, List.set_cons_succ, List.getElem_toArray, List.getElem_cons_zero, List.getElem_cons_succ])
              refine wpAnyH_ready (rs := [12]) (by kernel_rfl) (by simp) (AllReadyH.cons rfl (fun K hK => ?_) (AllReadyH.nil))
              go_simp
              refine hK.out _ _ ((World.cell?_setCell_other _ ⟨qb, 3, none⟩ ⟨qb, 0, none⟩ _ (by simp)).trans hSwD) (fun hHeld => ?_)
              clear hK K hHeld hi3 hf3 hSwD
              (try simp only [Act.put, List.setIfInBounds_toArray, List.set_cons_zero, List.set_cons_succ, List.getElem_toArray, List.getElem_cons_zero, List.getElem_cons_succ])
              refine wpAnyH_done (by kernel_rfl) ?_ _
              have HR : Hid (Ruin w (.pointer (some ⟨bd, 0, none⟩)) (.pointer (some ⟨qb, 0, none⟩)) kl (wD.setCell ⟨qb, 3, none⟩ (.slice av2 (m + 1) cv2)) P3 M3 (.slice av2 (m + 1) cv2) (r.sts ++ [is]) ds3) := Lib.hid (HOV.out.ruin HUL.out HUE.out HBwD.out (by rw [← HMM.out]; exact HO2.out))
              have hen : ∀ (w : World) (ad : Addr) (c : Nat), (binOp .eql 34 (.slice (some ad) 80 c) (.slice none 0 0)).run Tryz.prog w = .ok (.bool false) w := fun _ _ _ => rfl
              have KA := Lib.hid (HR.out.again HK.out tn HTN.out)
              rw [HTE.out] at KA
              go_wp2_with (first
                | (go_at_call 13; (with_reducible refine KA.out.mono ?_); rintro e wa ⟨pb, rfl, hcell, _, hst⟩
                   have i3 := hcell _ rfl
                   have KS := Lib.hid hst
                   clear hcell hst)
                | (go_at_call 14; (with_reducible refine KS.out.mono ?_); rintro e wb ⟨ad, c, rfl, _, hn⟩
                   have KW := Lib.hid hn
                   clear hn)
                | (go_at_call 8; (with_reducible refine KW.out.mono ?_); rintro e wc ⟨qb4, P4, M4, vS4, X4, r4, rfl, hv4⟩
                   have HV4 := Lib.hid hv4
                   clear hv4))
              go_roundw
              case rel => exact ⟨k + 1, _, _, _, _, _, _, _, _, rfl, rfl, by go_num, by omega, Lib.hid (HV4.out.more (by omega))⟩
              case measure => simp [intOf]; omega
            · go_simp
              obtain ⟨wB, hwwB⟩ : ∃ W, W = wA.alloc (.cells #[.slice aI is.length cI] 34) := ⟨_, rfl⟩
              rw [← hwwB]
              have HBwB : Hid (Below w8.heap.size w8 wB) := Lib.hid (by rw [hwwB]; exact HBwA.out.trans ((below_box wA _).mono HBwA.out.size))
              have HQwB : Hid (wB.heap[wA.heap.size]? = some (.cells #[.slice aI is.length cI] 34 (0, 0))) := Lib.hid (by rw [hwwB]; exact heap_alloc_new wA _)
              have HEwB : Hid (wB.heap[w8.heap.size]? = some (.cells #[] 34 (0, 0))) := Lib.hid (by rw [hwwB]; exact hold11 HEwA.out (below_box wA _))
              clear hwwB
              have hSwB : wB.cell? ⟨qb, 0, none⟩ = some (.slice aI is.length cI) := (HBwB.out.cell (p := ⟨qb, 0, none⟩) HQL.out).trans HQ0.out
              refine hK.out _ _ hSwB (fun hHeld => ?_)
              clear hK K hHeld hSwA
              (try simp only [Act.put, List.setIfInBounds_toArray, List.set_cons_zero, List.set_cons_succ, List.getElem_toArray, List.getElem_cons_zero, List.getElem_cons_succ])
              refine wpAnyH_ready (rs := [3]) (by kernel_rfl) (by simp) (AllReadyH.cons rfl (fun K hK => ?_) (AllReadyH.nil))
              have HN8 : Hid (w8.heap.size < wA.heap.size) := Lib.hid (Array.getElem?_eq_some_iff.1 HEwA.out).1
              obtain ⟨v1, wC, hrun, ho1, hbb, hkk⟩ := st_step3 HBwB.out HEwB.out (Nat.le_refl _) HOWN.out HUS.out HM1.out 40
              have HBwC := Lib.hid hbb
              have HOwC := Lib.hid ho1
              have HQwC : Hid (wC.heap[wA.heap.size]? = some (.cells #[.slice aI is.length cI] 34 (0, 0))) := Lib.hid ((hkk _ (by first | exact Nat.ne_of_gt (by first | exact HN8.out | assumption) | exact Nat.ne_of_lt (by first | exact HN8.out | assumption)) (Array.getElem?_eq_some_iff.1 HQwB.out).1).trans HQwB.out)
              clear ho1 hbb hkk
              refine step_append_run (by rfl) (.tmp 92) (.tmp 93) 40 40 (by rfl) (by rfl) _ _ _ _ (by rfl) (by rfl) hrun ?_
              clear hrun
              have hSwC : wC.cell? ⟨qb, 0, none⟩ = some (.slice aI is.length cI) := (HBwC.out.cell (p := ⟨qb, 0, none⟩) HQL.out).trans HQ0.out
              refine hK.out _ _ hSwC (fun hHeld => ?_)
              clear hK K hHeld hSwB
              (try simp only [Act.put, List.setIfInBounds_toArray, List.set_cons_zero, List.set_cons_succ, List.getElem_toArray, List.getElem_cons_zero, List.getElem_cons_succ])
              refine wpAnyH_ready (rs := [9]) (by kernel_rfl) (by simp) (AllReadyH.cons rfl (fun K hK => ?_) (AllReadyH.nil))
              obtain ⟨v2, wD, hrun, ho2, hbb⟩ := st_step9 HBwC.out HOwC.out HQwC.out rfl HM1.out 40
              obtain ⟨av2, cv2, rfl⟩ := ownsRow_shape ho2
              have HBwD := Lib.hid hbb
              have HO2 := Lib.hid ho2
              have hi3 : wD.cell? ⟨qb, 3, none⟩ = some u3 := (hbb.cell (p := ⟨qb, 3, none⟩) HQL.out).trans HU3.out
              have hf3 : wD.frozen? ⟨qb, 3, none⟩ = false := by
                have e : wD.heap[qb]? = some (.cells cur 42 (0, 0)) := (hbb.block qb HQL.out).trans HQR.out
                simp [World.frozen?, e]
              clear ho2 hbb
              refine step_append_run (by rfl) (.tmp 94) (.tmp 99) 40 40 (by rfl) (by rfl) _ _ _ _ (by rfl) (by rfl) hrun ?_
              clear hrun
              have hSwD : wD.cell? ⟨qb, 0, none⟩ = some (.slice aI is.length cI) := (HBwD.out.cell (p := ⟨qb, 0, none⟩) HQL.out).trans HQ0.out
              refine hK.out _ _ hSwD (fun hHeld => ?_)
              clear hK K hHeld hSwC
              (try simp only [Act.put, List.setIfInBounds_toArray, List.set_cons_zero, List.set_cons_succ, List.getElem_toArray, List.getElem_cons_zero, List.getElem_cons_succ])
              refine wpAnyH_take (i := 10) (v := .pointer (some ⟨qb, 0, none⟩)) rfl (by kernel_rfl) (by kernel_rfl) (by kernel_rfl) (fun _ _ _ h => h) (Or.inl ⟨by rfl, ?_⟩) (by assumption) ?_
              · intro W hSw
                go_simp
              (try simp only [Act.put, List.setIfInBounds_toArray, List.set_cons_zero, List.set_cons_succ, List.getElem_toArray, List.getElem_cons_zero, List.getElem_cons_succ])
              refine wpAnyH_take (i := 11) (v := .pointer (some ⟨qb, 3, none⟩)) rfl (by kernel_rfl) (by kernel_rfl) (by kernel_rfl) (fun _ _ _ h => h) (Or.inl ⟨by rfl, ?_⟩) (by assumption) ?_
              · intro W hSw
                go_simp
              (try simp only [Act.put, List.setIfInBounds_toArray, List.set_cons_zero, List.set_cons_succ, List.getElem_toArray, List.getElem_cons_zero, List.getElem_cons_succ])
              refine wpAnyH_ready (rs := [12]) (by kernel_rfl) (by simp) (AllReadyH.cons rfl (fun K hK => ?_) (AllReadyH.nil))
              go_simp
              refine hK.out _ _ ((World.cell?_setCell_other _ ⟨qb, 3, none⟩ ⟨qb, 0, none⟩ _ (by simp)).trans hSwD) (fun hHeld => ?_)
              clear hK K hHeld hi3 hf3 hSwD
              (try simp only [Act.put, List.setIfInBounds_toArray, List.set_cons_zero, List.set_cons_succ, List.getElem_toArray, List.getElem_cons_zero, List.getElem_cons_succ])
              refine wpAnyH_done (by kernel_rfl) ?_ _
              have HR : Hid (Ruin w (.pointer (some ⟨bd, 0, none⟩)) (.pointer (some ⟨qb, 0, none⟩)) kl (wD.setCell ⟨qb, 3, none⟩ (.slice av2 (m + 1) cv2)) P3 M3 (.slice av2 (m + 1) cv2) (r.sts ++ [is]) ds3) := Lib.hid (HOV.out.ruin HUL.out HUE.out HBwD.out (by rw [← HMM.out]; exact HO2.out))
              have hen : ∀ (w : World) (ad : Addr) (c : Nat), (binOp .eql 34 (.slice (some ad) 80 c) (.slice none 0 0)).run Tryz.prog w = .ok (.bool false) w := fun _ _ _ => rfl
              have KA := Lib.hid (HR.out.again HK.out tn HTN.out)
              rw [HTE.out] at KA
              go_wp2_with (first
                | (go_at_call 13; (with_reducible refine KA.out.mono ?_); rintro e wa ⟨pb, rfl, hcell, _, hst⟩
                   have i3 := hcell _ rfl
                   have KS := Lib.hid hst
                   clear hcell hst)
                | (go_at_call 14; (with_reducible refine KS.out.mono ?_); rintro e wb ⟨ad, c, rfl, _, hn⟩
                   have KW := Lib.hid hn
                   clear hn)
                | (go_at_call 8; (with_reducible refine KW.out.mono ?_); rintro e wc ⟨qb4, P4, M4, vS4, X4, r4, rfl, hv4⟩
                   have HV4 := Lib.hid hv4
                   clear hv4))
              go_roundw
              case rel => exact ⟨k + 1, _, _, _, _, _, _, _, _, rfl, rfl, by go_num, by omega, Lib.hid (HV4.out.more (by omega))⟩
              case measure => simp [intOf]; omega
          · go_simp
            obtain ⟨wA, hwwA⟩ : ∃ W, W = (w8.alloc (.cells #[.slice aI is.length cI] 34)).drew := ⟨_, rfl⟩
            rw [← hwwA]
            have HBwA : Hid (Below w8.heap.size w8 wA) := Lib.hid (by rw [hwwA]; exact (below_box w8 _).drew)
            have HQwA : Hid (wA.heap[w8.heap.size]? = some (.cells #[.slice aI is.length cI] 34 (0, 0))) := Lib.hid (by rw [hwwA]; exact heap_alloc_new w8 _)
            clear hwwA
            have hSwA : wA.cell? ⟨qb, 0, none⟩ = some (.slice aI is.length cI) := (HBwA.out.cell (p := ⟨qb, 0, none⟩) HQL.out).trans HQ0.out
            refine hK.out _ _ hSwA (fun hHeld => ?_)
            clear hK K hHeld hS
            (try simp only [Act.put, List.setIfInBounds_toArray, List.set_cons_zero, List.set_cons_succ, List.getElem_toArray, List.getElem_cons_zero, List.getElem_cons_succ])
            refine wpAnyH_ready (rs := [1]) (by kernel_rfl) (by simp) (AllReadyH.cons rfl (fun K hK => ?_) (AllReadyH.nil))
            go_simp
            obtain ⟨wB, hwwB⟩ : ∃ W, W = wA.alloc (.cells #[] 34) := ⟨_, rfl⟩
            rw [← hwwB]
            have HBwB : Hid (Below w8.heap.size w8 wB) := Lib.hid (by rw [hwwB]; exact HBwA.out.trans ((below_box wA _).mono HBwA.out.size))
            have HEwB : Hid (wB.heap[wA.heap.size]? = some (.cells #[] 34 (0, 0))) := Lib.hid (by rw [hwwB]; exact heap_alloc_new wA _)
            have HQwB : Hid (wB.heap[w8.heap.size]? = some (.cells #[.slice aI is.length cI] 34 (0, 0))) := Lib.hid (by rw [hwwB]; exact hold11 HQwA.out (below_box wA _))
            clear hwwB
            have hSwB : wB.cell? ⟨qb, 0, none⟩ = some (.slice aI is.length cI) := (HBwB.out.cell (p := ⟨qb, 0, none⟩) HQL.out).trans HQ0.out
            refine hK.out _ _ hSwB (fun hHeld => ?_)
            clear hK K hHeld hSwA
            (try simp only [Act.put, List.setIfInBounds_toArray, List.set_cons_zero, List.set_cons_succ, List.getElem_toArray, List.getElem_cons_zero, List.getElem_cons_succ])
            refine wpAnyH_ready (rs := [3]) (by kernel_rfl) (by simp) (AllReadyH.cons rfl (fun K hK => ?_) (AllReadyH.nil))
            have HN8 : Hid (w8.heap.size < wA.heap.size) := Lib.hid (Array.getElem?_eq_some_iff.1 HQwA.out).1
            obtain ⟨v1, wC, hrun, ho1, hbb, hkk⟩ := st_step3 HBwB.out HEwB.out (by first | exact HBwA.out.size | exact Nat.le_refl _) HOWN.out HUS.out HM1.out 40
            have HBwC := Lib.hid hbb
            have HOwC := Lib.hid ho1
            have HQwC : Hid (wC.heap[w8.heap.size]? = some (.cells #[.slice aI is.length cI] 34 (0, 0))) := Lib.hid ((hkk _ (by first | exact Nat.ne_of_gt (by first | exact HN8.out | assumption) | exact Nat.ne_of_lt (by first | exact HN8.out | assumption)) (Array.getElem?_eq_some_iff.1 HQwB.out).1).trans HQwB.out)
            clear ho1 hbb hkk
            refine step_append_run (by rfl) (.tmp 92) (.tmp 93) 40 40 (by rfl) (by rfl) _ _ _ _ (by rfl) (by rfl) hrun ?_
            clear hrun
            have hSwC : wC.cell? ⟨qb, 0, none⟩ = some (.slice aI is.length cI) := (HBwC.out.cell (p := ⟨qb, 0, none⟩) HQL.out).trans HQ0.out
            refine hK.out _ _ hSwC (fun hHeld => ?_)
            clear hK K hHeld hSwB
            (try simp only [Act.put, List.setIfInBounds_toArray, List.set_cons_zero, List.set_cons_succ, List.getElem_toArray, List.getElem_cons_zero, List.getElem_cons_succ])
            refine wpAnyH_ready (rs := [9]) (by kernel_rfl) (by simp) (AllReadyH.cons rfl (fun K hK => ?_) (AllReadyH.nil))
            obtain ⟨v2, wD, hrun, ho2, hbb⟩ := st_step9 HBwC.out HOwC.out HQwC.out rfl HM1.out 40
            obtain ⟨av2, cv2, rfl⟩ := ownsRow_shape ho2
            have HBwD := Lib.hid hbb
            have HO2 := Lib.hid ho2
            have hi3 : wD.cell? ⟨qb, 3, none⟩ = some u3 := (hbb.cell (p := ⟨qb, 3, none⟩) HQL.out).trans HU3.out
            have hf3 : wD.frozen? ⟨qb, 3, none⟩ = false := by
              have e : wD.heap[qb]? = some (.cells cur 42 (0, 0)) := (hbb.block qb HQL.out).trans HQR.out
              simp [World.frozen?, e]
            clear ho2 hbb
            refine step_append_run (by rfl) (.tmp 94) (.tmp 99) 40 40 (by rfl) (by rfl) _ _ _ _ (by rfl) (by rfl) hrun ?_
            clear hrun
            have hSwD : wD.cell? ⟨qb, 0, none⟩ = some (.slice aI is.length cI) := (HBwD.out.cell (p := ⟨qb, 0, none⟩) HQL.out).trans HQ0.out
            refine hK.out _ _ hSwD (fun hHeld => ?_)
            clear hK K hHeld hSwC
            (try simp only [Act.put, List.setIfInBounds_toArray, List.set_cons_zero, List.set_cons_succ, List.getElem_toArray, List.getElem_cons_zero, List.getElem_cons_succ])
            refine wpAnyH_take (i := 10) (v := .pointer (some ⟨qb, 0, none⟩)) rfl (by kernel_rfl) (by kernel_rfl) (by kernel_rfl) (fun _ _ _ h => h) (Or.inl ⟨by rfl, ?_⟩) (by assumption) ?_
            · intro W hSw
              go_simp
            (try simp only [Act.put, List.setIfInBounds_toArray, List.set_cons_zero, List.set_cons_succ, List.getElem_toArray, List.getElem_cons_zero, List.getElem_cons_succ])
            refine wpAnyH_take (i := 11) (v := .pointer (some ⟨qb, 3, none⟩)) rfl (by kernel_rfl) (by kernel_rfl) (by kernel_rfl) (fun _ _ _ h => h) (Or.inl ⟨by rfl, ?_⟩) (by assumption) ?_
            · intro W hSw
              go_simp
            (try simp only [Act.put, List.setIfInBounds_toArray, List.set_cons_zero, List.set_cons_succ, List.getElem_toArray, List.getElem_cons_zero, List.getElem_cons_succ])
            refine wpAnyH_ready (rs := [12]) (by kernel_rfl) (by simp) (AllReadyH.cons rfl (fun K hK => ?_) (AllReadyH.nil))
            go_simp
            refine hK.out _ _ ((World.cell?_setCell_other _ ⟨qb, 3, none⟩ ⟨qb, 0, none⟩ _ (by simp)).trans hSwD) (fun hHeld => ?_)
            clear hK K hHeld hi3 hf3 hSwD
            (try simp only [Act.put, List.setIfInBounds_toArray, List.set_cons_zero, List.set_cons_succ, List.getElem_toArray, List.getElem_cons_zero, List.getElem_cons_succ])
            refine wpAnyH_done (by kernel_rfl) ?_ _
            have HR : Hid (Ruin w (.pointer (some ⟨bd, 0, none⟩)) (.pointer (some ⟨qb, 0, none⟩)) kl (wD.setCell ⟨qb, 3, none⟩ (.slice av2 (m + 1) cv2)) P3 M3 (.slice av2 (m + 1) cv2) (r.sts ++ [is]) ds3) := Lib.hid (HOV.out.ruin HUL.out HUE.out HBwD.out (by rw [← HMM.out]; exact HO2.out))
            have hen : ∀ (w : World) (ad : Addr) (c : Nat), (binOp .eql 34 (.slice (some ad) 80 c) (.slice none 0 0)).run Tryz.prog w = .ok (.bool false) w := fun _ _ _ => rfl
            have KA := Lib.hid (HR.out.again HK.out tn HTN.out)
            rw [HTE.out] at KA
            go_wp2_with (first
              | (go_at_call 13; (with_reducible refine KA.out.mono ?_); rintro e wa ⟨pb, rfl, hcell, _, hst⟩
                 have i3 := hcell _ rfl
                 have KS := Lib.hid hst
                 clear hcell hst)
              | (go_at_call 14; (with_reducible refine KS.out.mono ?_); rintro e wb ⟨ad, c, rfl, _, hn⟩
                 have KW := Lib.hid hn
                 clear hn)
              | (go_at_call 8; (with_reducible refine KW.out.mono ?_); rintro e wc ⟨qb4, P4, M4, vS4, X4, r4, rfl, hv4⟩
                 have HV4 := Lib.hid hv4
                 clear hv4))
            go_roundw
            case rel => exact ⟨k + 1, _, _, _, _, _, _, _, _, rfl, rfl, by go_num, by omega, Lib.hid (HV4.out.more (by omega))⟩
            case measure => simp [intOf]; omega
    · obtain rfl : k = L := by omega
      have HR := Lib.hid (HV.out.ruin (by have := HLL.out; omega) kl)
      clear HV
      have hen : ∀ (w : World) (ad : Addr) (c : Nat), (binOp .neq 34 (.slice (some ad) 80 c) (.slice none 0 0)).run Tryz.prog w = .ok (.bool true) w := fun _ _ _ => rfl
      have KA := Lib.hid (HR.out.again HK.out tn HTN.out)
      rw [HTE.out] at KA
      go_wp2_with (first
        | (go_at_call 13; (with_reducible refine KA.out.mono ?_); rintro e wa ⟨pb, rfl, hcell, _, hst⟩
           have i3 := hcell _ rfl
           have KS := Lib.hid hst
           clear hcell hst)
        | (go_at_call 14; (with_reducible refine KS.out.mono ?_); rintro e wb ⟨ad, c, rfl, hlow, _⟩
           have HLO := Lib.hid hlow
           clear hlow))
      go_ret
      exact ⟨rfl, HLO.out⟩
end Go.Proofs.YtigbhdgcjklhoaaGreat
