/- The law StorePlays. -/
import Derived.OrdersHeld
import Derived.Deep.CutRange
import Derived.Test.YtigbhdgcjklhoaaF16
import Derived.Test.YtigbhdgcjklhoaaF17
namespace Go.Proofs.Ytigbhdgcjklhoaa
set_option maxRecDepth 100000
open Go.RowKit
set_option linter.unusedVariables false

/-- Is the call passed by? -/
def skipB (kd n : Int) : Bool := ((decide (kd < 1) || decide (5 < kd)) && (decide (3 ≤ n) && decide (n < 43))) || decide (kd = 5)
theorem skipB_no {kd n : Int} (h : skipB kd n = false) (hj : inJo kd n = false) : kd = 1 ∨ kd = 3 ∨ kd = 4 ∨ ¬ (3 ≤ n ∧ n < 43) := by
  unfold skipB at h
  unfold inJo at hj
  simp only [Bool.or_eq_false_iff, Bool.and_eq_false_iff, decide_eq_false_iff_not] at h hj
  omega
/-- The cells of a call's box. -/
theorem box5 {W : World} {bx : Nat} {kd n x : Int} {kp sh : Bool} (h : W.heap[bx]? = some (.cells #[.int .i64 kd, .int .i64 n, .int .u8 x, .bool kp, .bool sh] 35 (0, 0))) : W.cell? ⟨bx, 0, none⟩ = some (.int .i64 kd) ∧ W.cell? ⟨bx, 1, none⟩ = some (.int .i64 n) ∧ W.cell? ⟨bx, 2, none⟩ = some (.int .u8 x) ∧ W.cell? ⟨bx, 3, none⟩ = some (.bool kp) ∧ W.cell? ⟨bx, 4, none⟩ = some (.bool sh) :=
  ⟨(box_cell h rfl).1, (box_cell h rfl).1, (box_cell h rfl).1, (box_cell h rfl).1, (box_cell h rfl).1⟩
theorem set1 {w W W' : World} {P P' : Nat → Prop} (ho : ∀ k, P k → w.heap.size ≤ k) (hb : Below w.heap.size w W) (hc : Chg P P' W W') : (∀ k, P' k → w.heap.size ≤ k) ∧ Below w.heap.size w W' :=
  ⟨fun k hk => (chg_new hc hk).elim (ho k) fun e => Nat.le_trans hb.size e, hb.trans (hc.below fun k hk => ⟨Nat.lt_of_lt_of_le hk hb.size, fun e => by have := ho k e; omega⟩)⟩
section
variable {Inv : World → (Nat → Prop) → Value → Value → XSt → Prop} {Dead : World → (Nat → Prop) → Value → Value → DS → Prop} (S : Sto Inv Dead)
include S
/-- Behind Open, zeros, NewStore. -/
theorem set2 {w W3 W4 W5 : World} {P M : Nat → Prop} {d p q vS : Value} {ds : DS} {f : Bool} (hI : Inv W3 P d p ⟨List.replicate 80 zb, List.replicate 80 zb, [], [], false, 0, ds⟩) (hf : ds.fu = f) (ho : ∀ k, P k → w.heap.size ≤ k) (hb : Below w.heap.size w W3) (hb4 : Below W3.heap.size W3 W4)
    (hr : RSo W5 P M q vS ⟨List.replicate 80 zb, [], [], [List.replicate 80 zb], false⟩) (hb5 : Below W4.heap.size W4 W5) (hM : ∀ k, M k → W4.heap.size ≤ k) :
    Live Inv w d p q f 1 W5 P M vS ⟨List.replicate 80 zb, List.replicate 80 zb, [], [], false, 0, ds⟩ ⟨List.replicate 80 zb, [], [], [List.replicate 80 zb], false⟩ := by
  have h35 : Below W3.heap.size W3 W5 := hb4.trans (hb5.mono hb4.size)
  refine Live.new (S.keep hI h35.size fun k hk => h35.block k (S.lt hI k hk)) hr hf ?_ (hb.trans (h35.mono hb.size))
  rintro k (hk | hk)
  · exact ho k hk
  · exact Nat.le_trans (Nat.le_trans hb.size hb4.size) (hM k hk)
end
theorem shape80 {W : World} {P : Nat → Prop} {v : Value} (h : BBa W P v (List.replicate 80 zb)) : ∃ a c, v = .slice a 80 c := by
  obtain ⟨a, c, e, _⟩ := h.sl.shape
  exact ⟨a, c, by rw [e, List.length_replicate]⟩
theorem sizeO11 : (Try.prog.info? 35).map (·.size) = some 5 := by kernel_rfl
theorem wpList_store_t5 {ops : Array Oper} {rest : List Oper} {o : Oper} {a : Act} {w : World} {Q : Exit → Act → World → Prop} (hgd : o.guard = none) (ty : TypeId) (hi : (Try.prog.info? ty).map (·.size) = some 5) (x y : Operand) (ho : o.op = .store ty x y)
    (g : Nat) (hx : a.eval x = .pointer (some ⟨g, 0, none⟩)) (z0 z1 z2 z3 z4 y0 y1 y2 y3 y4 : Value) (hy : a.eval y = .agg #[z0, z1, z2, z3, z4]) (h0 : z0.oneCell' = true) (h1 : z1.oneCell' = true) (h2 : z2.oneCell' = true) (h3 : z3.oneCell' = true) (h4 : z4.oneCell' = true) (T : TypeId) (hg : w.heap[g]? = some (.cells #[y0, y1, y2, y3, y4] T (0, 0)))
    (h : ∀ w', Wrote w w' g → w'.heap[g]? = some (.cells #[z0, z1, z2, z3, z4] T (0, 0)) → wpList Try.prog ops Q rest (a.put o.dst undef) w') : wpList Try.prog ops Q (o :: rest) a w :=
  wpList_store_row hgd ty x y ho g #[z0, z1, z2, z3, z4] hx hy T _ hg hi rfl (by simp [h0, h1, h2, h3, h4]) (h _ (Wrote.setRow _ _ _) (setRow_heap _ _ _ _ _ _ hg))
theorem OpsS.op {w : World} {a : Option Addr} {L cap : Nat} {Sc : List O11} (h : OpsS w (.slice a L cap) Sc) (hL : L = Sc.length) {k : Nat} (hk : k < L) : ∃ b off kd n x kp sh, a = some ⟨b, off, none⟩ ∧ b < w.heap.size ∧ O11.ok ⟨kd, n, x, kp, sh⟩ ∧ w.cell? ⟨b, off + k * 5, none⟩ = some (.int .i64 kd) ∧ w.cell? ⟨b, off + k * 5 + 1, none⟩ = some (.int .i64 n) ∧ w.cell? ⟨b, off + k * 5 + 2, none⟩ = some (.int .u8 x) ∧ w.cell? ⟨b, off + k * 5 + 3, none⟩ = some (.bool kp) ∧ w.cell? ⟨b, off + k * 5 + 4, none⟩ = some (.bool sh) := by
  rcases h with ⟨_, _, _, e⟩ | ⟨b, off, c, e, hi⟩
  · rw [e] at hL; rw [hL] at hk; exact absurd hk (Nat.not_lt_zero _)
  · obtain ⟨h1, ⟨c0, c1, c2, c3, c4⟩, ho⟩ := hi k (by omega)
    exact ⟨b, off, _, _, _, _, _, (Value.slice.inj e).1, h1, ho, c0, c1, c2, c3, c4⟩
/-- A box that is not the stores' stays. -/
theorem Live.box {w0 W W' : World} {d p q vS : Value} {f : Bool} {N : Nat} {P M P' M' : Nat → Prop} {X : XSt} {r : RSt} {bx : Nat} {o : Obj} (h : Live SInv w0 d p q f N W P M vS X r) (hx : W.heap[bx]? = some o) (hn : ¬ (P bx ∨ M bx)) (hc : Chg (fun k => P k ∨ M k) (fun k => P' k ∨ M' k) W W') : W'.heap[bx]? = some o :=
  (hc.keep bx (Array.getElem?_eq_some_iff.1 hx).1 hn).1.trans hx
theorem Live.new_not {w0 W : World} {d p q vS : Value} {f : Bool} {N : Nat} {P M : Nat → Prop} {X : XSt} {r : RSt} (h : Live SInv w0 d p q f N W P M vS X r) : ¬ (P W.heap.size ∨ M W.heap.size) := fun e => e.elim (fun e => Nat.lt_irrefl _ (landed.lt h.inv _ e)) fun e => Nat.lt_irrefl _ (h.rso.lt e)
theorem SInv.dt37 {w : World} {P : Nat → Prop} {d p : Value} {X : XSt} (h : SInv w P d p X) : X.dt ≤ 37 := by
  obtain ⟨b, be, bp, Pd, q, ek, eg, ev, pk, pg, pv, rfl, hm, hpl, _⟩ := h
  rw [hpl.dt]
  exact hpl.el
theorem SInv.callLen {w : World} {P : Nat → Prop} {d p : Value} {X : XSt} (h : SInv w P d p X) (hw : X.wi = true) : X.call.length = X.is.length := by
  obtain ⟨b, be, bp, Pd, q, ek, eg, ev, pk, pg, pv, rfl, hm, hpl, _⟩ := h
  exact (hpl.wi1 hw).2.1
theorem lStPlays_long {w : World} {v : Value} {Sc : List O11} (hs : OpsS w v Sc) (hl : 150 < Sc.length) : Calls Try.prog 3 #[v] w fun e w' => e = .returned (.bool true) ∧ Below w.heap.size w w' := by
  rcases hs with ⟨_, _, _, rfl⟩ | ⟨b, off, cap, rfl, _⟩
  · exact absurd hl (by decide)
  · obtain ⟨L, hL⟩ : ∃ L, L = Sc.length := ⟨_, rfl⟩
    rw [← hL] at hl ⊢
    have hl' : 150 < (L : Int) := by omega
    clear hL hl
    go_enter Try.func3, Try.ntmps3
    go_wp2_with (first
      | (go_at_call 6; (with_reducible refine (awake11_any w).mono ?_); rintro e w1 ⟨rfl, hb1⟩
         have HB1 := Lib.hid hb1
         clear hb1)
      | (go_at_call 6; (with_reducible refine (awake11_any w1).mono ?_); rintro e w2 ⟨rfl, hb2⟩))
    go_ret
    exact ⟨rfl, HB1.out.trans (hb2.mono HB1.out.size)⟩
set_option maxHeartbeats 4000000 in
theorem lStPlays_any {w : World} {v : Value} {Sc : List O11} (hs : OpsS w v Sc) : Calls Try.prog 3 #[v] w fun e w' => e = .returned (.bool true) ∧ Below w.heap.size w w' := by
  by_cases hlong : 150 < Sc.length
  · exact lStPlays_long hs hlong
  have HSC := Lib.hid hs
  have HSH : Hid (∃ a c, v = .slice a Sc.length c) := Lib.hid (by
    rcases hs with ⟨a, c, h, e⟩ | ⟨b, off, cap, h, _⟩
    · exact ⟨a, c, by rw [e]; exact h⟩
    · exact ⟨_, cap, h⟩)
  obtain ⟨a, cap, rfl⟩ := HSH.out
  obtain ⟨L, hL⟩ : ∃ L, L = Sc.length := ⟨_, rfl⟩
  rw [← hL] at HSC hlong ⊢
  have hl' : ¬ 150 < (L : Int) := by omega
  have HL := Lib.hid hL
  have HL1 : Hid (L ≤ 150) := Lib.hid (by omega)
  have KZ := Lib.hid (fun (W : World) (P : Nat → Prop) (hP : ∀ k, P k → k < W.heap.size) => show Calls Try.prog 10 #[.int .i64 80] W fun e w' => ∃ v, e = .returned v ∧ BBo w' W.heap.size P v (List.replicate 80 zb) ∧ Below W.heap.size W w' from zeros11_of hP 80 (by decide))
  have KN := Lib.hid (fun (W : World) => show Calls Try.prog 7 #[.int .i64 80] W fun e w' => ∃ p P, e = .returned p ∧ Dk w' P p (DS.new 80) ∧ (∀ k, P k → W.heap.size ≤ k) ∧ Below W.heap.size W w' from kNew W 80 (by decide))
  clear hs hL hlong HSH
  go_enter Try.func3, Try.ntmps3
  go_wp2_with (first
    | (go_at_call 6; (with_reducible refine (awake11_any w).mono ?_); rintro e w1 ⟨rfl, hb1⟩
       have HB1 := Lib.hid hb1
       clear hb1)
    | (go_at_call 7; (with_reducible refine (KN.out w1).mono ?_); rintro e w2 ⟨d, P0, rfl, hd2, hp2, hb2⟩
       have KO := Lib.hid (openNew landed hd2 (by decide) (by decide))
       have HP2 := Lib.hid (fun k hk => Nat.le_trans HB1.out.size (hp2 k hk))
       have HB2 := Lib.hid (HB1.out.trans (hb2.mono HB1.out.size))
       obtain ⟨bd, rfl⟩ := hd2.ptr
       clear hd2 hp2 hb2)
    | (go_at_call 8; (with_reducible refine KO.out.mono ?_); rintro e w3 ⟨p, ds', P1, rfl, hf3, hI3, hc3⟩
       have HO3 := Lib.hid (set1 HP2.out HB2.out hc3)
       have HI3 := Lib.hid hI3
       have HF3 := Lib.hid hf3
       have KZ3 := Lib.hid (KZ.out w3 P1 (landed.lt hI3))
       obtain ⟨bs, rfl⟩ := landed.ptr hI3
       clear hI3 hf3 hc3)
    | (go_at_call 10; (with_reducible refine KZ3.out.mono ?_); rintro e w4 ⟨v4, rfl, hv4, hb4⟩
       have HB4 := Lib.hid hb4
       have KR := Lib.hid (rNew_of (hv4.bba (landed.lt HI3.out)) (by rw [List.length_replicate]; decide) (fun k hk => Nat.lt_of_lt_of_le (landed.lt HI3.out k hk) hb4.size))
       obtain ⟨ao4, c4, rfl⟩ := shape80 (hv4.bba (landed.lt HI3.out))
       clear hv4 hb4)
    | (go_at_call 9
       go_loud (
         with_reducible refine KR.out.mono ?_
         rintro e w5 ⟨q, vS, M, rfl, hr5, hb5, hM5⟩
         have HLV := Lib.hid (set2 landed HI3.out HF3.out HO3.out.1 HO3.out.2 HB4.out hr5 hb5 hM5)
         obtain ⟨qb, rfl⟩ := (HLV.out.ptrs landed).2
         clear hr5 hb5 hM5)))
  clear KZ KN KO KZ3 KR HP2 HB2 HO3 HI3 HF3 HB4
  go_loopw [29] (fun i wr => ∃ (k : Nat) (P M : Nat → Prop) (vS : Value) (X : XSt) (r : RSt), i = .int .i64 k ∧ k ≤ L ∧ Hid (Live SInv w (.pointer (some ⟨bd, 0, none⟩)) (.pointer (some ⟨bs, 0, none⟩)) (.pointer (some ⟨qb, 0, none⟩)) false (k + 1) wr P M vS X r)) (fun i _ => L - (intOf i).toNat)
  case atStart => exact ⟨0, _, _, _, _, _, rfl, Nat.zero_le _, HLV⟩
  case round =>
    clear HLV
    obtain ⟨k, P2, M2, vS2, X, r, rfl, hkL, HV⟩ := hrel
    by_cases hlt : k < L
    · have ek : (k : Int) < (L : Int) := by omega
      obtain ⟨ab, off, kd, n, x, kp, sh, rfl, hab, hok, c0, c1, c2, c3, c4⟩ := HSC.out.op HL.out hlt
      have q0 : wr.cell? ⟨ab, off + k * 5, none⟩ = some (.int .i64 kd) := (HV.out.low.cell (p := ⟨ab, _, none⟩) hab).trans c0
      have q1 : wr.cell? ⟨ab, off + k * 5 + 1, none⟩ = some (.int .i64 n) := (HV.out.low.cell (p := ⟨ab, _, none⟩) hab).trans c1
      have q2 : wr.cell? ⟨ab, off + k * 5 + 2, none⟩ = some (.int .u8 x) := (HV.out.low.cell (p := ⟨ab, _, none⟩) hab).trans c2
      have q3 : wr.cell? ⟨ab, off + k * 5 + 3, none⟩ = some (.bool kp) := (HV.out.low.cell (p := ⟨ab, _, none⟩) hab).trans c3
      have q4 : wr.cell? ⟨ab, off + k * 5 + 4, none⟩ = some (.bool sh) := (HV.out.low.cell (p := ⟨ab, _, none⟩) hab).trans c4
      have HOK := Lib.hid hok
      have hns := heap_alloc_new wr (.cells #[.int .i64 0, .int .i64 0, .int .u8 0, .bool false, .bool false] 35)
      have hbs := below_box wr (.cells #[.int .i64 0, .int .i64 0, .int .u8 0, .bool false, .bool false] 35)
      clear c0 c1 c2 c3 c4 hok hab
      have HA6 := Lib.hid (fun (w6 : World) (hb6 : Below wr.heap.size wr w6) (hr6 : w6.heap[wr.heap.size]? = some (.cells #[.int .i64 kd, .int .i64 n, .int .u8 x, .bool kp, .bool sh] 35 (0, 0))) => show ∃ bx, bx = wr.heap.size ∧ w6.heap[bx]? = some (.cells #[.int .i64 kd, .int .i64 n, .int .u8 x, .bool kp, .bool sh] 35 (0, 0)) ∧ ¬ (P2 bx ∨ M2 bx) ∧ Live SInv w (.pointer (some ⟨bd, 0, none⟩)) (.pointer (some ⟨bs, 0, none⟩)) (.pointer (some ⟨qb, 0, none⟩)) false (k + 1) w6 P2 M2 vS2 X r ∧
          Calls Try.prog 11 #[.agg #[.int .i64 kd, .int .i64 n, .int .u8 x, .bool kp, .bool sh]] w6 fun e w' => e = .returned (.bool (inJo kd n)) ∧ Below w6.heap.size w6 w' from
        ⟨_, rfl, hr6, HV.out.new_not, HV.out.below landed hb6, inJ11_is kd n x kp sh w6⟩)
      clear HV
      by_cases hij : inJo kd n = true
      · go_wp2_with (first
          | (with_reducible refine wpList_store_t5 rfl 35 sizeO11 (.tmp 8) (.tmp 35) rfl wr.heap.size rfl _ _ _ _ _ _ _ _ _ _ rfl rfl rfl rfl rfl rfl _ hns ?_; intro w6 hw6 hr6
             obtain ⟨bx, hbx, hr, hn, hv, hj⟩ := HA6.out w6 (hbs.trans (hw6.below (Nat.le_refl _))) hr6
             rw [hij] at hj
             rw [← hbx]
             obtain ⟨s0, s1, s2, s3, s4⟩ := box5 hr
             have HX6 := Lib.hid hr
             have HN6 := Lib.hid hn
             have HV6 := Lib.hid hv
             have KJ := Lib.hid hj
             clear hns hbs hw6 hr6 hbx hr hn hv hj q0 q1 q2 q3 q4 HA6)
          | (go_at_call 11; (with_reducible refine KJ.out.mono ?_); rintro e w7 ⟨rfl, hb7⟩
             have HV7 := Lib.hid (HV6.out.below landed hb7)
             have HX7 := Lib.hid (hold9 HX6.out hb7)
             obtain ⟨u0, u1, u2, u3, u4⟩ := box5 HX7.out
             clear hb7 s0 s1 s2 s3 s4 KJ HV6 HX6))
        go_roundw
        case rel => exact ⟨k + 1, _, _, _, _, _, by go_num, by omega, Lib.hid (HV7.out.more (Nat.le_succ _))⟩
        case measure => simp [intOf]; omega
      rw [Bool.not_eq_true] at hij
      go_upto_region 13 with (first
          | (with_reducible refine wpList_store_t5 rfl 35 sizeO11 (.tmp 8) (.tmp 35) rfl wr.heap.size rfl _ _ _ _ _ _ _ _ _ _ rfl rfl rfl rfl rfl rfl _ hns ?_; intro w6 hw6 hr6
             obtain ⟨bx, hbx, hr, hn, hv, hj⟩ := HA6.out w6 (hbs.trans (hw6.below (Nat.le_refl _))) hr6
             rw [hij] at hj
             rw [← hbx]
             obtain ⟨s0, s1, s2, s3, s4⟩ := box5 hr
             have HX6 := Lib.hid hr
             have HN6 := Lib.hid hn
             have HV6 := Lib.hid hv
             have KJ := Lib.hid hj
             clear hns hbs hw6 hr6 hbx hr hn hv hj q0 q1 q2 q3 q4 HA6)
          | (go_at_call 11; (with_reducible refine KJ.out.mono ?_); rintro e w7 ⟨rfl, hb7⟩
             have HV7 := Lib.hid (HV6.out.below landed hb7)
             have HX7 := Lib.hid (hold9 HX6.out hb7)
             obtain ⟨u0, u1, u2, u3, u4⟩ := box5 HX7.out
             clear hb7 s0 s1 s2 s3 s4 KJ HV6 HX6))
      go_cut [60] from 32 to 99 (fun t60 wc => t60 = .bool (skipB kd n) ∧ wc = w7)
      case first =>
        clear HV7 HX7 HN6 HOK
        by_cases e1 : kd < 1 <;> by_cases e2 : 5 < kd <;> by_cases e3 : 3 ≤ n <;> by_cases e4 : n < 43 <;> by_cases e5 : kd = 5
        all_goals first
          | (exfalso; omega)
          | (have e6 : (kd == 5) = decide (kd = 5) := rfl
             have E6 := Lib.hid e6
             have E1 := Lib.hid e1
             have E2 := Lib.hid e2
             have E3 := Lib.hid e3
             have E4 := Lib.hid e4
             have E5 := Lib.hid e5
             clear e6
             go_wp2_with fail
             go_meet
             simp [skipB, E6.out, E1.out, E2.out, E3.out, E4.out, E5.out])
      case rest =>
        obtain ⟨rfl, rfl⟩ := hcut
        cases hsk : skipB kd n
        case true =>
          go_wp2
          go_roundw
          case rel => exact ⟨k + 1, _, _, _, _, _, by go_num, by omega, Lib.hid (HV7.out.more (Nat.le_succ _))⟩
          case measure => simp [intOf]; omega
        case false =>
          have HC := Lib.hid (skipB_no hsk hij)
          have HB7 : Hid (Below wc.heap.size wc wc.drew) := Lib.hid (Below.refl _ _).drew
          have KD := Lib.hid (show Calls Try.prog 12 #[.pointer (some ⟨bs, 0, none⟩), .pointer (some ⟨qb, 0, none⟩), .agg #[.int .i64 kd, .int .i64 n, .int .u8 x, .bool kp, .bool sh]] wc.drew fun e W' => e = .returned (.bool true) ∧ ∃ P' M' vS' X' r', Live SInv w (.pointer (some ⟨bd, 0, none⟩)) (.pointer (some ⟨bs, 0, none⟩)) (.pointer (some ⟨qb, 0, none⟩)) false (k + 1 + 1) W' P' M' vS' X' r' ∧ (kd = 4 → X'.wi = false → X'.dt = 0) ∧ Chg (fun k => P2 k ∨ M2 k) (fun k => P' k ∨ M' k) wc.drew W' from
            (HV7.out.below landed HB7.out).does landed (by have := HL1.out; omega) ⟨kd, n, x, kp, sh⟩ HOK.out HC.out)
          have hS : wc.drew.cell? ⟨bx, 0, none⟩ = some (.int .i64 kd) ∧ wc.drew.cell? ⟨bx, 1, none⟩ = some (.int .i64 n) ∧ wc.drew.cell? ⟨bx, 2, none⟩ = some (.int .u8 x) ∧ wc.drew.cell? ⟨bx, 3, none⟩ = some (.bool kp) ∧ wc.drew.cell? ⟨bx, 4, none⟩ = some (.bool sh) := ⟨u0, u1, u2, u3, u4⟩
          have HV7' := Lib.hid (HV7.out.below landed HB7.out)
          have HX7' : Hid (wc.drew.heap[bx]? = _) := Lib.hid HX7.out
          clear HC HV7 HX7 u0 u1 u2 u3 u4 HOK
          go_upto_region 14 with (fail)
          refine wp_region_held_drew (S := fun W => W.cell? ⟨bx, 0, none⟩ = some (.int .i64 kd) ∧ W.cell? ⟨bx, 1, none⟩ = some (.int .i64 n) ∧ W.cell? ⟨bx, 2, none⟩ = some (.int .u8 x) ∧ W.cell? ⟨bx, 3, none⟩ = some (.bool kp) ∧ W.cell? ⟨bx, 4, none⟩ = some (.bool sh)) (by kernel_rfl) hS (fun hHeld => ?_)
          clear hHeld
          refine wpAnyH_take (i := 0) (v := .pointer (some ⟨bs, 0, none⟩)) rfl (by kernel_rfl) (by kernel_rfl) (by kernel_rfl) (fun _ _ _ h => h) (Or.inl ⟨by rfl, ?_⟩) (by assumption) ?_
          · intro W hSw
            obtain ⟨s0, s1, s2, s3, s4⟩ := hSw
            go_simp
          simp only [Act.put, List.setIfInBounds_toArray, List.set_cons_zero, List.set_cons_succ, List.getElem_toArray, List.getElem_cons_zero, List.getElem_cons_succ]
          refine wpAnyH_take (i := 1) (v := .pointer (some ⟨qb, 0, none⟩)) rfl (by kernel_rfl) (by kernel_rfl) (by kernel_rfl) (fun _ _ _ h => h) (Or.inl ⟨by rfl, ?_⟩) (by assumption) ?_
          · intro W hSw
            obtain ⟨s0, s1, s2, s3, s4⟩ := hSw
            go_simp
          simp only [Act.put, List.setIfInBounds_toArray, List.set_cons_zero, List.set_cons_succ, List.getElem_toArray, List.getElem_cons_zero, List.getElem_cons_succ]
          refine wpAnyH_take (i := 2) (v := .agg #[.int .i64 kd, .int .i64 n, .int .u8 x, .bool kp, .bool sh]) rfl (by kernel_rfl) (by kernel_rfl) (by kernel_rfl) (fun _ _ _ h => h) (Or.inl ⟨by rfl, ?_⟩) (by assumption) ?_
          · intro W hSw
            obtain ⟨s0, s1, s2, s3, s4⟩ := hSw
            go_simp
          simp only [Act.put, List.setIfInBounds_toArray, List.set_cons_zero, List.set_cons_succ, List.getElem_toArray, List.getElem_cons_zero, List.getElem_cons_succ]
          refine wpAnyH_ready (rs := [3]) (by kernel_rfl) (by simp) (AllReadyH.cons rfl (fun K hK => ?_) AllReadyH.nil)
          go_simp
          go_at_call 12
          refine KD.out.mono ?_
          rintro e w8 ⟨rfl, P3, M3, vS3, X3, r3, hv8, hdt, hc8⟩
          have hx8 := HV7'.out.box HX7'.out HN6.out hc8
          obtain ⟨b0, b1, b2, b3, b4⟩ := box5 hx8
          obtain ⟨vI, vC, i0, i1, i4, _⟩ := hv8.rso.law
          rw [hv8.rel.wi] at i4
          have KW := Lib.hid (landed.within hv8.inv)
          have KY := Lib.hid (landed.dirty hv8.inv)
          have KV := Lib.hid (landed.over hv8.inv)
          have HD3 : Hid (X3.dt ≤ 37) := Lib.hid hv8.inv.dt37
          have HDT := Lib.hid hdt
          have HV8 := Lib.hid hv8
          obtain ⟨wi, hwi⟩ : ∃ wi, wi = X3.wi := ⟨_, rfl⟩
          obtain ⟨dt, hdtt⟩ : ∃ dt, dt = X3.dt := ⟨_, rfl⟩
          rw [← hwi] at KW i4 HDT
          rw [← hdtt] at KY HDT HD3
          have hd3 : (dt : Int) ≤ 37 := by have := HD3.out; omega
          clear hS hv8 hdt hc8 hwi hdtt hx8 i0 i1 KD HV7' HX7' HN6 HD3
          have hS : w8.cell? ⟨bx, 0, none⟩ = some (.int .i64 kd) ∧ w8.cell? ⟨bx, 1, none⟩ = some (.int .i64 n) ∧ w8.cell? ⟨bx, 2, none⟩ = some (.int .u8 x) ∧ w8.cell? ⟨bx, 3, none⟩ = some (.bool kp) ∧ w8.cell? ⟨bx, 4, none⟩ = some (.bool sh) ∧ w8.cell? ⟨qb, 4, none⟩ = some (.bool wi) := ⟨b0, b1, b2, b3, b4, i4⟩
          refine hK.out _ _ ⟨b0, b1, b2, b3, b4⟩ (fun hHeld => ?_)
          clear hK K hHeld
          refine wpAnyH_grow (S' := fun W => W.cell? ⟨bx, 0, none⟩ = some (.int .i64 kd) ∧ W.cell? ⟨bx, 1, none⟩ = some (.int .i64 n) ∧ W.cell? ⟨bx, 2, none⟩ = some (.int .u8 x) ∧ W.cell? ⟨bx, 3, none⟩ = some (.bool kp) ∧ W.cell? ⟨bx, 4, none⟩ = some (.bool sh) ∧ W.cell? ⟨qb, 4, none⟩ = some (.bool wi)) (fun W h => ⟨h.1, h.2.1, h.2.2.1, h.2.2.2.1, h.2.2.2.2.1⟩) _ _ _ _ ?_
          (try simp only [Act.put, List.setIfInBounds_toArray, List.set_cons_zero, List.set_cons_succ, List.getElem_toArray, List.getElem_cons_zero, List.getElem_cons_succ])
          refine wpAnyH_take (i := 4) (v := .bool false) rfl (by kernel_rfl) (by kernel_rfl) (by kernel_rfl) (fun _ _ _ h => h) (Or.inl ⟨by rfl, ?_⟩) (by assumption) ?_
          · intro W hSw
            obtain ⟨s0, s1, s2, s3, s4, s5⟩ := hSw
            go_simp
          simp only [Act.put, List.setIfInBounds_toArray, List.set_cons_zero, List.set_cons_succ, List.getElem_toArray, List.getElem_cons_zero, List.getElem_cons_succ]
          refine wpAnyH_take (i := 5) (v := .bool false) rfl (by kernel_rfl) (by kernel_rfl) (by kernel_rfl) (fun _ _ _ h => h) (Or.inl ⟨by rfl, ?_⟩) (by assumption) ?_
          · intro W hSw
            obtain ⟨s0, s1, s2, s3, s4, s5⟩ := hSw
            go_simp
          simp only [Act.put, List.setIfInBounds_toArray, List.set_cons_zero, List.set_cons_succ, List.getElem_toArray, List.getElem_cons_zero, List.getElem_cons_succ]
          refine wpAnyH_take (i := 6) (v := .pointer (some ⟨bs, 0, none⟩)) rfl (by kernel_rfl) (by kernel_rfl) (by kernel_rfl) (fun _ _ _ h => h) (Or.inl ⟨by rfl, ?_⟩) (by assumption) ?_
          · intro W hSw
            obtain ⟨s0, s1, s2, s3, s4, s5⟩ := hSw
            go_simp
          simp only [Act.put, List.setIfInBounds_toArray, List.set_cons_zero, List.set_cons_succ, List.getElem_toArray, List.getElem_cons_zero, List.getElem_cons_succ]
          refine wpAnyH_take (i := 8) (v := .pointer (some ⟨qb, 0, none⟩)) rfl (by kernel_rfl) (by kernel_rfl) (by kernel_rfl) (fun _ _ _ h => h) (Or.inl ⟨by rfl, ?_⟩) (by assumption) ?_
          · intro W hSw
            obtain ⟨s0, s1, s2, s3, s4, s5⟩ := hSw
            go_simp
          simp only [Act.put, List.setIfInBounds_toArray, List.set_cons_zero, List.set_cons_succ, List.getElem_toArray, List.getElem_cons_zero, List.getElem_cons_succ]
          refine wpAnyH_take (i := 9) (v := .pointer (some ⟨qb, 0, none⟩)) rfl (by kernel_rfl) (by kernel_rfl) (by kernel_rfl) (fun _ _ _ h => h) (Or.inl ⟨by rfl, ?_⟩) (by assumption) ?_
          · intro W hSw
            obtain ⟨s0, s1, s2, s3, s4, s5⟩ := hSw
            go_simp
          simp only [Act.put, List.setIfInBounds_toArray, List.set_cons_zero, List.set_cons_succ, List.getElem_toArray, List.getElem_cons_zero, List.getElem_cons_succ]
          refine wpAnyH_take (i := 10) (v := .pointer (some ⟨qb, 4, none⟩)) rfl (by kernel_rfl) (by kernel_rfl) (by kernel_rfl) (fun _ _ _ h => h) (Or.inl ⟨by rfl, ?_⟩) (by assumption) ?_
          · intro W hSw
            obtain ⟨s0, s1, s2, s3, s4, s5⟩ := hSw
            go_simp
          simp only [Act.put, List.setIfInBounds_toArray, List.set_cons_zero, List.set_cons_succ, List.getElem_toArray, List.getElem_cons_zero, List.getElem_cons_succ]
          refine wpAnyH_take (i := 11) (v := .bool wi) rfl (by kernel_rfl) (by kernel_rfl) (by kernel_rfl) (fun _ _ _ h => h) (Or.inl ⟨by rfl, ?_⟩) (by assumption) ?_
          · intro W hSw
            obtain ⟨s0, s1, s2, s3, s4, s5⟩ := hSw
            go_simp
          simp only [Act.put, List.setIfInBounds_toArray, List.set_cons_zero, List.set_cons_succ, List.getElem_toArray, List.getElem_cons_zero, List.getElem_cons_succ]
          refine wpAnyH_ready (rs := [7]) (by kernel_rfl) (by simp) (AllReadyH.cons rfl (fun K hK => ?_) AllReadyH.nil)
          go_simp
          go_at_call 13
          refine KW.out.mono ?_
          rintro e w9 ⟨rfl, rfl⟩
          refine hK.out _ _ hS (fun hHeld => ?_)
          clear hK K hHeld
          (try simp only [Act.put, List.setIfInBounds_toArray, List.set_cons_zero, List.set_cons_succ, List.getElem_toArray, List.getElem_cons_zero, List.getElem_cons_succ])
          refine wpAnyH_take (i := 12) (v := .bool false) rfl (by kernel_rfl) (by kernel_rfl) (by kernel_rfl) (fun _ _ _ h => h) (Or.inl ⟨by rfl, ?_⟩) (by assumption) ?_
          · intro W hSw
            obtain ⟨s0, s1, s2, s3, s4, s5⟩ := hSw
            go_simp
          simp only [Act.put, List.setIfInBounds_toArray, List.set_cons_zero, List.set_cons_succ, List.getElem_toArray, List.getElem_cons_zero, List.getElem_cons_succ]
          refine wpAnyH_take (i := 13) (v := .bool false) rfl (by kernel_rfl) (by kernel_rfl) (by kernel_rfl) (fun _ _ _ h => h) (Or.inl ⟨by rfl, ?_⟩) (by assumption) ?_
          · intro W hSw
            obtain ⟨s0, s1, s2, s3, s4, s5⟩ := hSw
            go_simp
          simp only [Act.put, List.setIfInBounds_toArray, List.set_cons_zero, List.set_cons_succ, List.getElem_toArray, List.getElem_cons_zero, List.getElem_cons_succ]
          refine wpAnyH_take (i := 14) (v := .bool false) rfl (by kernel_rfl) (by kernel_rfl) (by kernel_rfl) (fun _ _ _ h => h) (Or.inl ⟨by rfl, ?_⟩) (by assumption) ?_
          · intro W hSw
            obtain ⟨s0, s1, s2, s3, s4, s5⟩ := hSw
            go_simp
          simp only [Act.put, List.setIfInBounds_toArray, List.set_cons_zero, List.set_cons_succ, List.getElem_toArray, List.getElem_cons_zero, List.getElem_cons_succ]
          refine wpAnyH_take (i := 15) (v := .pointer (some ⟨bs, 0, none⟩)) rfl (by kernel_rfl) (by kernel_rfl) (by kernel_rfl) (fun _ _ _ h => h) (Or.inl ⟨by rfl, ?_⟩) (by assumption) ?_
          · intro W hSw
            obtain ⟨s0, s1, s2, s3, s4, s5⟩ := hSw
            go_simp
          simp only [Act.put, List.setIfInBounds_toArray, List.set_cons_zero, List.set_cons_succ, List.getElem_toArray, List.getElem_cons_zero, List.getElem_cons_succ]
          refine wpAnyH_ready (rs := [16]) (by kernel_rfl) (by simp) (AllReadyH.cons rfl (fun K hK => ?_) AllReadyH.nil)
          go_simp
          go_at_call 14
          refine KY.out.mono ?_
          rintro e w9 ⟨rfl, rfl⟩
          refine hK.out _ _ hS (fun hHeld => ?_)
          clear hK K hHeld
          (try simp only [Act.put, List.setIfInBounds_toArray, List.set_cons_zero, List.set_cons_succ, List.getElem_toArray, List.getElem_cons_zero, List.getElem_cons_succ])
          refine wpAnyH_take (i := 17) (v := .bool false) rfl (by kernel_rfl) (by kernel_rfl) (by kernel_rfl) (fun _ _ _ h => h) (Or.inl ⟨by rfl, ?_⟩) (by assumption) ?_
          · intro W hSw
            obtain ⟨s0, s1, s2, s3, s4, s5⟩ := hSw
            go_simp
          simp only [Act.put, List.setIfInBounds_toArray, List.set_cons_zero, List.set_cons_succ, List.getElem_toArray, List.getElem_cons_zero, List.getElem_cons_succ]
          refine wpAnyH_take (i := 18) (v := .bool false) rfl (by kernel_rfl) (by kernel_rfl) (by kernel_rfl) (fun _ _ _ h => h) (Or.inl ⟨by rfl, ?_⟩) (by assumption) ?_
          · intro W hSw
            obtain ⟨s0, s1, s2, s3, s4, s5⟩ := hSw
            go_simp
          simp only [Act.put, List.setIfInBounds_toArray, List.set_cons_zero, List.set_cons_succ, List.getElem_toArray, List.getElem_cons_zero, List.getElem_cons_succ]
          refine wpAnyH_take (i := 19) (v := .bool false) rfl (by kernel_rfl) (by kernel_rfl) (by kernel_rfl) (fun _ _ _ h => h) (Or.inl ⟨by rfl, ?_⟩) (by assumption) ?_
          · intro W hSw
            obtain ⟨s0, s1, s2, s3, s4, s5⟩ := hSw
            go_simp
          simp only [Act.put, List.setIfInBounds_toArray, List.set_cons_zero, List.set_cons_succ, List.getElem_toArray, List.getElem_cons_zero, List.getElem_cons_succ]
          refine wpAnyH_take (i := 20) (v := .pointer (some ⟨bs, 0, none⟩)) rfl (by kernel_rfl) (by kernel_rfl) (by kernel_rfl) (fun _ _ _ h => h) (Or.inl ⟨by rfl, ?_⟩) (by assumption) ?_
          · intro W hSw
            obtain ⟨s0, s1, s2, s3, s4, s5⟩ := hSw
            go_simp
          simp only [Act.put, List.setIfInBounds_toArray, List.set_cons_zero, List.set_cons_succ, List.getElem_toArray, List.getElem_cons_zero, List.getElem_cons_succ]
          refine wpAnyH_ready (rs := [21]) (by kernel_rfl) (by simp) (AllReadyH.cons rfl (fun K hK => ?_) AllReadyH.nil)
          go_simp
          go_at_call 15
          refine KV.out.mono ?_
          rintro e w9 ⟨rfl, rfl⟩
          refine hK.out _ _ hS (fun hHeld => ?_)
          clear hK K hHeld
          (try simp only [Act.put, List.setIfInBounds_toArray, List.set_cons_zero, List.set_cons_succ, List.getElem_toArray, List.getElem_cons_zero, List.getElem_cons_succ])
          refine wpAnyH_take (i := 22) (v := .bool false) rfl (by kernel_rfl) (by kernel_rfl) (by kernel_rfl) (fun _ _ _ h => h) (Or.inl ⟨by rfl, ?_⟩) (by assumption) ?_
          · intro W hSw
            obtain ⟨s0, s1, s2, s3, s4, s5⟩ := hSw
            go_simp
          simp only [Act.put, List.setIfInBounds_toArray, List.set_cons_zero, List.set_cons_succ, List.getElem_toArray, List.getElem_cons_zero, List.getElem_cons_succ]
          refine wpAnyH_done (by kernel_rfl) ?_ _
          clear KW KV hS
          by_cases e4 : kd = 4
          · subst e4
            cases wi
            · have hd0 : dt = 0 := HDT.out rfl rfl
              subst hd0
              clear HDT
              go_wp2_with (go_at_call 14; (with_reducible refine KY.out.mono ?_); rintro e w9 ⟨rfl, rfl⟩)
              go_roundw
              case rel => exact ⟨k + 1, _, _, _, _, _, by go_num, by omega, HV8⟩
              case measure => simp [intOf]; omega
            · clear HDT KY
              go_wp2
              go_roundw
              case rel => exact ⟨k + 1, _, _, _, _, _, by go_num, by omega, HV8⟩
              case measure => simp [intOf]; omega
          · have e5 : (kd == 4) = false := by simp [e4]
            clear HDT KY
            go_wp2
            go_roundw
            case rel => exact ⟨k + 1, _, _, _, _, _, by go_num, by omega, HV8⟩
            case measure => simp [intOf]; omega
    · obtain rfl : k = L := by omega
      obtain ⟨vI, vC, i0, i1, i4, hI, hC, ⟨ai, ni, ci, rfl⟩, hsC⟩ := HV.out.rso.law
      have KW := Lib.hid (landed.within HV.out.inv)
      rw [HV.out.rel.wi] at i4
      have HIL : Hid (r.is.length = 80) := Lib.hid (HV.out.rel.len.trans HV.out.len)
      have HFIN := Lib.hid (fun (w' : World) (P' : Nat → Prop) (hc : Chg P2 P' wr w') => (set1 (fun k hk => HV.out.own k (.inl hk)) HV.out.low hc).2)
      cases hw : X.wi
      · have KS := Lib.hid (HV.out.same landed hI (by rw [hw]; exact HV.out.rel.is) HIL.out)
        rw [hw] at KW i4
        clear hI hC hsC i1 hw HV
        go_wp2_with (first
          | (go_at_call 13; (with_reducible refine KW.out.mono ?_); rintro e w9 ⟨rfl, rfl⟩)
          | (go_at_call 16; (with_reducible refine KS.out.mono ?_); rintro e w9 ⟨rfl, P9, _, hc9⟩
             have HB9 := Lib.hid (HFIN.out _ _ hc9)
             clear hc9))
        go_ret
        exact ⟨rfl, HB9.out⟩
      · have hrw : r.wi = true := HV.out.rel.wi.trans hw
        obtain ⟨ac, nc, cc, rfl⟩ := hsC hrw
        have KS := Lib.hid (HV.out.same landed (hC hrw) (by rw [hw]; exact (HV.out.rel.call hw).1) ((HV.out.rel.call hw).1.1.trans ((HV.out.inv.callLen hw).trans HV.out.len)))
        rw [hw] at KW i4
        clear hI hC hsC i0 hw hrw HV
        go_wp2_with (first
          | (go_at_call 13; (with_reducible refine KW.out.mono ?_); rintro e w9 ⟨rfl, rfl⟩)
          | (go_at_call 16; (with_reducible refine KS.out.mono ?_); rintro e w9 ⟨rfl, P9, _, hc9⟩
             have HB9 := Lib.hid (HFIN.out _ _ hc9)
             clear hc9))
        go_ret
        exact ⟨rfl, HB9.out⟩
end Go.Proofs.Ytigbhdgcjklhoaa

