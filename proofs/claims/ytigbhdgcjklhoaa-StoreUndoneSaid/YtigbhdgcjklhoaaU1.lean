/- Helpers of the laws' walks. -/
import Derived.OrdersHeld
import Derived.Deep.CutRange
import Derived.Test.YtigbhdgcjklhoaaF16
import Derived.Test.YtigbhdgcjklhoaaF17
namespace Go.Proofs.Ytigbhdgcjklhoaa
set_option maxRecDepth 100000
open Go.RowKit
set_option linter.unusedVariables false

/-- The cells of a call's box. -/
theorem box5 {W : World} {bx : Nat} {kd n x : Int} {kp sh : Bool} (h : W.heap[bx]? = some (.cells #[.int .i64 kd, .int .i64 n, .int .u8 x, .bool kp, .bool sh] 35 (0, 0))) : W.cell? ⟨bx, 0, none⟩ = some (.int .i64 kd) ∧ W.cell? ⟨bx, 1, none⟩ = some (.int .i64 n) ∧ W.cell? ⟨bx, 2, none⟩ = some (.int .u8 x) ∧ W.cell? ⟨bx, 3, none⟩ = some (.bool kp) ∧ W.cell? ⟨bx, 4, none⟩ = some (.bool sh) :=
  ⟨(box_cell h rfl).1, (box_cell h rfl).1, (box_cell h rfl).1, (box_cell h rfl).1, (box_cell h rfl).1⟩
theorem set1 {w W W' : World} {P P' : Nat → Prop} (ho : ∀ k, P k → w.heap.size ≤ k) (hb : Below w.heap.size w W) (hc : Chg P P' W W') : (∀ k, P' k → w.heap.size ≤ k) ∧ Below w.heap.size w W' :=
  ⟨fun k hk => (chg_new hc hk).elim (ho k) fun e => Nat.le_trans hb.size e, hb.trans (hc.below fun k hk => ⟨Nat.lt_of_lt_of_le hk hb.size, fun e => by have := ho k e; omega⟩)⟩
section
variable {Inv : World → (Nat → Prop) → Value → Value → XSt → Prop} {Dead : World → (Nat → Prop) → Value → Value → DS → Prop} (S : Sto Inv Dead)
include S
/-- Behind Open, zeros, NewStore. -/
theorem set2 {w W3 W4 W5 : World} {P M : Nat → Prop} {d p q vS : Value} {ds : DS} {f : Bool} (hI : Inv W3 P d p ⟨List.replicate 80 zb, List.replicate 80 zb, [], [], false, 0, ds⟩) (hf : ds.fu = f) (ho : ∀ k, P k → w.heap.size ≤ k) (hb : Below w.heap.size w W3) (hb4 : Below W3.heap.size W3 W4)
    (hr : RSo W5 P M q vS ⟨List.replicate 80 zb, [], [], [List.replicate 80 zb], false⟩) (hb5 : Below W4.heap.size W4 W5) (hM : ∀ k, M k → W4.heap.size ≤ k) :
    Live Inv w d p q f 1 W5 P M vS ⟨List.replicate 80 zb, List.replicate 80 zb, [], [], false, 0, ds⟩ ⟨List.replicate 80 zb, [], [], [List.replicate 80 zb], false⟩ := by
  have h35 : Below W3.heap.size W3 W5 := hb4.trans (hb5.mono hb4.size)
  refine Live.new (S.keep hI h35.size fun k hk => h35.block k (S.lt hI k hk)) hr hf ?_ (hb.trans (h35.mono hb.size))
  rintro k (hk | hk)
  · exact ho k hk
  · exact Nat.le_trans (Nat.le_trans hb.size hb4.size) (hM k hk)
end
theorem shape80 {W : World} {P : Nat → Prop} {v : Value} (h : BBa W P v (List.replicate 80 zb)) : ∃ a c, v = .slice a 80 c := by
  obtain ⟨a, c, e, _⟩ := h.sl.shape
  exact ⟨a, c, by rw [e, List.length_replicate]⟩
theorem sizeO11 : (Try.prog.info? 35).map (·.size) = some 5 := by kernel_rfl
theorem wpList_store_t5 {ops : Array Oper} {rest : List Oper} {o : Oper} {a : Act} {w : World} {Q : Exit → Act → World → Prop} (hgd : o.guard = none) (ty : TypeId) (hi : (Try.prog.info? ty).map (·.size) = some 5) (x y : Operand) (ho : o.op = .store ty x y)
    (g : Nat) (hx : a.eval x = .pointer (some ⟨g, 0, none⟩)) (z0 z1 z2 z3 z4 y0 y1 y2 y3 y4 : Value) (hy : a.eval y = .agg #[z0, z1, z2, z3, z4]) (h0 : z0.oneCell' = true) (h1 : z1.oneCell' = true) (h2 : z2.oneCell' = true) (h3 : z3.oneCell' = true) (h4 : z4.oneCell' = true) (T : TypeId) (hg : w.heap[g]? = some (.cells #[y0, y1, y2, y3, y4] T (0, 0)))
    (h : ∀ w', Wrote w w' g → w'.heap[g]? = some (.cells #[z0, z1, z2, z3, z4] T (0, 0)) → wpList Try.prog ops Q rest (a.put o.dst undef) w') : wpList Try.prog ops Q (o :: rest) a w :=
  wpList_store_row hgd ty x y ho g #[z0, z1, z2, z3, z4] hx hy T _ hg hi rfl (by simp [h0, h1, h2, h3, h4]) (h _ (Wrote.setRow _ _ _) (setRow_heap _ _ _ _ _ _ hg))
theorem OpsS.op {w : World} {a : Option Addr} {L cap : Nat} {Sc : List O11} (h : OpsS w (.slice a L cap) Sc) (hL : L = Sc.length) {k : Nat} (hk : k < L) : ∃ b off kd n x kp sh, a = some ⟨b, off, none⟩ ∧ b < w.heap.size ∧ O11.ok ⟨kd, n, x, kp, sh⟩ ∧ w.cell? ⟨b, off + k * 5, none⟩ = some (.int .i64 kd) ∧ w.cell? ⟨b, off + k * 5 + 1, none⟩ = some (.int .i64 n) ∧ w.cell? ⟨b, off + k * 5 + 2, none⟩ = some (.int .u8 x) ∧ w.cell? ⟨b, off + k * 5 + 3, none⟩ = some (.bool kp) ∧ w.cell? ⟨b, off + k * 5 + 4, none⟩ = some (.bool sh) := by
  rcases h with ⟨_, _, _, e⟩ | ⟨b, off, c, e, hi⟩
  · rw [e] at hL; rw [hL] at hk; exact absurd hk (Nat.not_lt_zero _)
  · obtain ⟨h1, ⟨c0, c1, c2, c3, c4⟩, ho⟩ := hi k (by omega)
    exact ⟨b, off, _, _, _, _, _, (Value.slice.inj e).1, h1, ho, c0, c1, c2, c3, c4⟩
theorem OpsS.shape {w : World} {v : Value} {Sc : List O11} (h : OpsS w v Sc) : ∃ a c, v = .slice a Sc.length c := by
  rcases h with ⟨a, c, h, e⟩ | ⟨b, off, cap, h, _⟩
  · exact ⟨a, c, by rw [e]; exact h⟩
  · exact ⟨_, cap, h⟩
/-- Behind a change of one store's blocks. -/
theorem Live.turn {Inv Inv2 : World → (Nat → Prop) → Value → Value → XSt → Prop} {w0 W W' : World} {d p q vS : Value} {f : Bool} {N : Nat} {P P' M : Nat → Prop} {X : XSt} {r : RSt} (h : Live Inv w0 d p q f N W P M vS X r) (hI : Inv2 W' P' d p X) (hc : Chg P P' W W') : Live Inv2 w0 d p q f N W' P' M vS X r := by
  refine ⟨hI, h.rso.chg hc, h.rel, h.fu, h.len, h.sts, ?_, ?_⟩
  · rintro k (hk | hk)
    · exact (chg_new hc hk).elim (fun e => h.own k (.inl e)) fun e => Nat.le_trans h.low.size e
    · exact h.own k (.inr hk)
  · exact h.low.trans (hc.below fun k hk => ⟨Nat.lt_of_lt_of_le hk h.low.size, fun e => by have := h.own k (.inl e); omega⟩)
/-- A call that is to be undone: whatever it put. -/
def SUnd (w : World) (P : Nat → Prop) (d p : Value) (X : XSt) : Prop :=
  ∃ b be bp Pd q ek eg ev pk pg pv, p = .pointer (some ⟨b, 0, none⟩) ∧ SMem w Pd b be bp d q ek eg ev pk pg pv true X.ds ∧ SPl X ek ev [] pv ∧ pk.length ≤ 37 ∧ (∀ k, SOwn Pd b be bp ek eg pk pg k → P k) ∧ ∀ k, P k → k < w.heap.size
section
variable {w w' : World} {P : Nat → Prop} {d p : Value} {X : XSt}
theorem SUnd.of (h : SInv w P d p X) (hw : X.wi = true) : SUnd w P d p { X with wi := false } := by
  obtain ⟨b, be, bp, Pd, q, ek, eg, ev, pk, pg, pv, rfl, hm, hpl, ho, hl⟩ := h
  rw [hw] at hm
  exact ⟨b, be, bp, Pd, q, ek, eg, ev, pk, pg, pv, rfl, hm, hpl.undo pv, hpl.pl, ho, hl⟩
theorem SUnd.below (h : SUnd w P d p X) (hb : Below w.heap.size w w') : SUnd w' P d p X := by
  obtain ⟨b, be, bp, Pd, q, ek, eg, ev, pk, pg, pv, rfl, hm, hpl, hk, ho, hl⟩ := h
  exact ⟨b, be, bp, Pd, q, ek, eg, ev, pk, pg, pv, rfl, hm.below hb, hpl, hk, ho, fun k hk => Nat.lt_of_lt_of_le (hl k hk) hb.size⟩
theorem SUnd.dirty (h : SUnd w P d p X) : Calls Try.prog 14 #[p] w fun e w' => e = .returned (.int .i64 X.dt) ∧ w = w' := by
  obtain ⟨b, be, bp, Pd, q, ek, eg, ev, pk, pg, pv, rfl, hm, hpl, _⟩ := h
  rw [hpl.dt]
  exact sDirty_is hm
theorem SUnd.ended (h : SUnd w P d p X) (hw : X.wi = false) : Calls Try.prog 21 #[p, .bool false] w (XOut SInv w P d p (0, X)) := by
  obtain ⟨b, be, bp, Pd, q, ek, eg, ev, pk, pg, pv, rfl, hm, hpl, _, ho, hl⟩ := h
  refine (sEnd_undo hm).mono ?_
  rintro e w' ⟨rfl, rfl⟩
  obtain ⟨hm', hsz, hext⟩ := hm.cleared pg pv
  have hm2 : SMem (((w.setCell ⟨b, 3, none⟩ (.map (some w.heap.size))).setCell ⟨b, 4, none⟩ (.bool false)).alloc (.map #[] 0)) Pd b be w.heap.size d q ek eg ev [] pg pv X.wi X.ds := by rw [hw]; exact hm'
  refine ⟨rfl, _, sinv_of hm2 hpl hl hext.size ?_, (hext.sub fun k e => ho k (.inr (.inl e))).chg⟩
  intro k hk
  rcases hk with hk | rfl | rfl | rfl | ⟨x, hx, hg⟩ | ⟨x, hx, _⟩
  · exact .inl (ho k (.inl hk))
  · exact .inl (ho _ (.inr (.inl rfl)))
  · exact .inl (ho _ (.inr (.inr (.inl rfl))))
  · exact .inr (Nat.le_refl _)
  · exact .inl (ho k (.inr (.inr (.inr (.inr (.inl ⟨x, hx, hg⟩))))))
  · exact absurd hx List.not_mem_nil
theorem SPl.nil {ek : List Int} {ev pv : Int → List Int} (h : SPl X ek ev [] pv) (pv' : Int → List Int) : SPl X ek ev [] pv' :=
  { h with
    kp := fun x hx => absurd hx List.not_mem_nil
    wi1 := fun e => ⟨(h.wi1 e).1, (h.wi1 e).2.1, fun i ho hi => by rw [(h.wi1 e).2.2 i ho hi, if_neg List.not_mem_nil, if_neg List.not_mem_nil]⟩ }
theorem SUnd.put (h : SUnd w P d p X) {n : Int} {v : Value} {l : List Int} (hv : BSl w v l) (hn : -9223372036854775808 ≤ n ∧ n ≤ 9223372036854775807) : Calls Try.prog 19 #[p, .int .i64 n, v] w fun e w' => ∃ z P', e = .returned (.int .i64 z) ∧ SUnd w' P' d p X ∧ Chg P P' w w' := by
  have h' := h
  obtain ⟨b, be, bp, Pd, q, ek, eg, ev, pk, pg, pv, rfl, hm, hpl, hp37, ho, hlt⟩ := h
  have hFl := hpl.ok.lst.1
  have h768 := hpl.n64.2
  have hwf : (Lit.int .i64 n).wf = true := i64wf hn
  have same : ∀ z : Int, Calls Try.prog 19 #[.pointer (some ⟨b, 0, none⟩), .int .i64 n, v] w (fun e w' => e = .returned (.int .i64 z) ∧ w = w') → Calls Try.prog 19 #[.pointer (some ⟨b, 0, none⟩), .int .i64 n, v] w (fun e w' => ∃ z P', e = .returned (.int .i64 z) ∧ SUnd w' P' d (.pointer (some ⟨b, 0, none⟩)) X ∧ Chg P P' w w') := fun z h => h.mono fun e w' ⟨he, hw⟩ => by
    subst hw
    exact ⟨z, P, he, h', Chg.refl _ _⟩
  have KA := Lib.hid (sAllows_is hm true)
  have KH := Lib.hid (sHas_is hm n)
  have KL := Lib.hid (sLoggable_is w n)
  obtain ⟨ao, cap, hvv, _⟩ := hv.shape
  by_cases ha : n < 0 ∨ (X.is.length : Int) ≤ n ∨ l.length ≠ 256
  · refine same 1 ?_
    by_cases hr : 0 ≤ n ∧ n < X.ds.F.length
    · rw [decide_eq_true hr] at KH
      rw [decide_eq_true (by omega)] at KL
      have hl : ¬ (l.length : Int) = 256 := by omega
      obtain ⟨L, hL⟩ : ∃ L, L = l.length := ⟨_, rfl⟩
      rw [← hL] at hvv hl
      subst hvv
      clear h' hm hpl hp37 ho hlt hFl h768 same hv hn hwf ha hr hL
      go_enter Try.func19, Try.ntmps19
      go_wp2_with (first
        | (go_at_call 35; (with_reducible refine KA.out.mono ?_); rintro e w' ⟨rfl, rfl⟩)
        | (go_at_call 30; (with_reducible refine KH.out.mono ?_); rintro e w' ⟨rfl, rfl⟩)
        | (go_at_call 36; (with_reducible refine KL.out.mono ?_); rintro e w' ⟨rfl, rfl⟩))
      go_ret
      exact ⟨rfl, rfl⟩
    · rw [decide_eq_false hr] at KH
      clear h' hm hpl hp37 ho hlt hFl h768 same hv hn hwf ha hr KL
      go_enter Try.func19, Try.ntmps19
      go_wp2_with (first
        | (go_at_call 35; (with_reducible refine KA.out.mono ?_); rintro e w' ⟨rfl, rfl⟩)
        | (go_at_call 30; (with_reducible refine KH.out.mono ?_); rintro e w' ⟨rfl, rfl⟩))
      go_ret
      exact ⟨rfl, rfl⟩
  · have hr : 0 ≤ n ∧ n < X.ds.F.length := by omega
    have hl : l.length = 256 := by omega
    by_cases hf : n ∉ pk ∧ 37 ≤ pk.length
    · refine same 13 ?_
      rw [decide_eq_true hr] at KH
      rw [decide_eq_true (by omega)] at KL
      have c3 := hm.c3
      have hlo := hm.mp.look_ok hwf
      have hlen := fun ty => hm.mp.len ty
      rw [if_neg hf.1, decide_eq_false hf.1] at hlo
      have hm37 : 37 ≤ (pk.length : Int) := by omega
      obtain ⟨m, hmm⟩ : ∃ m, m = pk.length := ⟨_, rfl⟩
      rw [← hmm] at hlen hm37
      rw [hl] at hvv
      subst hvv
      clear h' hm hpl hp37 ho hlt hFl h768 same hv hn hwf ha hr hf hl hmm
      go_enter Try.func19, Try.ntmps19
      go_wp2_with (first
        | (go_at_call 35; (with_reducible refine KA.out.mono ?_); rintro e w' ⟨rfl, rfl⟩)
        | (go_at_call 30; (with_reducible refine KH.out.mono ?_); rintro e w' ⟨rfl, rfl⟩)
        | (go_at_call 36; (with_reducible refine KL.out.mono ?_); rintro e w' ⟨rfl, rfl⟩))
      go_ret
      exact ⟨rfl, rfl⟩
    · refine (sPut_mem hm hv hl hr (by omega) hp37 ?_).mono ?_
      · by_cases hin : n ∈ pk
        · exact .inl hin
        · refine .inr ?_
          have : ¬ 37 ≤ pk.length := fun h => hf ⟨hin, h⟩
          omega
      · rintro e w' ⟨rfl, u, hm', hu, hsz, hext⟩
        have hP : ∀ k, k = bp → P k := fun k e => ho k (.inr (.inr (.inr (.inl e))))
        refine ⟨0, grP P w w', rfl, ⟨b, be, bp, Pd, q, ek, eg, ev, addS pk n, _, _, rfl, hm', ?_, ?_, ?_, ?_⟩, (hext.sub hP).chg⟩
        · exact hpl.nil _
        · unfold addS
          split
          · exact hp37
          · rename_i hin
            have : ¬ 37 ≤ pk.length := fun h => hf ⟨hin, h⟩
            rw [List.length_append, List.length_singleton]; omega
        · intro k hk
          rcases hk with hk | rfl | rfl | rfl | ⟨x, hx, hg⟩ | ⟨x, hx, hg⟩
          · exact .inl (ho k (.inl hk))
          · exact .inl (ho _ (.inr (.inl rfl)))
          · exact .inl (ho _ (.inr (.inr (.inl rfl))))
          · exact .inl (ho _ (.inr (.inr (.inr (.inl rfl)))))
          · exact .inl (ho k (.inr (.inr (.inr (.inr (.inl ⟨x, hx, hg⟩))))))
          · by_cases e : x = n
            · have hg : (if x = n then u else pg x).ownBlock = some k := hg
              rw [if_pos e] at hg
              exact .inr (hu k hg)
            · have hg : (if x = n then u else pg x).ownBlock = some k := hg
              rw [if_neg e] at hg
              exact .inl (ho k (.inr (.inr (.inr (.inr (.inr ⟨x, (addS_mem.1 hx).resolve_right e, hg⟩))))))
        · rintro k (hk | hk)
          · exact Nat.lt_of_lt_of_le (hlt k hk) hsz
          · exact hk.2
end
section
variable {w0 W : World} {d p q vS : Value} {f : Bool} {N : Nat} {P M : Nat → Prop} {X : XSt} {r : RSt}
theorem Live.ubelow (h : Live SUnd w0 d p q f N W P M vS X r) {W' : World} (hb : Below W.heap.size W W') : Live SUnd w0 d p q f N W' P M vS X r :=
  ⟨h.inv.below hb, h.rso.below hb, h.rel, h.fu, h.len, h.sts, h.own, h.low.trans (hb.mono h.low.size)⟩
/-- A call begun, to be undone. -/
theorem Live.begun (h : Live SInv w0 d p q f N W P M vS X r) (hw : X.wi = false) : Calls Try.prog 18 #[p] W fun e W' => e = .returned (.int .i64 0) ∧ ∃ P' X', Live SUnd w0 d p q f N W' P' M vS X' r ∧ X'.wi = false := by
  have e1 : xBegin X = (0, { X with call := X.is, put := [], wi := true }) := by unfold xBegin; rw [hw]; rfl
  refine (sBegin_of h.inv).mono ?_
  rw [e1]
  rintro e W' ⟨rfl, P', hI, hc⟩
  have hU := SUnd.of hI rfl
  have h2 := h.turn (Inv2 := SInv) (W' := W') (P' := P') (X := X)
  have hrel : Rel { X with call := X.is, put := [], wi := false } r :=
    ⟨h.rel.wi.trans hw, h.rel.is, fun e => Bool.noConfusion (show false = true from e), h.rel.base, h.rel.last, h.rel.pl⟩
  have h3 : Live (fun _ _ _ _ _ => True) w0 d p q f N W' P' M vS X r := h.turn trivial hc
  exact ⟨rfl, P', _, ⟨hU, h3.rso, hrel, h.fu, h.len, h.sts, h3.own, h3.low⟩, rfl⟩
/-- A call ended in both stores. -/
theorem Live.ended (h : Live SInv w0 d p q false N W P M vS X r) {W2 W3 : World} {P' : Nat → Prop} {z : Int} {e : Ending} (hc : Chg P P' W W2) (ho : Out2 SInv SDead d p X r (rEnd r true) W2 P' z) (hs : ROut W2 P' M q vS r.sts (rEnd r true) e W3) :
    e = .returned (.int .i64 (rEnd r true).1) ∧ ∃ M' vS' X' r', Live SInv w0 d p q false (N + 1) W3 P' M' vS' X' r' ∧ X'.wi = false := by
  obtain ⟨M', vS', he, hr3, hcm, _⟩ := hs
  rcases ho with ⟨_, X', hI, hR, hf, hl⟩ | ⟨_, hf, _⟩
  · have hr2 := h.rso.chg hc
    have hcb : Chg (fun k => P k ∨ M k) (fun k => P' k ∨ M' k) W W3 := hc.both hcm
    obtain ⟨k1, k2⟩ := h.past hcb
    have hwi : (rEnd r true).2.wi = false := by
      unfold rEnd
      cases hh : r.wi
      · exact hh
      · rfl
    refine ⟨he, M', vS', X', _, ⟨landed.past hI hr2 hcm, hr3, hR, hf.trans h.fu, hl.trans h.len, ?_, k1, k2⟩, hR.wi.symm.trans hwi⟩
    have := h.sts
    unfold rEnd
    split
    · show r.sts.length ≤ _
      omega
    · rw [if_pos rfl]
      show (r.sts ++ [r.call]).length ≤ _
      simp; omega
  · rw [h.fu] at hf; cases hf
end
end Go.Proofs.Ytigbhdgcjklhoaa

/- The law StoreUndone. -/
namespace Go.Proofs.Ytigbhdgcjklhoaa
set_option maxRecDepth 100000
open Go.RowKit
set_option linter.unusedVariables false

theorem lStUndone_long {w : World} {v v2 : Value} {Sc Sd : List O11} (hs : OpsS w v Sc) (hs2 : OpsS w v2 Sd) (hl : 100 < Sc.length ∨ 100 < Sd.length) : Calls Try.prog 5 #[v, v2] w fun e w' => e = .returned (.bool true) ∧ Below w.heap.size w w' := by
  obtain ⟨a, c, rfl⟩ := hs.shape
  obtain ⟨a2, c2, rfl⟩ := hs2.shape
  generalize Sc.length = L at hl ⊢
  generalize Sd.length = L2 at hl ⊢
  clear hs hs2
  by_cases h1 : 100 < L
  · have hl' : 100 < (L : Int) := by omega
    clear hl h1
    go_enter Try.func5, Try.ntmps5
    go_wp2_with (first
      | (go_at_call 6; (with_reducible refine (awake11_any w).mono ?_); rintro e w1 ⟨rfl, hb1⟩
         have HB1 := Lib.hid hb1
         clear hb1)
      | (go_at_call 6; (with_reducible refine (awake11_any w1).mono ?_); rintro e w2 ⟨rfl, hb2⟩))
    go_ret
    exact ⟨rfl, HB1.out.trans (hb2.mono HB1.out.size)⟩
  · have hl' : ¬ 100 < (L : Int) := by omega
    have hl2 : 100 < (L2 : Int) := by omega
    clear hl h1
    go_enter Try.func5, Try.ntmps5
    go_wp2_with (first
      | (go_at_call 6; (with_reducible refine (awake11_any w).mono ?_); rintro e w1 ⟨rfl, hb1⟩
         have HB1 := Lib.hid hb1
         clear hb1)
      | (go_at_call 6; (with_reducible refine (awake11_any w1).mono ?_); rintro e w2 ⟨rfl, hb2⟩))
    go_ret
    exact ⟨rfl, HB1.out.trans (hb2.mono HB1.out.size)⟩
set_option maxHeartbeats 4000000 in
theorem lStUndone_any {w : World} {v v2 : Value} {Sc Sd : List O11} (hs : OpsS w v Sc) (hs2 : OpsS w v2 Sd) : Calls Try.prog 5 #[v, v2] w fun e w' => e = .returned (.bool true) ∧ Below w.heap.size w w' := by
  by_cases hlong : 100 < Sc.length ∨ 100 < Sd.length
  · exact lStUndone_long hs hs2 hlong
  have HSC := Lib.hid hs
  have HSD := Lib.hid hs2
  obtain ⟨a, cap, rfl⟩ := hs.shape
  obtain ⟨a2, cap2, rfl⟩ := hs2.shape
  obtain ⟨L, hL⟩ : ∃ L, L = Sc.length := ⟨_, rfl⟩
  obtain ⟨L2, hL2⟩ : ∃ L2, L2 = Sd.length := ⟨_, rfl⟩
  rw [← hL] at HSC hlong ⊢
  rw [← hL2] at HSD hlong ⊢
  have hl1 : ¬ 100 < (L : Int) := by omega
  have hl2 : ¬ 100 < (L2 : Int) := by omega
  have HL := Lib.hid hL
  have HL2 := Lib.hid hL2
  have HLL : Hid (L ≤ 100) := Lib.hid (by omega)
  have KZ := Lib.hid (fun (W : World) (P : Nat → Prop) (hP : ∀ k, P k → k < W.heap.size) => show Calls Try.prog 10 #[.int .i64 80] W fun e w' => ∃ v, e = .returned v ∧ BBo w' W.heap.size P v (List.replicate 80 zb) ∧ Below W.heap.size W w' from zeros11_of hP 80 (by decide))
  have KN := Lib.hid (fun (W : World) => show Calls Try.prog 7 #[.int .i64 80] W fun e w' => ∃ p P, e = .returned p ∧ Dk w' P p (DS.new 80) ∧ (∀ k, P k → W.heap.size ≤ k) ∧ Below W.heap.size W w' from kNew W 80 (by decide))
  clear hs hs2 hL hL2 hlong
  go_enter Try.func5, Try.ntmps5
  go_wp2_with (first
    | (go_at_call 6; (with_reducible refine (awake11_any w).mono ?_); rintro e w1 ⟨rfl, hb1⟩
       have HB1 := Lib.hid hb1
       clear hb1)
    | (go_at_call 7; (with_reducible refine (KN.out w1).mono ?_); rintro e w2 ⟨d, P0, rfl, hd2, hp2, hb2⟩
       have KO := Lib.hid (openNew landed hd2 (by decide) (by decide))
       have HP2 := Lib.hid (fun k hk => Nat.le_trans HB1.out.size (hp2 k hk))
       have HB2 := Lib.hid (HB1.out.trans (hb2.mono HB1.out.size))
       obtain ⟨bd, rfl⟩ := hd2.ptr
       clear hd2 hp2 hb2)
    | (go_at_call 8; (with_reducible refine KO.out.mono ?_); rintro e w3 ⟨p, ds', P1, rfl, hf3, hI3, hc3⟩
       have HO3 := Lib.hid (set1 HP2.out HB2.out hc3)
       have HI3 := Lib.hid hI3
       have HF3 := Lib.hid hf3
       have KZ3 := Lib.hid (KZ.out w3 P1 (landed.lt hI3))
       obtain ⟨bs, rfl⟩ := landed.ptr hI3
       clear hI3 hf3 hc3)
    | (go_at_call 10; (with_reducible refine KZ3.out.mono ?_); rintro e w4 ⟨v4, rfl, hv4, hb4⟩
       have HB4 := Lib.hid hb4
       have KR := Lib.hid (rNew_of (hv4.bba (landed.lt HI3.out)) (by rw [List.length_replicate]; decide) (fun k hk => Nat.lt_of_lt_of_le (landed.lt HI3.out k hk) hb4.size))
       obtain ⟨ao4, c4, rfl⟩ := shape80 (hv4.bba (landed.lt HI3.out))
       clear hv4 hb4)
    | (go_at_call 9; (with_reducible refine KR.out.mono ?_); rintro e w5 ⟨q, vS, M, rfl, hr5, hb5, hM5⟩
       have HLV := Lib.hid (set2 landed HI3.out HF3.out HO3.out.1 HO3.out.2 HB4.out hr5 hb5 hM5)
       obtain ⟨qb, rfl⟩ := (HLV.out.ptrs landed).2
       clear hr5 hb5 hM5))
  clear KZ KN KO KZ3 KR HP2 HB2 HO3 HI3 HF3 HB4
  go_loopw [35] (fun i wr => ∃ (k : Nat) (P M : Nat → Prop) (vS : Value) (X : XSt) (r : RSt), i = .int .i64 k ∧ k ≤ L ∧ Hid (Live SInv w (.pointer (some ⟨bd, 0, none⟩)) (.pointer (some ⟨bs, 0, none⟩)) (.pointer (some ⟨qb, 0, none⟩)) false (k + 1) wr P M vS X r)) (fun i _ => L - (intOf i).toNat)
  case atStart => exact ⟨0, _, _, _, _, _, rfl, Nat.zero_le _, HLV⟩
  case round =>
    clear HLV
    obtain ⟨k, P2, M2, vS2, X, r, rfl, hkL, HV⟩ := hrel
    by_cases hlt : k < L
    · have ek : (k : Int) < (L : Int) := by omega
      obtain ⟨ab, off, kd, n, x, kp, sh, rfl, hab, hok, c0, c1, c2, c3, c4⟩ := HSC.out.op HL.out hlt
      have HCE := Lib.hid (fun (W : World) (hb : Below w.heap.size w W) => show W.cell? ⟨ab, off + k * 5, none⟩ = some (.int .i64 kd) ∧ W.cell? ⟨ab, off + k * 5 + 1, none⟩ = some (.int .i64 n) ∧ W.cell? ⟨ab, off + k * 5 + 2, none⟩ = some (.int .u8 x) ∧ W.cell? ⟨ab, off + k * 5 + 3, none⟩ = some (.bool kp) ∧ W.cell? ⟨ab, off + k * 5 + 4, none⟩ = some (.bool sh) from
        ⟨(hb.cell (p := ⟨ab, _, none⟩) hab).trans c0, (hb.cell (p := ⟨ab, _, none⟩) hab).trans c1, (hb.cell (p := ⟨ab, _, none⟩) hab).trans c2, (hb.cell (p := ⟨ab, _, none⟩) hab).trans c3, (hb.cell (p := ⟨ab, _, none⟩) hab).trans c4⟩)
      have HOK := Lib.hid hok
      obtain ⟨q0, q1, q2, q3, q4⟩ := HCE.out wr HV.out.low
      have KJ := Lib.hid (show Calls Try.prog 11 #[.agg #[.int .i64 kd, .int .i64 n, .int .u8 x, .bool kp, .bool sh]] wr fun e w' => e = .returned (.bool (inJo kd n)) ∧ Below wr.heap.size wr w' from inJ11_is kd n x kp sh wr)
      clear c0 c1 c2 c3 c4 hok hab
      by_cases hij : inJo kd n = true
      · rw [hij] at KJ
        go_wp2_with (go_at_call 11; (with_reducible refine KJ.out.mono ?_); rintro e w7 ⟨rfl, hb7⟩
                     have HV7 := Lib.hid (HV.out.below landed hb7)
                     clear hb7)
        go_roundw
        case rel => exact ⟨k + 1, _, _, _, _, _, by go_num, by omega, Lib.hid (HV7.out.more (Nat.le_succ _))⟩
        case measure => simp [intOf]; omega
      rw [Bool.not_eq_true] at hij
      have HJ0 := Lib.hid hij
      rw [hij] at KJ
      clear hij
      by_cases h1 : kd < 1
      · have h1' : ¬ 1 ≤ kd := by omega
        go_wp2_with (go_at_call 11; (with_reducible refine KJ.out.mono ?_); rintro e w7 ⟨rfl, hb7⟩
                     have HV7 := Lib.hid (HV.out.below landed hb7)
                     obtain ⟨u0, u1, u2, u3, u4⟩ := HCE.out w7 HV7.out.low
                     clear hb7 q0 q1 q2 q3 q4)
        go_roundw
        case rel => exact ⟨k + 1, _, _, _, _, _, by go_num, by omega, Lib.hid (HV7.out.more (Nat.le_succ _))⟩
        case measure => simp [intOf]; omega
      by_cases h4 : 4 < kd
      · have h1' : 1 ≤ kd := by omega
        have h4' : ¬ kd ≤ 4 := by omega
        go_wp2_with (go_at_call 11; (with_reducible refine KJ.out.mono ?_); rintro e w7 ⟨rfl, hb7⟩
                     have HV7 := Lib.hid (HV.out.below landed hb7)
                     obtain ⟨u0, u1, u2, u3, u4⟩ := HCE.out w7 HV7.out.low
                     clear hb7 q0 q1 q2 q3 q4)
        go_roundw
        case rel => exact ⟨k + 1, _, _, _, _, _, by go_num, by omega, Lib.hid (HV7.out.more (Nat.le_succ _))⟩
        case measure => simp [intOf]; omega
      have h1' : 1 ≤ kd := by omega
      have h4' : kd ≤ 4 := by omega
      have HC : Hid (kd = 1 ∨ kd = 3 ∨ kd = 4 ∨ ¬ (3 ≤ n ∧ n < 43)) := Lib.hid (by
        have h := HJ0.out
        unfold inJo at h
        simp only [Bool.and_eq_false_iff, decide_eq_false_iff_not] at h
        omega)
      have HD := Lib.hid (fun (W : World) (hb : Below wr.heap.size wr W) => show Calls Try.prog 12 #[(.pointer (some ⟨bs, 0, none⟩)), (.pointer (some ⟨qb, 0, none⟩)), .agg #[.int .i64 kd, .int .i64 n, .int .u8 x, .bool kp, .bool sh]] W fun e W' => e = .returned (.bool true) ∧ ∃ P' M' vS' X' r', Live SInv w (.pointer (some ⟨bd, 0, none⟩)) (.pointer (some ⟨bs, 0, none⟩)) (.pointer (some ⟨qb, 0, none⟩)) false (k + 1 + 1) W' P' M' vS' X' r' ∧ (kd = 4 → X'.wi = false → X'.dt = 0) ∧ Chg (fun k => P2 k ∨ M2 k) (fun k => P' k ∨ M' k) W W' from
        (HV.out.below landed hb).does landed (by have := HLL.out; omega) ⟨kd, n, x, kp, sh⟩ HOK.out HC.out)
      clear h1 h4
      go_wp2_with (first
        | (go_at_call 11; (with_reducible refine KJ.out.mono ?_); rintro e w7 ⟨rfl, hb7⟩
           obtain ⟨u0, u1, u2, u3, u4⟩ := HCE.out w7 (HV.out.low.trans (hb7.mono HV.out.low.size))
           have KD := Lib.hid (HD.out w7 hb7)
           clear hb7 q0 q1 q2 q3 q4)
        | (go_at_call 12; (with_reducible refine KD.out.mono ?_); rintro e w8 ⟨rfl, P3, M3, vS3, X3, r3, hv8, _, _⟩
           have HV8 := Lib.hid hv8
           clear hv8))
      go_roundw
      case rel => exact ⟨k + 1, _, _, _, _, _, by go_num, by omega, HV8⟩
      case measure => simp [intOf]; omega
    · obtain rfl : k = L := by omega
      have KW := Lib.hid (landed.within HV.out.inv)
      cases hw : X.wi
      · rw [hw] at KW
        have HR : Hid (Live SInv w (.pointer (some ⟨bd, 0, none⟩)) (.pointer (some ⟨bs, 0, none⟩)) (.pointer (some ⟨qb, 0, none⟩)) false (k + 1 + 1) wr P2 M2 vS2 X r) := Lib.hid (HV.out.more (Nat.le_succ _))
        have HW := Lib.hid hw
        clear hw HV
        go_upto_region 16 with (go_at_call 13; (with_reducible refine KW.out.mono ?_); rintro e w9 ⟨rfl, rfl⟩)
        have KB := Lib.hid (HR.out.begun HW.out)
        clear HR HW
        go_wp2_with (go_at_call 18; (with_reducible refine KB.out.mono ?_); rintro e wb ⟨rfl, P4, X4, hv4, hw4⟩
                     have HU := Lib.hid hv4
                     have HW4 := Lib.hid hw4
                     clear hv4 hw4)
        clear KB
        go_loopw [82] (fun i wr => ∃ (k2 : Nat) (P : Nat → Prop), i = .int .i64 k2 ∧ k2 ≤ L2 ∧ Hid (Live SUnd w (.pointer (some ⟨bd, 0, none⟩)) (.pointer (some ⟨bs, 0, none⟩)) (.pointer (some ⟨qb, 0, none⟩)) false (k + 1 + 1) wr P M2 vS2 X4 r)) (fun i _ => L2 - (intOf i).toNat)
        case atStart => exact ⟨0, _, rfl, Nat.zero_le _, HU⟩
        case round =>
          clear HU
          obtain ⟨k2, P5, rfl, hkL2, HV⟩ := hrel
          by_cases hlt2 : k2 < L2
          · have ek2 : (k2 : Int) < (L2 : Int) := by omega
            obtain ⟨ab, off, kd, n, x, kp, sh, rfl, hab, hok, c0, c1, c2, c3, c4⟩ := HSD.out.op HL2.out hlt2
            have HCE := Lib.hid (fun (W : World) (hb : Below w.heap.size w W) => show W.cell? ⟨ab, off + k2 * 5, none⟩ = some (.int .i64 kd) ∧ W.cell? ⟨ab, off + k2 * 5 + 1, none⟩ = some (.int .i64 n) ∧ W.cell? ⟨ab, off + k2 * 5 + 2, none⟩ = some (.int .u8 x) ∧ W.cell? ⟨ab, off + k2 * 5 + 3, none⟩ = some (.bool kp) ∧ W.cell? ⟨ab, off + k2 * 5 + 4, none⟩ = some (.bool sh) from
              ⟨(hb.cell (p := ⟨ab, _, none⟩) hab).trans c0, (hb.cell (p := ⟨ab, _, none⟩) hab).trans c1, (hb.cell (p := ⟨ab, _, none⟩) hab).trans c2, (hb.cell (p := ⟨ab, _, none⟩) hab).trans c3, (hb.cell (p := ⟨ab, _, none⟩) hab).trans c4⟩)
            have HOK := Lib.hid hok
            obtain ⟨q0, q1, q2, q3, q4⟩ := HCE.out wr HV.out.low
            have KJ := Lib.hid (show Calls Try.prog 11 #[.agg #[.int .i64 kd, .int .i64 n, .int .u8 x, .bool kp, .bool sh]] wr fun e w' => e = .returned (.bool (inJo kd n)) ∧ Below wr.heap.size wr w' from inJ11_is kd n x kp sh wr)
            clear c0 c1 c2 c3 c4 hok hab
            by_cases hij : inJo kd n = true
            · rw [hij] at KJ
              go_wp2_with (go_at_call 11; (with_reducible refine KJ.out.mono ?_); rintro e w7 ⟨rfl, hb7⟩
                           have HV7 := Lib.hid (HV.out.ubelow hb7)
                           clear hb7)
              go_roundw
              case rel => exact ⟨k2 + 1, _, by go_num, by omega, HV7⟩
              case measure => simp [intOf]; omega
            rw [Bool.not_eq_true] at hij
            rw [hij] at KJ
            clear hij
            go_upto_region 22 with (go_at_call 11; (with_reducible refine KJ.out.mono ?_); rintro e w7 ⟨rfl, hb7⟩
                                    have HV7 := Lib.hid (HV.out.ubelow hb7.drew)
                                    obtain ⟨u0, u1, u2, u3, u4⟩ := HCE.out w7.drew HV7.out.low
                                    clear hb7 q0 q1 q2 q3 q4)
            have KBL := Lib.hid (show Calls Try.prog 20 #[.agg #[.int .i64 kd, .int .i64 n, .int .u8 x, .bool kp, .bool sh]] w7.drew fun e w' => ∃ v, e = .returned v ∧ OB w' w7.drew.heap.size v (blkL x sh) ∧ Below w7.drew.heap.size w7.drew w' from block11_of kd n x kp sh HOK.out.1 w7.drew)
            have hS : w7.drew.cell? ⟨ab, off + k2 * 5, none⟩ = some (.int .i64 kd) ∧ w7.drew.cell? ⟨ab, off + k2 * 5 + 1, none⟩ = some (.int .i64 n) ∧ w7.drew.cell? ⟨ab, off + k2 * 5 + 2, none⟩ = some (.int .u8 x) ∧ w7.drew.cell? ⟨ab, off + k2 * 5 + 3, none⟩ = some (.bool kp) ∧ w7.drew.cell? ⟨ab, off + k2 * 5 + 4, none⟩ = some (.bool sh) := ⟨u0, u1, u2, u3, u4⟩
            clear u0 u1 u2 u3 u4
            go_region_held3 (fun W => W.cell? ⟨ab, off + k2 * 5, none⟩ = some (.int .i64 kd) ∧ W.cell? ⟨ab, off + k2 * 5 + 1, none⟩ = some (.int .i64 n) ∧ W.cell? ⟨ab, off + k2 * 5 + 2, none⟩ = some (.int .u8 x) ∧ W.cell? ⟨ab, off + k2 * 5 + 3, none⟩ = some (.bool kp) ∧ W.cell? ⟨ab, off + k2 * 5 + 4, none⟩ = some (.bool sh)) (first | exact s9 | exact s8 | exact hS) (first
              | (go_at_call 20; (with_reducible refine KBL.out.mono ?_); rintro e w8 ⟨v8, rfl, hob8, hb8⟩
                 have HV8 := Lib.hid (HV7.out.ubelow hb8)
                 have s8 := HCE.out w8 HV8.out.low
                 have KP := Lib.hid (HV8.out.inv.put hob8.bsl HOK.out.2)
                 clear hob8 hb8)
              | (go_at_call 19; (with_reducible refine KP.out.mono ?_); rintro e w9 ⟨z, P6, rfl, hu9, hc9⟩
                 have HV9 := Lib.hid (HV8.out.turn (Inv2 := SUnd) hu9 hc9)
                 have s9 := HCE.out w9 HV9.out.low
                 clear hu9 hc9))
            all_goals
              go_wp2
              go_roundw
              case rel => exact ⟨k2 + 1, _, by go_num, by omega, HV9⟩
              case measure => simp [intOf]; omega
          · obtain rfl : k2 = L2 := by omega
            have KD := Lib.hid HV.out.inv.dirty
            have KE := Lib.hid (HV.out.inv.ended HW4.out)
            obtain ⟨dt, hdt⟩ : ∃ dt, dt = X4.dt := ⟨_, rfl⟩
            have HT := Lib.hid hdt
            rw [← hdt] at KD
            clear hdt
            go_wp2_with (first
              | (go_at_call 14; (with_reducible refine KD.out.mono ?_); rintro e w6 ⟨rfl, rfl⟩)
              | (go_at_call 21; (with_reducible refine KE.out.mono ?_); rintro e w7 ⟨rfl, P7, hI7, hc7⟩
                 have HV7 := Lib.hid (HV.out.turn (Inv2 := SInv) hI7 hc7)
                 obtain ⟨vI, vC, i0, _, _, hI, _, ⟨ai, ni, ci, rfl⟩, _⟩ := HV7.out.rso.law
                 have KS := Lib.hid (HV7.out.same landed hI (by rw [HW4.out]; exact HV7.out.rel.is) (HV7.out.rel.len.trans HV7.out.len))
                 clear hI7 hc7 hI)
              | (go_at_call 16; (with_reducible refine KS.out.mono ?_); rintro e w8 ⟨rfl, P8, hI8, hc8⟩
                 have HB8 := Lib.hid ((HV7.out.turn (Inv2 := SInv) hI8 hc8).low)
                 have KD8 := Lib.hid (landed.dirty hI8)
                 rw [← HT.out] at KD8
                 clear hI8 hc8)
              | (go_at_call 14; (with_reducible refine KD8.out.mono ?_); rintro e w6 ⟨rfl, rfl⟩))
            go_ret
            exact ⟨rfl, HB8.out⟩
      · rw [hw] at KW
        have KE := Lib.hid (landed.endR HV.out.inv HV.out.rel true)
        have KR := Lib.hid (fun (W2 : World) (P' : Nat → Prop) (hl : ∀ k, P' k → k < W2.heap.size) (hc : Chg P2 P' wr W2) => rsEnd_any (HV.out.rso.chg hc) hl true (by have := HV.out.sts; have := HLL.out; omega))
        clear hw
        go_upto_region 16 with (first
          | (go_at_call 13; (with_reducible refine KW.out.mono ?_); rintro e w9 ⟨rfl, rfl⟩)
          | (go_at_call 21; (with_reducible refine KE.out.mono ?_); rintro e w2 ⟨z, P3, rfl, hc, hl, ho⟩
             have KR2 := Lib.hid (KR.out w2 P3 hl hc)
             have HO2 := Lib.hid ho
             have HC2 := Lib.hid hc
             clear ho hc hl)
          | (go_at_call 23; (with_reducible refine KR2.out.mono ?_); rintro e w3 ho
             have HE := Lib.hid (HV.out.ended HC2.out HO2.out ho)
             obtain ⟨rfl, _⟩ := HE.out
             clear ho))
        obtain ⟨_, M3, vS3, X3, r3, hR3, hw3⟩ := HE.out
        have HR := Lib.hid hR3
        have HW := Lib.hid hw3
        clear HE hR3 hw3 HV KE KR KR2 HO2 HC2
        have KB := Lib.hid (HR.out.begun HW.out)
        clear HR HW
        go_wp2_with (go_at_call 18; (with_reducible refine KB.out.mono ?_); rintro e wb ⟨rfl, P4, X4, hv4, hw4⟩
                     have HU := Lib.hid hv4
                     have HW4 := Lib.hid hw4
                     clear hv4 hw4)
        clear KB
        go_loopw [82] (fun i wr => ∃ (k2 : Nat) (P : Nat → Prop), i = .int .i64 k2 ∧ k2 ≤ L2 ∧ Hid (Live SUnd w (.pointer (some ⟨bd, 0, none⟩)) (.pointer (some ⟨bs, 0, none⟩)) (.pointer (some ⟨qb, 0, none⟩)) false (k + 1 + 1) wr P M3 vS3 X4 r3)) (fun i _ => L2 - (intOf i).toNat)
        case atStart => exact ⟨0, _, rfl, Nat.zero_le _, HU⟩
        case round =>
          clear HU
          obtain ⟨k2, P5, rfl, hkL2, HV⟩ := hrel
          by_cases hlt2 : k2 < L2
          · have ek2 : (k2 : Int) < (L2 : Int) := by omega
            obtain ⟨ab, off, kd, n, x, kp, sh, rfl, hab, hok, c0, c1, c2, c3, c4⟩ := HSD.out.op HL2.out hlt2
            have HCE := Lib.hid (fun (W : World) (hb : Below w.heap.size w W) => show W.cell? ⟨ab, off + k2 * 5, none⟩ = some (.int .i64 kd) ∧ W.cell? ⟨ab, off + k2 * 5 + 1, none⟩ = some (.int .i64 n) ∧ W.cell? ⟨ab, off + k2 * 5 + 2, none⟩ = some (.int .u8 x) ∧ W.cell? ⟨ab, off + k2 * 5 + 3, none⟩ = some (.bool kp) ∧ W.cell? ⟨ab, off + k2 * 5 + 4, none⟩ = some (.bool sh) from
              ⟨(hb.cell (p := ⟨ab, _, none⟩) hab).trans c0, (hb.cell (p := ⟨ab, _, none⟩) hab).trans c1, (hb.cell (p := ⟨ab, _, none⟩) hab).trans c2, (hb.cell (p := ⟨ab, _, none⟩) hab).trans c3, (hb.cell (p := ⟨ab, _, none⟩) hab).trans c4⟩)
            have HOK := Lib.hid hok
            obtain ⟨q0, q1, q2, q3, q4⟩ := HCE.out wr HV.out.low
            have KJ := Lib.hid (show Calls Try.prog 11 #[.agg #[.int .i64 kd, .int .i64 n, .int .u8 x, .bool kp, .bool sh]] wr fun e w' => e = .returned (.bool (inJo kd n)) ∧ Below wr.heap.size wr w' from inJ11_is kd n x kp sh wr)
            clear c0 c1 c2 c3 c4 hok hab
            by_cases hij : inJo kd n = true
            · rw [hij] at KJ
              go_wp2_with (go_at_call 11; (with_reducible refine KJ.out.mono ?_); rintro e w7 ⟨rfl, hb7⟩
                           have HV7 := Lib.hid (HV.out.ubelow hb7)
                           clear hb7)
              go_roundw
              case rel => exact ⟨k2 + 1, _, by go_num, by omega, HV7⟩
              case measure => simp [intOf]; omega
            rw [Bool.not_eq_true] at hij
            rw [hij] at KJ
            clear hij
            go_upto_region 22 with (go_at_call 11; (with_reducible refine KJ.out.mono ?_); rintro e w7 ⟨rfl, hb7⟩
                                    have HV7 := Lib.hid (HV.out.ubelow hb7.drew)
                                    obtain ⟨u0, u1, u2, u3, u4⟩ := HCE.out w7.drew HV7.out.low
                                    clear hb7 q0 q1 q2 q3 q4)
            have KBL := Lib.hid (show Calls Try.prog 20 #[.agg #[.int .i64 kd, .int .i64 n, .int .u8 x, .bool kp, .bool sh]] w7.drew fun e w' => ∃ v, e = .returned v ∧ OB w' w7.drew.heap.size v (blkL x sh) ∧ Below w7.drew.heap.size w7.drew w' from block11_of kd n x kp sh HOK.out.1 w7.drew)
            have hS : w7.drew.cell? ⟨ab, off + k2 * 5, none⟩ = some (.int .i64 kd) ∧ w7.drew.cell? ⟨ab, off + k2 * 5 + 1, none⟩ = some (.int .i64 n) ∧ w7.drew.cell? ⟨ab, off + k2 * 5 + 2, none⟩ = some (.int .u8 x) ∧ w7.drew.cell? ⟨ab, off + k2 * 5 + 3, none⟩ = some (.bool kp) ∧ w7.drew.cell? ⟨ab, off + k2 * 5 + 4, none⟩ = some (.bool sh) := ⟨u0, u1, u2, u3, u4⟩
            clear u0 u1 u2 u3 u4
            go_region_held3 (fun W => W.cell? ⟨ab, off + k2 * 5, none⟩ = some (.int .i64 kd) ∧ W.cell? ⟨ab, off + k2 * 5 + 1, none⟩ = some (.int .i64 n) ∧ W.cell? ⟨ab, off + k2 * 5 + 2, none⟩ = some (.int .u8 x) ∧ W.cell? ⟨ab, off + k2 * 5 + 3, none⟩ = some (.bool kp) ∧ W.cell? ⟨ab, off + k2 * 5 + 4, none⟩ = some (.bool sh)) (first | exact s9 | exact s8 | exact hS) (first
              | (go_at_call 20; (with_reducible refine KBL.out.mono ?_); rintro e w8 ⟨v8, rfl, hob8, hb8⟩
                 have HV8 := Lib.hid (HV7.out.ubelow hb8)
                 have s8 := HCE.out w8 HV8.out.low
                 have KP := Lib.hid (HV8.out.inv.put hob8.bsl HOK.out.2)
                 clear hob8 hb8)
              | (go_at_call 19; (with_reducible refine KP.out.mono ?_); rintro e w9 ⟨z, P6, rfl, hu9, hc9⟩
                 have HV9 := Lib.hid (HV8.out.turn (Inv2 := SUnd) hu9 hc9)
                 have s9 := HCE.out w9 HV9.out.low
                 clear hu9 hc9))
            all_goals
              go_wp2
              go_roundw
              case rel => exact ⟨k2 + 1, _, by go_num, by omega, HV9⟩
              case measure => simp [intOf]; omega
          · obtain rfl : k2 = L2 := by omega
            have KD := Lib.hid HV.out.inv.dirty
            have KE := Lib.hid (HV.out.inv.ended HW4.out)
            obtain ⟨dt, hdt⟩ : ∃ dt, dt = X4.dt := ⟨_, rfl⟩
            have HT := Lib.hid hdt
            rw [← hdt] at KD
            clear hdt
            go_wp2_with (first
              | (go_at_call 14; (with_reducible refine KD.out.mono ?_); rintro e w6 ⟨rfl, rfl⟩)
              | (go_at_call 21; (with_reducible refine KE.out.mono ?_); rintro e w7 ⟨rfl, P7, hI7, hc7⟩
                 have HV7 := Lib.hid (HV.out.turn (Inv2 := SInv) hI7 hc7)
                 obtain ⟨vI, vC, i0, _, _, hI, _, ⟨ai, ni, ci, rfl⟩, _⟩ := HV7.out.rso.law
                 have KS := Lib.hid (HV7.out.same landed hI (by rw [HW4.out]; exact HV7.out.rel.is) (HV7.out.rel.len.trans HV7.out.len))
                 clear hI7 hc7 hI)
              | (go_at_call 16; (with_reducible refine KS.out.mono ?_); rintro e w8 ⟨rfl, P8, hI8, hc8⟩
                 have HB8 := Lib.hid ((HV7.out.turn (Inv2 := SInv) hI8 hc8).low)
                 have KD8 := Lib.hid (landed.dirty hI8)
                 rw [← HT.out] at KD8
                 clear hI8 hc8)
              | (go_at_call 14; (with_reducible refine KD8.out.mono ?_); rintro e w6 ⟨rfl, rfl⟩))
            go_ret
            exact ⟨rfl, HB8.out⟩
end Go.Proofs.Ytigbhdgcjklhoaa
