/- The landed store: contract of settle, where calls have changed something. -/
import Derived.Test.YtigbhdgcjklhoaaGreatC14
namespace Go.Proofs.YtigbhdgcjklhoaaGreat
set_option maxRecDepth 100000
open Go.RowKit
set_option linter.unusedVariables false

/-- What settle hands back. -/
def SetQ (w : World) (Pd : Nat → Prop) (b bp : Nat) (d : Value) (eg : Int → Value) (ev : Int → List Int) (pk : List Int) (pg : Int → Value) (pv : Int → List Int) (wi : Bool) (r : Int × DS) (e : Ending) (w' : World) : Prop :=
  (r.1 = 0 ∧ e = .returned (.int .i64 0) ∧ ∃ be' Pd' q', SMem w' Pd' b be' bp d q' [] eg ev pk pg pv wi r.2 ∧ (w.heap.size ≤ be' ∧ be' < w'.heap.size) ∧ (∀ k, Pd' k → Pd k ∨ w.heap.size ≤ k) ∧ Ext (fun k => Pd k ∨ k = b) w w') ∨
  (r.1 = 2 ∧ e = .returned (.int .i64 2) ∧ ∃ Pd', w'.heap[b]? = some deadRow ∧ Dk w' Pd' d r.2 ∧ (∀ k, Pd' k → Pd k ∨ w.heap.size ≤ k) ∧ Ext (fun k => Pd k ∨ k = b) w w')
section
variable {w : World} {Pd : Nat → Prop} {b be bp : Nat} {d : Value} {q : Int} {ek : List Int} {eg : Int → Value} {ev : Int → List Int} {pk : List Int} {pg : Int → Value} {pv : Int → List Int} {wi : Bool} {s : DS}
set_option maxHeartbeats 2000000 in
theorem sSettle_of (h : SMem w Pd b be bp d q ek eg ev pk pg pv wi s) (hne : 0 < ek.length) (hel : ek.length ≤ 37) (hB : takesT s.F.length (sortN ek) ((sortN ek).map ev) = true) (hU : s.U.length ≤ 800000) :
    Calls Tryz.prog 40 #[.pointer (some ⟨b, 0, none⟩)] w (SetQ w Pd b bp d eg ev pk pg pv wi (runA (setA q (sortN ek) ((sortN ek).map ev)) s)) := by
  have KT := Lib.hid (sTrans_of h hel)
  obtain ⟨N, hN⟩ : ∃ N, N = sortN ek := ⟨_, rfl⟩
  obtain ⟨D, hD⟩ : ∃ D, D = N.map ev := ⟨_, rfl⟩
  rw [← hN, ← hD] at KT hB ⊢
  have h37 : N.length ≤ 37 ∧ D.length ≤ 37 := by rw [hD, List.length_map, hN, sortN_length]; exact ⟨hel, hel⟩
  have c2 := h.c2
  have hlen := fun ty => h.me.len ty
  have hp : 0 < (ek.length : Int) := by omega
  obtain ⟨m, hm⟩ : ∃ m, m = ek.length := ⟨_, rfl⟩
  rw [← hm] at hlen hp
  have h0 := h.dk.ptr
  obtain ⟨bd, rfl⟩ := h0
  -- the box
  have HST := Lib.hid (fun (w1 : World) (vN vD : Value) (hi : IR w1 0 vN N) (hd : BBR w1 0 vD D) (hb : Below w.heap.size w w1) =>
    show Stg w Pd b be bp (.pointer (some ⟨bd, 0, none⟩)) q ek eg ev pk pg pv wi w1.heap.size vN vD N D (w1.alloc (.cells #[.int .u32 q, vN, vD] 71)) Pd s from
      ⟨(h.below hb).below (below_box w1 _), (TxVa.own (h.below hb).dk hi hd).chg (Chg.of_below (below_box w1 _)), heap_alloc_new w1 _, (Chg.of_below hb).trans (Chg.of_below (below_box w1 _))⟩)
  have HSH := Lib.hid (fun (w1 : World) (vN vD : Value) (hi : IR w1 0 vN N) (hd : BBR w1 0 vD D) => And.intro hi.isc.2 hd.sl.shape)
  have hl1 := runA_len (layA q (layWs q N D)) s
  have hlw : (layA q (layWs q N D)).length ≤ 50 := by
    unfold layA layWs
    simp only [List.length_append, List.length_map, List.length_range, List.length_cons, List.length_nil]
    omega
  have hlh : (homeA N D).length ≤ 40 := by
    rw [homeA_length]; omega
  have HW := Lib.hid (fun (g : Nat) (vN vD : Value) (W : World) (P' : Nat → Prop) (hs : Stg w Pd b be bp (.pointer (some ⟨bd, 0, none⟩)) q ek eg ev pk pg pv wi g vN vD N D W P' s) => hs.write hB (by omega))
  have er := runA_append (layA q (layWs q N D)) (homeA N D ++ [.f]) s
  have HQ := Lib.hid h.q0
  obtain ⟨R, hR⟩ : ∃ R, R = runA (setA q N D) s := ⟨_, rfl⟩
  have hR' := hR
  unfold setA at hR'
  rw [er] at hR'
  rw [← hR]
  have hr1 := runA_two (layA q (layWs q N D)) s
  obtain ⟨r1, s1, h1⟩ : ∃ r1 s1, runA (layA q (layWs q N D)) s = (r1, s1) := ⟨_, _, rfl⟩
  rw [h1] at HW hl1 hR' hr1
  simp only at hl1
  have HH := Lib.hid (fun (g : Nat) (vN vD : Value) (W : World) (P' : Nat → Prop) (hs : Stg w Pd b be bp (.pointer (some ⟨bd, 0, none⟩)) q ek eg ev pk pg pv wi g vN vD N D W P' s1) => hs.home (by rw [hl1.1]; exact hB) (by omega))
  have er2 := runA_append (homeA N D) [.f] s1
  rw [er2] at hR'
  have hl2 := runA_len (homeA N D) s1
  have hr2 := runA_two (homeA N D) s1
  obtain ⟨r2, s2, h2⟩ : ∃ r2 s2, runA (homeA N D) s1 = (r2, s2) := ⟨_, _, rfl⟩
  rw [h2] at HH hl2 hR' hr2
  simp only at hl2
  have HF := Lib.hid (fun (g : Nat) (vN vD : Value) (W : World) (P' : Nat → Prop) (hs : Stg w Pd b be bp (.pointer (some ⟨bd, 0, none⟩)) q ek eg ev pk pg pv wi g vN vD N D W P' s2) => hs.flush (by omega))
  have hr3 := runA_two [.f] s2
  obtain ⟨r3, s3, h3⟩ : ∃ r3 s3, runA [.f] s2 = (r3, s3) := ⟨_, _, rfl⟩
  rw [h3] at HF hR' hr3
  have hwq : ∃ q', IntKind.u32.wrap (q + 1) = q' ∧ 0 ≤ q' ∧ q' < 4294967296 := ⟨(q + 1) % 4294967296, by simp [IntKind.wrap, IntKind.signed, IntKind.bits], by omega, by omega⟩
  obtain ⟨q', hq', hq0⟩ := hwq
  have HQ' := Lib.hid hq0
  clear h hel hB hU hN hD h37 hm hl1 hl2 hlw hlh er er2 h1 h2 h3 hne hq0 hR
  simp only at hr1 hr2 hr3 HW HH HF hR'
  rcases hr1 with rfl | rfl
  · rcases hr2 with rfl | rfl
    · rcases hr3 with rfl | rfl
      · -- all is done
        rw [if_pos rfl, if_pos rfl] at hR'
        subst hR'
        go_enter Tryz.func40, Tryz.ntmps40
        go_wp2_with (go_at_call 58; (with_reducible refine KT.out.mono ?_); rintro e w1 ⟨vN, vD, rfl, hi, hd, hb⟩
                     have HS := Lib.hid (HST.out w1 vN vD hi hd hb)
                     obtain ⟨⟨no, nc, rfl, _⟩, ao, dc, rfl, _⟩ := HSH.out w1 vN vD hi hd
                     clear hi hd hb)
        generalize hgg : w1.heap.size = g at HS
        generalize w1.alloc (.cells #[.int .u32 q, .slice no N.length nc, .slice ao D.length dc] 71) = W2 at HS ⊢
        obtain ⟨k0, k1, k2, k3⟩ := HS.out.facts
        generalize N.length = ln at HS k2 ⊢
        generalize D.length = ld at HS k3 ⊢
        have KW := Lib.hid (HW.out g _ _ W2.drew _ (HS.out.below (Below.refl _ W2).drew))
        go_still_tail 5, (by kernel_rfl)
        go_wp2_with (first
                     | (go_at_call 59; (with_reducible refine KW.out.mono ?_); rintro e W3 ⟨rfl, P3, hs3⟩
                        have HS3 := Lib.hid hs3
                        obtain ⟨l0, l1, l2, l3⟩ := hs3.facts
                        clear hs3))
        have hmm := @run_makeMap Tryz.prog
        have KH := Lib.hid (HH.out g _ _ W3.drew _ (HS3.out.below (Below.refl _ W3).drew))
        go_still_tail 5, (by kernel_rfl)
        go_wp2_with (first
                     | (go_at_call 33; (with_reducible refine KH.out.mono ?_); rintro e W4 ⟨rfl, P4, hs4⟩
                        have HS4 := Lib.hid hs4
                        obtain ⟨m0, m1, m2, m3⟩ := hs4.facts
                        clear hs4)
                     | (go_at_call 34; (with_reducible refine (HF.out g _ _ W4 _ HS4.out).mono ?_); rintro e W5 ⟨rfl, P5, hs5⟩
                        have HS5 := Lib.hid hs5
                        have n1 := hs5.sm.c1
                        have n2 := hs5.sm.c2
                        have f1 := hs5.sm.fr 1
                        have f2 := hs5.sm.fr 2
                        have hbl := hs5.sm.bl
                        have hbn : b ≠ W5.heap.size := Nat.ne_of_lt hs5.sm.bl
                        have hbn' : W5.heap.size ≠ b := fun e => hbn e.symm
                        clear hs5))
        go_ret
        exact .inl ⟨rfl, rfl, HS5.out.fresh HQ'.out⟩
      · rw [if_pos rfl, if_pos rfl] at hR'
        subst hR'
        go_enter Tryz.func40, Tryz.ntmps40
        go_wp2_with (go_at_call 58; (with_reducible refine KT.out.mono ?_); rintro e w1 ⟨vN, vD, rfl, hi, hd, hb⟩
                     have HS := Lib.hid (HST.out w1 vN vD hi hd hb)
                     obtain ⟨⟨no, nc, rfl, _⟩, ao, dc, rfl, _⟩ := HSH.out w1 vN vD hi hd
                     clear hi hd hb)
        generalize hgg : w1.heap.size = g at HS
        generalize w1.alloc (.cells #[.int .u32 q, .slice no N.length nc, .slice ao D.length dc] 71) = W2 at HS ⊢
        obtain ⟨k0, k1, k2, k3⟩ := HS.out.facts
        generalize N.length = ln at HS k2 ⊢
        generalize D.length = ld at HS k3 ⊢
        have KW := Lib.hid (HW.out g _ _ W2.drew _ (HS.out.below (Below.refl _ W2).drew))
        go_still_tail 5, (by kernel_rfl)
        go_wp2_with (first
                     | (go_at_call 59; (with_reducible refine KW.out.mono ?_); rintro e W3 ⟨rfl, P3, hs3⟩
                        have HS3 := Lib.hid hs3
                        obtain ⟨l0, l1, l2, l3⟩ := hs3.facts
                        clear hs3))
        have KH := Lib.hid (HH.out g _ _ W3.drew _ (HS3.out.below (Below.refl _ W3).drew))
        go_still_tail 5, (by kernel_rfl)
        go_wp2_with (first
                     | (go_at_call 33; (with_reducible refine KH.out.mono ?_); rintro e W4 ⟨rfl, P4, hs4⟩
                        have HS4 := Lib.hid hs4
                        obtain ⟨m0, m1, m2, m3⟩ := hs4.facts
                        clear hs4)
                     | (go_at_call 34; (with_reducible refine (HF.out g _ _ W4 _ HS4.out).mono ?_); rintro e W5 ⟨rfl, P5, hs5⟩
                        have HS5 := Lib.hid hs5
                        have n1 := hs5.sm.c1
                        have n2 := hs5.sm.c2
                        have f1 := hs5.sm.fr 1
                        have f2 := hs5.sm.fr 2
                        have hbl := hs5.sm.bl
                        have hbn : b ≠ W5.heap.size := Nat.ne_of_lt hs5.sm.bl
                        have hbn' : W5.heap.size ≠ b := fun e => hbn e.symm
                        clear hs5)
                     | (go_at_call 44; (with_reducible refine HS5.out.over.mono ?_); rintro e w9 ⟨rfl, hx9⟩))
        go_ret
        exact .inr ⟨rfl, rfl, hx9⟩
    · rw [if_pos rfl, if_neg (by decide)] at hR'
      subst hR'
      go_enter Tryz.func40, Tryz.ntmps40
      go_wp2_with (go_at_call 58; (with_reducible refine KT.out.mono ?_); rintro e w1 ⟨vN, vD, rfl, hi, hd, hb⟩
                   have HS := Lib.hid (HST.out w1 vN vD hi hd hb)
                   obtain ⟨⟨no, nc, rfl, _⟩, ao, dc, rfl, _⟩ := HSH.out w1 vN vD hi hd
                   clear hi hd hb)
      generalize hgg : w1.heap.size = g at HS
      generalize w1.alloc (.cells #[.int .u32 q, .slice no N.length nc, .slice ao D.length dc] 71) = W2 at HS ⊢
      obtain ⟨k0, k1, k2, k3⟩ := HS.out.facts
      generalize N.length = ln at HS k2 ⊢
      generalize D.length = ld at HS k3 ⊢
      have KW := Lib.hid (HW.out g _ _ W2.drew _ (HS.out.below (Below.refl _ W2).drew))
      go_still_tail 5, (by kernel_rfl)
      go_wp2_with (first
                   | (go_at_call 59; (with_reducible refine KW.out.mono ?_); rintro e W3 ⟨rfl, P3, hs3⟩
                      have HS3 := Lib.hid hs3
                      obtain ⟨l0, l1, l2, l3⟩ := hs3.facts
                      clear hs3))
      have KH := Lib.hid (HH.out g _ _ W3.drew _ (HS3.out.below (Below.refl _ W3).drew))
      go_still_tail 5, (by kernel_rfl)
      go_wp2_with (first
                   | (go_at_call 33; (with_reducible refine KH.out.mono ?_); rintro e W4 ⟨rfl, P4, hs4⟩
                      have HS4 := Lib.hid hs4
                      obtain ⟨m0, m1, m2, m3⟩ := hs4.facts
                      clear hs4)
                   | (go_at_call 44; (with_reducible refine HS4.out.over.mono ?_); rintro e w9 ⟨rfl, hx9⟩))
      go_ret
      exact .inr ⟨rfl, rfl, hx9⟩
  · rw [if_neg (by decide)] at hR'
    subst hR'
    clear HH HF
    go_enter Tryz.func40, Tryz.ntmps40
    go_wp2_with (go_at_call 58; (with_reducible refine KT.out.mono ?_); rintro e w1 ⟨vN, vD, rfl, hi, hd, hb⟩
                 have HS := Lib.hid (HST.out w1 vN vD hi hd hb)
                 obtain ⟨⟨no, nc, rfl, _⟩, ao, dc, rfl, _⟩ := HSH.out w1 vN vD hi hd
                 clear hi hd hb)
    generalize hgg : w1.heap.size = g at HS
    generalize w1.alloc (.cells #[.int .u32 q, .slice no N.length nc, .slice ao D.length dc] 71) = W2 at HS ⊢
    obtain ⟨k0, k1, k2, k3⟩ := HS.out.facts
    generalize N.length = ln at HS k2 ⊢
    generalize D.length = ld at HS k3 ⊢
    have KW := Lib.hid (HW.out g _ _ W2.drew _ (HS.out.below (Below.refl _ W2).drew))
    go_still_tail 5, (by kernel_rfl)
    go_wp2_with (first
                 | (go_at_call 59; (with_reducible refine KW.out.mono ?_); rintro e W3 ⟨rfl, P3, hs3⟩
                    have HS3 := Lib.hid hs3
                    obtain ⟨l0, l1, l2, l3⟩ := hs3.facts
                    clear hs3)
                 | (go_at_call 44; (with_reducible refine HS3.out.over.mono ?_); rintro e w9 ⟨rfl, hx9⟩))
    go_ret
    exact .inr ⟨rfl, rfl, hx9⟩
end
end Go.Proofs.YtigbhdgcjklhoaaGreat

/- The landed store: contracts of join and End, in memory. -/
namespace Go.Proofs.YtigbhdgcjklhoaaGreat
set_option maxRecDepth 100000
open Go.RowKit
set_option linter.unusedVariables false

/-- Of two calls' slices the later one's. -/
def pickG {α : Type} (pk : List Int) (p e : Int → α) (x : Int) : α := if x ∈ pk then p x else e x
section
variable {w : World} {Pd : Nat → Prop} {b be bp : Nat} {d : Value} {q : Int} {ek : List Int} {eg : Int → Value} {ev : Int → List Int} {pk : List Int} {pg : Int → Value} {pv : Int → List Int} {wi : Bool} {s : DS}
/-- Behind maps.Copy. -/
theorem SMem.copied (h : SMem w Pd b be bp d q ek eg ev pk pg pv wi s) {w' : World} (hm : Mp w' be (uniN ek pk) (pickG pk pg eg)) (hp : Mp w' bp pk pg) (hg : w.grownBy w' (some be)) : SMem w' Pd b be bp d q (uniN ek pk) (pickG pk pg eg) (pickG pk pv ev) pk pg pv wi s := by
  have hk : ∀ k, k < w.heap.size → k ≠ be → w'.heap[k]? = w.heap[k]? := fun k hl hn => hg.block k hl fun e => hn (Option.some.inj e)
  refine ⟨by rw [hk b h.bl fun e => h.nb.1 e.symm]; exact h.hb, h.dk.same fun k hpd => hk k (h.dk.lt k hpd) fun e => Mp.nd h.dk h.me (e ▸ hpd), h.q0, hm, hp, h.ne, fun x hx => ?_, fun x hx => (h.rp x hx).keep fun g hg' => hk g ((h.rp x hx).lt hg') ((h.rp x hx).nm hg' h.me)⟩
  unfold pickG
  by_cases hin : x ∈ pk
  · rw [if_pos hin, if_pos hin]
    exact (h.rp x hin).keep fun g hg' => hk g ((h.rp x hin).lt hg') ((h.rp x hin).nm hg' h.me)
  · rw [if_neg hin, if_neg hin]
    have hx' := (mem_uniN.1 hx).resolve_right hin
    exact (h.re x hx').keep fun g hg' => hk g ((h.re x hx').lt hg') ((h.re x hx').nm hg' h.me)
theorem SMem.copy (h : SMem w Pd b be bp d q ek eg ev pk pg pv wi s) (hel : ek.length ≤ 1000) (hpl : pk.length ≤ 1000) : Calls Tryz.prog 57 #[.map (some be), .map (some bp)] w fun e w' => e = .returned (.tuple #[]) ∧ SMem w' Pd b be bp d q (uniN ek pk) (pickG pk pg eg) (pickG pk pv ev) pk pg pv wi s ∧ Ext (fun k => k = be) w w' :=
  (mCopy_of h.me h.mp h.ne (by omega)).mono fun e w' ⟨he, hm, hp, hg⟩ => ⟨he, h.copied hm hp hg, Ext.of_grown hg rfl⟩
/-- Behind End's last statement: no present call. -/
theorem SMem.cleared (h : SMem w Pd b be bp d q ek eg ev pk pg pv wi s) (pg' : Int → Value) (pv' : Int → List Int) :
    let w' := ((w.setCell ⟨b, 3, none⟩ (.map (some w.heap.size))).setCell ⟨b, 4, none⟩ (.bool false)).alloc (.map #[] 0)
    SMem w' Pd b be w.heap.size d q ek eg ev [] pg' pv' false s ∧ w'.heap.size = w.heap.size + 1 ∧ Ext (fun k => k = b) w w' := by
  intro w'
  obtain ⟨w2, hw2⟩ : ∃ w2, w2 = (w.setCell ⟨b, 3, none⟩ (.map (some w.heap.size))).setCell ⟨b, 4, none⟩ (.bool false) := ⟨_, rfl⟩
  have hw' : w' = w2.alloc (.map #[] 0) := by rw [hw2]
  have hs2 : w2.heap.size = w.heap.size := by rw [hw2]; simp [World.setCell]
  have hwr : Wrote w w2 b := by rw [hw2]; exact (Wrote.setCell w b 3 _).and (Wrote.setCell _ b 4 _)
  have hbb : Below w2.heap.size w2 w' := by rw [hw']; exact below_box w2 _
  have e1 := heap_setCell_same w b 3 _ _ (.map (some w.heap.size)) h.hb
  have e2 := heap_setCell_same _ b 4 _ _ (.bool false) e1
  rw [← hw2] at e2
  have e3 := (hbb.block b (by rw [hs2]; exact h.bl)).trans e2
  have hsz : w'.heap.size = w.heap.size + 1 := by rw [hw']; simp [hs2]
  have hk : ∀ k, k < w.heap.size → k ≠ b → w'.heap[k]? = w.heap[k]? := fun k hl hn => (hbb.block k (by rw [hs2]; exact hl)).trans (hwr.2.2.2.2 k hn)
  have hM : Mp w' w.heap.size [] pg' := by
    have h0 := Mp.made w2 pg'
    rw [hs2, ← hw'] at h0
    exact h0
  have hbe := h.me.lt
  refine ⟨⟨e3, h.dk.same fun k hp => hk k (h.dk.lt k hp) fun e => h.nd (e ▸ hp), h.q0, h.me.keep (hk be hbe h.nb.1), hM, fun e => by rw [e] at hbe; exact Nat.lt_irrefl _ hbe,
    fun x hx => (h.re x hx).keep fun r hr => hk r ((h.re x hx).lt hr) ((h.re x hx).ne hr h.hb (by decide)), fun x hx => absurd hx List.not_mem_nil⟩, hsz,
    ⟨hbb.os.trans hwr.1, hbb.tape.trans hwr.2.1, hbb.output.trans hwr.2.2.1, by rw [hsz]; omega, fun k hl hn => hk k hl hn⟩⟩
/-- join, where all has room. -/
theorem sJoin_small (h : SMem w Pd b be bp d q ek eg ev pk pg pv wi s) (hel : ek.length ≤ 37) (hpl : pk.length ≤ 37) (hu : (uniN ek pk).length ≤ 37) :
    Calls Tryz.prog 39 #[.pointer (some ⟨b, 0, none⟩)] w fun e w' => e = .returned (.int .i64 0) ∧ SMem w' Pd b be bp d q (uniN ek pk) (pickG pk pg eg) (pickG pk pv ev) pk pg pv wi s ∧ Ext (fun k => k = be) w w' := by
  have KT := Lib.hid (sTogether_is h (by omega) (by omega))
  have HB := Lib.hid (fun (W : World) (hb : Below w.heap.size w W) => h.below hb)
  have KC := Lib.hid (fun (W : World) (hb : Below w.heap.size w W) => (h.below hb).copy (by omega) (by omega))
  have hle : ((uniN ek pk).length : Int) ≤ 37 := by omega
  obtain ⟨R, hR⟩ : ∃ R, R = (uniN ek pk).length := ⟨_, rfl⟩
  rw [← hR] at KT hle
  clear h hel hpl hu hR
  go_enter Tryz.func39, Tryz.ntmps39
  go_wp2_with (go_at_call 56; (with_reducible refine KT.out.mono ?_); rintro e w1 ⟨rfl, hb1⟩
               have HB1 := Lib.hid hb1
               have c2 := (HB.out w1 hb1).c2
               have c3 := (HB.out w1 hb1).c3
               clear hb1)
  have KC1 := Lib.hid (KC.out w1.drew HB1.out.drew)
  go_still_tail 8, (by kernel_rfl)
  go_wp2_with (go_at_call 57; (with_reducible refine KC1.out.mono ?_); rintro e w2 ⟨rfl, hm, hx⟩
               have HM := Lib.hid hm
               have HX := Lib.hid hx
               clear hm hx)
  go_ret
  exact ⟨rfl, HM.out, (Ext.of_below HB1.out.drew).trans (P2 := fun k => k = be) HX.out fun k _ e => e⟩
set_option maxHeartbeats 1000000 in
/-- join, where it hasn't: what was ahead of the present call is made durable first. -/
theorem sJoin_great (h : SMem w Pd b be bp d q ek eg ev pk pg pv wi s) (hel : ek.length ≤ 37) (hpl : pk.length ≤ 37) (hu : 37 < (uniN ek pk).length) (hB : takesT s.F.length (sortN ek) ((sortN ek).map ev) = true) (hU : s.U.length ≤ 800000) :
    Calls Tryz.prog 39 #[.pointer (some ⟨b, 0, none⟩)] w fun e w' =>
      ((runA (setA q (sortN ek) ((sortN ek).map ev)) s).1 = 0 ∧ e = .returned (.int .i64 0) ∧ ∃ be' Pd' q', SMem w' Pd' b be' bp d q' (uniN [] pk) (pickG pk pg eg) (pickG pk pv ev) pk pg pv wi (runA (setA q (sortN ek) ((sortN ek).map ev)) s).2 ∧ (w.heap.size ≤ be' ∧ be' < w'.heap.size) ∧ (∀ k, Pd' k → Pd k ∨ w.heap.size ≤ k) ∧ Ext (fun k => Pd k ∨ k = b) w w') ∨
      ((runA (setA q (sortN ek) ((sortN ek).map ev)) s).1 = 2 ∧ e = .returned (.int .i64 2) ∧ ∃ Pd', w'.heap[b]? = some deadRow ∧ Dk w' Pd' d (runA (setA q (sortN ek) ((sortN ek).map ev)) s).2 ∧ (∀ k, Pd' k → Pd k ∨ w.heap.size ≤ k) ∧ Ext (fun k => Pd k ∨ k = b) w w') := by
  have hne : 0 < ek.length := by
    rcases Nat.eq_zero_or_pos ek.length with e | e
    · have : ek = [] := List.eq_nil_of_length_eq_zero e
      rw [this] at hu
      have h2 : (uniN [] pk).length ≤ pk.length := by
        unfold uniN
        rw [List.nil_append]
        exact List.length_filter_le _ _
      omega
    · exact e
  have KT := Lib.hid (sTogether_is h (by omega) (by omega))
  have KS := Lib.hid (fun (W : World) (hb : Below w.heap.size w W) => sSettle_of (h.below hb) hne hel hB hU)
  have HPL := Lib.hid hpl
  have hgt : 37 < ((uniN ek pk).length : Int) := by omega
  obtain ⟨R, hR⟩ : ∃ R, R = (uniN ek pk).length := ⟨_, rfl⟩
  rw [← hR] at KT hgt
  obtain ⟨T, hT⟩ : ∃ T, T = runA (setA q (sortN ek) ((sortN ek).map ev)) s := ⟨_, rfl⟩
  have hT2 : T.1 = 0 ∨ T.1 = 2 := by rw [hT]; exact runA_two _ _
  rw [← hT] at KS ⊢
  obtain ⟨r, s'⟩ := T
  clear h hel hpl hu hR hT hB hU hne
  rcases hT2 with h0 | h0
  · simp only at h0
    subst h0
    have KS' := Lib.hid (fun (W : World) (hb : Below w.heap.size w W) => (KS.out W hb).mono (R' := fun e w' => e = .returned (.int .i64 0) ∧ ∃ be' Pd' q', SMem w' Pd' b be' bp d q' [] eg ev pk pg pv wi s' ∧ (W.heap.size ≤ be' ∧ be' < w'.heap.size) ∧ (∀ k, Pd' k → Pd k ∨ W.heap.size ≤ k) ∧ Ext (fun k => Pd k ∨ k = b) W w') (fun e w' hq => by
      rcases hq with ⟨_, he, hx⟩ | ⟨h2, _⟩
      · exact ⟨he, hx⟩
      · exact absurd (show (0 : Int) = 2 from h2) (by decide)))
    clear KS
    go_enter Tryz.func39, Tryz.ntmps39
    go_wp2_with (first
      | (go_at_call 56; (with_reducible refine KT.out.mono ?_); rintro e w1 ⟨rfl, hb1⟩
         have HB1 := Lib.hid hb1
         clear hb1)
      | (go_at_call 40; (with_reducible refine (KS'.out _ HB1.out).mono ?_); rintro e w2 ⟨rfl, be', Pd', q', hm, hbe, hpd, hx⟩
         have HM := Lib.hid hm
         have HBE := Lib.hid hbe
         have HPD := Lib.hid hpd
         have HX := Lib.hid hx
         have c2 := hm.c2
         have c3 := hm.c3
         clear hm hbe hpd hx))
    have KC1 := Lib.hid (SMem.copy (HM.out.below (Below.refl _ w2).drew) (Nat.zero_le _) (by have := HPL.out; omega))
    go_still_tail 8, (by kernel_rfl)
    go_wp2_with (go_at_call 57; (with_reducible refine KC1.out.mono ?_); rintro e w3 ⟨rfl, hm, hx⟩
                 have HM3 := Lib.hid hm
                 have HX3 := Lib.hid hx
                 clear hm hx)
    go_ret
    refine .inl ⟨by first | rfl | trivial, rfl, be', Pd', q', HM3.out, ⟨Nat.le_trans HB1.out.size HBE.out.1, Nat.lt_of_lt_of_le HBE.out.2 HX3.out.size⟩, fun k hk => (HPD.out k hk).imp id fun e => Nat.le_trans HB1.out.size e, ?_⟩
    have e1 : Ext (fun k => Pd k ∨ k = b) w w2 := (Ext.of_below HB1.out).trans (P2 := fun k => Pd k ∨ k = b) HX.out fun k _ e => e
    have e2 : Ext (fun k => k = be') w2 w3 := ⟨HX3.out.os, HX3.out.tape, HX3.out.output, HX3.out.size, HX3.out.keep⟩
    exact e1.trans e2 fun k hk e => absurd (e ▸ hk) (by have := HBE.out.1; have := HB1.out.size; omega)
  · simp only at h0
    subst h0
    have KS' := Lib.hid (fun (W : World) (hb : Below w.heap.size w W) => (KS.out W hb).mono (R' := fun e w' => e = .returned (.int .i64 2) ∧ ∃ Pd', w'.heap[b]? = some deadRow ∧ Dk w' Pd' d s' ∧ (∀ k, Pd' k → Pd k ∨ W.heap.size ≤ k) ∧ Ext (fun k => Pd k ∨ k = b) W w') (fun e w' hq => by
      rcases hq with ⟨h2, _⟩ | ⟨_, he, hx⟩
      · exact absurd (show (2 : Int) = 0 from h2) (by decide)
      · exact ⟨he, hx⟩))
    clear KS
    go_enter Tryz.func39, Tryz.ntmps39
    go_wp2_with (first
      | (go_at_call 56; (with_reducible refine KT.out.mono ?_); rintro e w1 ⟨rfl, hb1⟩
         have HB1 := Lib.hid hb1
         clear hb1)
      | (go_at_call 40; (with_reducible refine (KS'.out _ HB1.out).mono ?_); rintro e w2 ⟨rfl, Pd', hbr, hdk, hpd, hx⟩
         have HBR := Lib.hid hbr
         have HDK := Lib.hid hdk
         have HPD := Lib.hid hpd
         have HX := Lib.hid hx
         clear hbr hdk hpd hx))
    go_ret
    exact .inr ⟨by first | rfl | trivial, rfl, Pd', HBR.out, HDK.out, fun k hk => (HPD.out k hk).imp id fun e => Nat.le_trans HB1.out.size e, (Ext.of_below HB1.out).trans (P2 := fun k => Pd k ∨ k = b) HX.out fun k _ e => e⟩
end
end Go.Proofs.YtigbhdgcjklhoaaGreat

/- The landed store: contract of Put. -/
namespace Go.Proofs.YtigbhdgcjklhoaaGreat
set_option maxRecDepth 100000
open Go.RowKit Go.Maps
set_option linter.unusedVariables false

theorem grown_cell {w w' : World} {m b o : Nat} (h : w.grownBy w' (some m)) (hb : b < w.heap.size) (hne : b ≠ m) : w'.cell? ⟨b, o, none⟩ = w.cell? ⟨b, o, none⟩ := by
  apply World.cell?_of_block
  exact h.block b hb fun e => hne (Option.some.inj e)
theorem addS_mem {N : List Int} {n y : Int} : y ∈ addS N n ↔ y ∈ N ∨ y = n := by
  unfold addS
  split
  · exact ⟨.inl, fun h => h.elim id fun e => by rw [e]; assumption⟩
  · simp
section
variable {w : World} {P : Nat → Prop} {d p : Value} {X : XSt}
/-- Put, where it does something, in memory. -/
theorem sPut_mem {Pd : Nat → Prop} {b be bp : Nat} {q : Int} {ek : List Int} {eg : Int → Value} {ev : Int → List Int} {pk : List Int} {pg : Int → Value} {pv : Int → List Int} {ds : DS} (h : SMem w Pd b be bp d q ek eg ev pk pg pv true ds)
    {n : Int} {v : Value} {l : List Int} (hv : BSl w v l) (hl : l.length = 256) (hn : 0 ≤ n ∧ n < ds.F.length) (h768 : ds.F.length ≤ 768) (hpl : pk.length ≤ 37) (hroom : n ∈ pk ∨ pk.length < 37) :
    Calls Tryz.prog 19 #[.pointer (some ⟨b, 0, none⟩), .int .i64 n, v] w fun e w' => e = .returned (.int .i64 0) ∧ ∃ u, SMem w' Pd b be bp d q ek eg ev (addS pk n) (fun y => if y = n then u else pg y) (fun y => if y = n then l else pv y) true ds ∧
      (∀ g, u.ownBlock = some g → w.heap.size ≤ g ∧ g < w'.heap.size) ∧ w.heap.size ≤ w'.heap.size ∧ Ext (fun k => k = bp) w w' := by
  have hwf : (Lit.int .i64 n).wf = true := i64wf (by omega)
  have KA := Lib.hid (sAllows_is h true)
  have KH := Lib.hid (sHas_is h n)
  rw [decide_eq_true hn] at KH
  have KL := Lib.hid (sLoggable_is w n)
  rw [decide_eq_true (by omega)] at KL
  have c3 := h.c3
  have hlo := h.mp.look_ok hwf
  have hlen := fun ty => h.mp.len ty
  have KC := Lib.hid (fun W (hb : Below w.heap.size w W) => bClone_of (hv.below hb) (by rw [hl]; decide))
  have HB := Lib.hid (fun W (hb : Below w.heap.size w W) => h.below hb)
  have HW := Lib.hid hwf
  have HP := Lib.hid hpl
  have HLL := Lib.hid hl
  obtain ⟨ao, cap, rfl, _⟩ := hv.shape
  rw [hl] at KC ⊢
  have HBL := Lib.hid h.bl
  have HN : Hid (b < w.heap.size ∧ b ≠ bp) := Lib.hid ⟨h.bl, fun e => h.nb.2 e.symm⟩
  refine Calls.mono (R := fun e w' => e = .returned (.int .i64 0) ∧ ∃ u w3, OB w3 w.heap.size u l ∧ Below w.heap.size w w3 ∧ Mp w' bp (addS pk n) (fun y => if y = n then u else pg y) ∧ w3.grownBy w' (some bp) ∧ w'.heap.size = w3.heap.size) ?_ ?_
  · obtain ⟨uu, huu⟩ : ∃ uu, uu = (if n ∈ pk then pg n else .slice none 0 0) := ⟨_, rfl⟩
    rw [← huu] at hlo
    obtain ⟨m, hm⟩ : ∃ m, m = pk.length := ⟨_, rfl⟩
    rw [← hm] at hlen HP hroom
    have HM := Lib.hid hm
    by_cases hin : n ∈ pk
    · rw [decide_eq_true hin] at hlo
      clear h hv hn h768 hroom hpl hwf huu hin hl hm
      go_enter Tryz.func19, Tryz.ntmps19
      go_wp2_with (first
        | (go_at_call 30; (with_reducible refine KA.out.mono ?_); rintro e w' ⟨rfl, rfl⟩)
        | (go_at_call 36; (with_reducible refine KH.out.mono ?_); rintro e w' ⟨rfl, rfl⟩)
        | (go_at_call 37; (with_reducible refine KL.out.mono ?_); rintro e w' ⟨rfl, rfl⟩))
      have KC1 := Lib.hid (KC.out w.drew (below_drewN' (Below.refl _ _) 1))
      have d3 : w.drew.cell? ⟨b, 3, none⟩ = some (.map (some bp)) := c3
      go_region_held3 (fun W => W.cell? ⟨b, 3, none⟩ = some (.map (some bp))) (first | exact f3 | exact e3 | exact d3) (first
        | (go_at_call 38; (with_reducible refine KC1.out.mono ?_); rintro e w3 ⟨u, rfl, hob, hbe⟩
           have e3 := (hbe.cell (p := ⟨b, 3, none⟩) HBL.out).trans c3
           have HOB := Lib.hid hob
           have HBE := Lib.hid (show Below w.heap.size w w3 from (below_drewN' (Below.refl _ _) 1).trans hbe)
           obtain ⟨dd, hdd⟩ := Blo.hdr (v := u) ⟨hob.more (Nat.zero_le _), HLL.out⟩
           obtain ⟨w4, hrun4, hm4, hg4, hs4⟩ := (HB.out _ HBE.out).mp.store HW.out hdd (by have := HP.out; have := HM.out; omega)
           have f3 : w4.cell? ⟨b, 3, none⟩ = some (.map (some bp)) := (grown_cell hg4 (Nat.lt_of_lt_of_le HBL.out HBE.out.size) HN.out.2).trans e3
           have HM4 := Lib.hid hm4
           have HG4 := Lib.hid hg4
           have HS4 := Lib.hid hs4
           clear hob hbe hdd hm4 hg4 hs4))
      go_wp2
      go_ret
      exact ⟨rfl, u, w3, HOB.out, HBE.out, HM4.out, HG4.out, HS4.out⟩
    · have hm37 : (m : Int) < 37 := by have := hroom.resolve_left hin; omega
      rw [decide_eq_false hin] at hlo
      clear h hv hn h768 hroom hpl hwf huu hin hl hm
      go_enter Tryz.func19, Tryz.ntmps19
      go_wp2_with (first
        | (go_at_call 30; (with_reducible refine KA.out.mono ?_); rintro e w' ⟨rfl, rfl⟩)
        | (go_at_call 36; (with_reducible refine KH.out.mono ?_); rintro e w' ⟨rfl, rfl⟩)
        | (go_at_call 37; (with_reducible refine KL.out.mono ?_); rintro e w' ⟨rfl, rfl⟩))
      have KC1 := Lib.hid (KC.out w.drew (below_drewN' (Below.refl _ _) 1))
      have d3 : w.drew.cell? ⟨b, 3, none⟩ = some (.map (some bp)) := c3
      go_region_held3 (fun W => W.cell? ⟨b, 3, none⟩ = some (.map (some bp))) (first | exact f3 | exact e3 | exact d3) (first
        | (go_at_call 38; (with_reducible refine KC1.out.mono ?_); rintro e w3 ⟨u, rfl, hob, hbe⟩
           have e3 := (hbe.cell (p := ⟨b, 3, none⟩) HBL.out).trans c3
           have HOB := Lib.hid hob
           have HBE := Lib.hid (show Below w.heap.size w w3 from (below_drewN' (Below.refl _ _) 1).trans hbe)
           obtain ⟨dd, hdd⟩ := Blo.hdr (v := u) ⟨hob.more (Nat.zero_le _), HLL.out⟩
           obtain ⟨w4, hrun4, hm4, hg4, hs4⟩ := (HB.out _ HBE.out).mp.store HW.out hdd (by have := HP.out; have := HM.out; omega)
           have f3 : w4.cell? ⟨b, 3, none⟩ = some (.map (some bp)) := (grown_cell hg4 (Nat.lt_of_lt_of_le HBL.out HBE.out.size) HN.out.2).trans e3
           have HM4 := Lib.hid hm4
           have HG4 := Lib.hid hg4
           have HS4 := Lib.hid hs4
           clear hob hbe hdd hm4 hg4 hs4))
      go_wp2
      go_ret
      exact ⟨rfl, u, w3, HOB.out, HBE.out, HM4.out, HG4.out, HS4.out⟩
  · rintro e w' ⟨rfl, u, w3, hob, hbe, hmp, hgr, hsz⟩
    have h3 := HB.out w3 hbe
    have hblo : Blo w3 u l := ⟨hob.more (Nat.zero_le _), HLL.out⟩
    have hk : ∀ k, k < w3.heap.size → k ≠ bp → w'.heap[k]? = w3.heap[k]? := fun k hk hn => hgr.block k hk fun e => hn (Option.some.inj e)
    have hext : Ext (fun k => k = bp) w w' := (Ext.of_below hbe).trans (P2 := fun k => k = bp) (Ext.of_grown hgr rfl) fun x _ e => e
    refine ⟨rfl, u, ⟨?_, ?_, h3.q0, ?_, hmp, h3.ne, ?_, ?_⟩, ?_, hext.size, hext⟩
    · rw [hk b h3.bl fun e => h3.nb.2 e.symm]; exact h3.hb
    · exact h3.dk.same fun k hp => hk k (h3.dk.lt k hp) fun e => Mp.nd h3.dk h3.mp (e ▸ hp)
    · exact h3.me.keep (hk be h3.me.lt h3.ne)
    · exact fun x hx => (h3.re x hx).keep fun g hg => hk g ((h3.re x hx).lt hg) ((h3.re x hx).nm hg h3.mp)
    · intro x hx
      by_cases e : x = n
      · rw [if_pos e, if_pos e]
        exact hblo.keep fun g hg => hk g (hblo.lt hg) (hblo.nm hg h3.mp)
      · rw [if_neg e, if_neg e]
        have hx' := (addS_mem.1 hx).resolve_right e
        exact (h3.rp x hx').keep fun g hg => hk g ((h3.rp x hx').lt hg) ((h3.rp x hx').nm hg h3.mp)
    · intro g hg
      have := World.ownsRow.lt hob.2 g hg
      exact ⟨this.1, by rw [hsz]; exact this.2⟩
theorem sPut_of (h : SInv w P d p X) {n : Int} {v : Value} {l : List Int} (hv : BSl w v l) (hn : -9223372036854775808 ≤ n ∧ n ≤ 9223372036854775807) (hj : OutJ n.toNat) : Calls Tryz.prog 19 #[p, .int .i64 n, v] w (XOut SInv w P d p (xPut X n l)) := by
  have h' := h
  obtain ⟨b, be, bp, Pd, q, ek, eg, ev, pk, pg, pv, rfl, hm, hpl, ho, hlt⟩ := h
  have hFl := hpl.ok.lst.1
  have h768 := hpl.n64.2
  have hwf : (Lit.int .i64 n).wf = true := i64wf hn
  have same : ∀ z : Int, Calls Tryz.prog 19 #[.pointer (some ⟨b, 0, none⟩), .int .i64 n, v] w (fun e w' => e = .returned (.int .i64 z) ∧ w = w') → Calls Tryz.prog 19 #[.pointer (some ⟨b, 0, none⟩), .int .i64 n, v] w (XOut SInv w P d (.pointer (some ⟨b, 0, none⟩)) (z, X)) := fun z h => h.mono fun e w' ⟨he, hw⟩ => by
    subst hw
    exact ⟨he, P, h', Chg.refl _ _⟩
  have KA := Lib.hid (sAllows_is hm true)
  have KH := Lib.hid (sHas_is hm n)
  have KL := Lib.hid (sLoggable_is w n)
  obtain ⟨ao, cap, hvv, _⟩ := hv.shape
  unfold xPut
  cases hw : X.wi
  · rw [if_pos rfl]
    refine same 17 ?_
    rw [hw] at KA
    clear h' hm hpl ho hlt hFl h768 same hv hj hn KH KL hwf
    go_enter Tryz.func19, Tryz.ntmps19
    go_wp2_with (go_at_call 30; (with_reducible refine KA.out.mono ?_); rintro e w' ⟨rfl, rfl⟩)
    go_ret
    exact ⟨rfl, rfl⟩
  · rw [if_neg (by decide)]
    rw [hw] at KA hm
    obtain ⟨hput, hcl, hcv⟩ := hpl.wi1 hw
    by_cases ha : n < 0 ∨ (X.is.length : Int) ≤ n ∨ l.length ≠ 256
    · rw [if_pos ha]
      refine same 1 ?_
      by_cases hr : 0 ≤ n ∧ n < X.ds.F.length
      · rw [decide_eq_true hr] at KH
        rw [decide_eq_true (by omega)] at KL
        have hl : ¬ (l.length : Int) = 256 := by omega
        obtain ⟨L, hL⟩ : ∃ L, L = l.length := ⟨_, rfl⟩
        rw [← hL] at hvv hl
        subst hvv
        clear h' hm hpl ho hlt hFl h768 same hv hj hn hwf hput hcl hcv ha hr hL
        go_enter Tryz.func19, Tryz.ntmps19
        go_wp2_with (first
          | (go_at_call 30; (with_reducible refine KA.out.mono ?_); rintro e w' ⟨rfl, rfl⟩)
          | (go_at_call 36; (with_reducible refine KH.out.mono ?_); rintro e w' ⟨rfl, rfl⟩)
          | (go_at_call 37; (with_reducible refine KL.out.mono ?_); rintro e w' ⟨rfl, rfl⟩))
        go_ret
        exact ⟨rfl, rfl⟩
      · rw [decide_eq_false hr] at KH
        clear h' hm hpl ho hlt hFl h768 same hv hj hn hwf hput hcl hcv ha hr KL
        go_enter Tryz.func19, Tryz.ntmps19
        go_wp2_with (first
          | (go_at_call 30; (with_reducible refine KA.out.mono ?_); rintro e w' ⟨rfl, rfl⟩)
          | (go_at_call 36; (with_reducible refine KH.out.mono ?_); rintro e w' ⟨rfl, rfl⟩))
        go_ret
        exact ⟨rfl, rfl⟩
    · rw [if_neg ha]
      have hr : 0 ≤ n ∧ n < X.ds.F.length := by omega
      have hl : l.length = 256 := by omega
      by_cases hf : n ∉ X.put ∧ 37 ≤ X.put.length
      · rw [if_pos hf]
        refine same 13 ?_
        rw [hput] at hf
        rw [decide_eq_true hr] at KH
        rw [decide_eq_true (by omega)] at KL
        have c3 := hm.c3
        have hlo := hm.mp.look_ok hwf
        have hlen := fun ty => hm.mp.len ty
        rw [if_neg hf.1, decide_eq_false hf.1] at hlo
        have hm37 : 37 ≤ (pk.length : Int) := by omega
        obtain ⟨m, hmm⟩ : ∃ m, m = pk.length := ⟨_, rfl⟩
        rw [← hmm] at hlen hm37
        rw [hl] at hvv
        subst hvv
        clear h' hm hpl ho hlt hFl h768 same hv hj hn hwf hput hcl hcv ha hr hf hl hmm
        go_enter Tryz.func19, Tryz.ntmps19
        go_wp2_with (first
          | (go_at_call 30; (with_reducible refine KA.out.mono ?_); rintro e w' ⟨rfl, rfl⟩)
          | (go_at_call 36; (with_reducible refine KH.out.mono ?_); rintro e w' ⟨rfl, rfl⟩)
          | (go_at_call 37; (with_reducible refine KL.out.mono ?_); rintro e w' ⟨rfl, rfl⟩))
        go_ret
        exact ⟨rfl, rfl⟩
      · rw [if_neg hf]
        refine (sPut_mem hm hv hl hr (by omega) hpl.pl ?_).mono ?_
        · rw [hput] at hf
          by_cases hin : n ∈ pk
          · exact .inl hin
          · refine .inr ?_
            have : ¬ 37 ≤ pk.length := fun h => hf ⟨hin, h⟩
            omega
        · rintro e w' ⟨rfl, u, hm', hu, hsz, hext⟩
          have hP : ∀ k, k = bp → P k := fun k e => ho k (.inr (.inr (.inr (.inl e))))
          refine ⟨rfl, grP P w w', ⟨b, be, bp, Pd, q, ek, eg, ev, addS pk n, _, _, rfl, hm', ?_, ?_, ?_⟩, (hext.sub hP).chg⟩
          · have hnn : ((n.toNat : Nat) : Int) = n := Int.toNat_of_nonneg hr.1
            refine { hpl with ok := { hpl.ok with call := fun _ => by show (X.call.set _ _).length = _; rw [List.length_set]; exact hcl }, kp := ?_, pl := ?_, wi0 := fun e => Bool.noConfusion (show true = false from e), wi1 := fun _ => ⟨?_, ?_, ?_⟩ }
            · intro x hx
              rcases addS_mem.1 hx with hx | rfl
              · exact hpl.kp x hx
              · exact ⟨hr.1, by show x < (X.is.length : Int); omega, hj⟩
            · unfold addS
              split
              · exact hpl.pl
              · rename_i hin
                have : ¬ 37 ≤ pk.length := fun h => hf (by rw [hput]; exact ⟨hin, h⟩)
                rw [List.length_append, List.length_singleton]; omega
            · show addS X.put n = addS pk n
              rw [hput]
            · show (X.call.set _ _).length = _
              rw [List.length_set]; exact hcl
            · intro i hoi hi
              have hi' : i < X.is.length := hi
              show (X.call.set n.toNat l).getD i [] = _
              by_cases e : n.toNat = i
              · subst e
                rw [List.getD_eq_getElem?_getD, List.getElem?_set_self (by omega), if_pos (addS_mem.2 (.inr hnn)), if_pos hnn]; rfl
              · have hne : (i : Int) ≠ n := fun e' => e (by omega)
                rw [List.getD_eq_getElem?_getD, List.getElem?_set_ne e, ← List.getD_eq_getElem?_getD, hcv i hoi hi']
                by_cases hin : (i : Int) ∈ pk
                · rw [if_pos hin, if_pos (addS_mem.2 (.inl hin)), if_neg hne]
                · rw [if_neg hin, if_neg fun h => hin ((addS_mem.1 h).resolve_right hne)]
          · intro k hk
            rcases hk with hk | rfl | rfl | rfl | ⟨x, hx, hg⟩ | ⟨x, hx, hg⟩
            · exact .inl (ho k (.inl hk))
            · exact .inl (ho _ (.inr (.inl rfl)))
            · exact .inl (ho _ (.inr (.inr (.inl rfl))))
            · exact .inl (ho _ (.inr (.inr (.inr (.inl rfl)))))
            · exact .inl (ho k (.inr (.inr (.inr (.inr (.inl ⟨x, hx, hg⟩))))))
            · by_cases e : x = n
              · have hg : (if x = n then u else pg x).ownBlock = some k := hg
                rw [if_pos e] at hg
                exact .inr (hu k hg)
              · have hg : (if x = n then u else pg x).ownBlock = some k := hg
                rw [if_neg e] at hg
                exact .inl (ho k (.inr (.inr (.inr (.inr (.inr ⟨x, (addS_mem.1 hx).resolve_right e, hg⟩))))))
          · rintro k (hk | hk)
            · exact Nat.lt_of_lt_of_le (hlt k hk) hsz
            · exact hk.2
end
end Go.Proofs.YtigbhdgcjklhoaaGreat

/- The landed store: contracts of End and Sync. -/
namespace Go.Proofs.YtigbhdgcjklhoaaGreat
set_option maxRecDepth 100000
open Go.RowKit
set_option linter.unusedVariables false

/-- A store's state, put together anew. -/
theorem sinv_of {w w' : World} {P Pd : Nat → Prop} {b be bp : Nat} {d : Value} {q : Int} {ek : List Int} {eg : Int → Value} {ev : Int → List Int} {pk : List Int} {pg : Int → Value} {pv : Int → List Int} {X : XSt} (hm : SMem w' Pd b be bp d q ek eg ev pk pg pv X.wi X.ds) (hpl : SPl X ek ev pk pv)
    (hl : ∀ k, P k → k < w.heap.size) (hs : w.heap.size ≤ w'.heap.size) (hown : ∀ k, SOwn Pd b be bp ek eg pk pg k → P k ∨ w.heap.size ≤ k) : SInv w' (grP P w w') d (.pointer (some ⟨b, 0, none⟩)) X :=
  ⟨b, be, bp, Pd, q, ek, eg, ev, pk, pg, pv, rfl, hm, hpl, fun k hk => (hown k hk).imp id fun e => ⟨e, hm.lt k hk⟩, fun k hk => hk.elim (fun h => Nat.lt_of_lt_of_le (hl k h) hs) fun h => h.2⟩
section
variable {w : World} {Pd : Nat → Prop} {b be bp : Nat} {d : Value} {q : Int} {ek : List Int} {eg : Int → Value} {ev : Int → List Int} {pk : List Int} {pg : Int → Value} {pv : Int → List Int} {wi : Bool} {s : DS}
/-- End(false). -/
theorem sEnd_undo (h : SMem w Pd b be bp d q ek eg ev pk pg pv true s) : Calls Tryz.prog 22 #[.pointer (some ⟨b, 0, none⟩), .bool false] w fun e w' => e = .returned (.int .i64 0) ∧ w' = ((w.setCell ⟨b, 3, none⟩ (.map (some w.heap.size))).setCell ⟨b, 4, none⟩ (.bool false)).alloc (.map #[] 0) := by
  have KA := Lib.hid (sAllows_is h true)
  have c3 := h.c3
  have c4 := h.c4
  have f3 := h.fr 3
  have f4 := h.fr 4
  have hbl := h.bl
  have hbn : b ≠ w.heap.size := Nat.ne_of_lt h.bl
  have hbn' : w.heap.size ≠ b := fun e => hbn e.symm
  have hmm := @run_makeMap Tryz.prog
  clear h
  go_enter Tryz.func22, Tryz.ntmps22
  go_wp2_with (go_at_call 30; (with_reducible refine KA.out.mono ?_); rintro e w1 ⟨rfl, rfl⟩)
  go_ret
  exact ⟨rfl, rfl⟩
/-- End(true), behind a join that says OK. -/
theorem sEnd_keep {Q : World → Prop} (h : SMem w Pd b be bp d q ek eg ev pk pg pv true s)
    (KJ : Calls Tryz.prog 39 #[.pointer (some ⟨b, 0, none⟩)] w fun e w1 => e = .returned (.int .i64 0) ∧ Q w1 ∧ ∃ Pd1 be1 q1 ek1 eg1 ev1 s1, SMem w1 Pd1 b be1 bp d q1 ek1 eg1 ev1 pk pg pv true s1) :
    Calls Tryz.prog 22 #[.pointer (some ⟨b, 0, none⟩), .bool true] w fun e w' => e = .returned (.int .i64 0) ∧ ∃ w1, Q w1 ∧ w' = ((w1.setCell ⟨b, 3, none⟩ (.map (some w1.heap.size))).setCell ⟨b, 4, none⟩ (.bool false)).alloc (.map #[] 0) := by
  have KA := Lib.hid (sAllows_is h true)
  have KJ' := Lib.hid KJ
  have hmm := @run_makeMap Tryz.prog
  clear h KJ
  go_enter Tryz.func22, Tryz.ntmps22
  go_wp2_with (first
    | (go_at_call 30; (with_reducible refine KA.out.mono ?_); rintro e w1 ⟨rfl, rfl⟩)
    | (go_at_call 39; (with_reducible refine KJ'.out.mono ?_); rintro e w1 ⟨rfl, hq, Pd1, be1, q1, ek1, eg1, ev1, s1, h⟩
       have HQ := Lib.hid hq
       have c3 := h.c3
       have c4 := h.c4
       have f3 := h.fr 3
       have f4 := h.fr 4
       have hbl := h.bl
       have hbn : b ≠ w1.heap.size := Nat.ne_of_lt h.bl
       have hbn' : w1.heap.size ≠ b := fun e => hbn e.symm
       clear h hq))
  go_ret
  exact ⟨rfl, w1, HQ.out, rfl⟩
/-- End(true), behind one that says ErrIO. -/
theorem sEnd_dead {Q : World → Prop} (h : SMem w Pd b be bp d q ek eg ev pk pg pv true s)
    (KJ : Calls Tryz.prog 39 #[.pointer (some ⟨b, 0, none⟩)] w fun e w1 => e = .returned (.int .i64 2) ∧ Q w1) :
    Calls Tryz.prog 22 #[.pointer (some ⟨b, 0, none⟩), .bool true] w fun e w' => e = .returned (.int .i64 2) ∧ Q w' := by
  have KA := Lib.hid (sAllows_is h true)
  have KJ' := Lib.hid KJ
  clear h KJ
  go_enter Tryz.func22, Tryz.ntmps22
  go_wp2_with (first
    | (go_at_call 30; (with_reducible refine KA.out.mono ?_); rintro e w1 ⟨rfl, rfl⟩)
    | (go_at_call 39; (with_reducible refine KJ'.out.mono ?_); rintro e w1 ⟨rfl, hq⟩
       have HQ := Lib.hid hq
       clear hq))
  go_ret
  exact ⟨rfl, HQ.out⟩
theorem sEnd_no (h : SMem w Pd b be bp d q ek eg ev pk pg pv false s) (k : Bool) : Calls Tryz.prog 22 #[.pointer (some ⟨b, 0, none⟩), .bool k] w fun e w' => e = .returned (.int .i64 17) ∧ w = w' := by
  have KA := Lib.hid (sAllows_is h true)
  clear h
  go_enter Tryz.func22, Tryz.ntmps22
  go_wp2_with (go_at_call 30; (with_reducible refine KA.out.mono ?_); rintro e w1 ⟨rfl, rfl⟩)
  go_ret
  exact ⟨rfl, rfl⟩
theorem sSync_no (h : SMem w Pd b be bp d q ek eg ev pk pg pv true s) : Calls Tryz.prog 24 #[.pointer (some ⟨b, 0, none⟩)] w fun e w' => e = .returned (.int .i64 17) ∧ w = w' := by
  have KA := Lib.hid (sAllows_is h false)
  clear h
  go_enter Tryz.func24, Tryz.ntmps24
  go_wp2_with (go_at_call 30; (with_reducible refine KA.out.mono ?_); rintro e w1 ⟨rfl, rfl⟩)
  go_ret
  exact ⟨rfl, rfl⟩
/-- Sync out of a call: what settle hands back. -/
theorem sSync_yes {r : Int} {Q : World → Prop} (h : SMem w Pd b be bp d q ek eg ev pk pg pv false s) (KS : Calls Tryz.prog 40 #[.pointer (some ⟨b, 0, none⟩)] w fun e w' => e = .returned (.int .i64 r) ∧ Q w') :
    Calls Tryz.prog 24 #[.pointer (some ⟨b, 0, none⟩)] w fun e w' => e = .returned (.int .i64 r) ∧ Q w' := by
  have KA := Lib.hid (sAllows_is h false)
  have KS' := Lib.hid KS
  clear h KS
  go_enter Tryz.func24, Tryz.ntmps24
  go_wp2_with (first
    | (go_at_call 30; (with_reducible refine KA.out.mono ?_); rintro e w1 ⟨rfl, rfl⟩)
    | (go_at_call 40; (with_reducible refine KS'.out.mono ?_); rintro e w1 ⟨rfl, hq⟩
       have HQ := Lib.hid hq
       clear hq))
  go_ret
  exact ⟨rfl, HQ.out⟩
end
end Go.Proofs.YtigbhdgcjklhoaaGreat
