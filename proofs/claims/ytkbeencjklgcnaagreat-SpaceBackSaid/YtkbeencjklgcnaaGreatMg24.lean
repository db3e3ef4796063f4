/- The landed store: contracts of join and End, in memory. -/
import Derived.Test.YtkbeencjklgcnaaGreatMg17
import Derived.Test.YtkbeencjklgcnaaGreatMg18
import Derived.Test.YtkbeencjklgcnaaGreatMg22
import Derived.Test.YtkbeencjklgcnaaGreatMg23
namespace Go.Proofs.YtkbeencjklgcnaaGreat
set_option maxRecDepth 100000
open Go.RowKit
set_option linter.unusedVariables false

/-- Of two calls' slices the later one's. -/
def pickG {α : Type} (pk : List Int) (p e : Int → α) (x : Int) : α := if x ∈ pk then p x else e x
section
variable {w : World} {Pd : Nat → Prop} {b be bp : Nat} {d : Value} {q : Int} {ek : List Int} {eg : Int → Value} {ev : Int → List Int} {pk : List Int} {pg : Int → Value} {pv : Int → List Int} {wi : Bool} {s : DS}
/-- Behind maps.Copy. -/
theorem SMem.copied (h : SMem w Pd b be bp d q ek eg ev pk pg pv wi s) {w' : World} (hm : Mp w' be (uniN ek pk) (pickG pk pg eg)) (hp : Mp w' bp pk pg) (hg : w.grownBy w' (some be)) : SMem w' Pd b be bp d q (uniN ek pk) (pickG pk pg eg) (pickG pk pv ev) pk pg pv wi s := by
  have hk : ∀ k, k < w.heap.size → k ≠ be → w'.heap[k]? = w.heap[k]? := fun k hl hn => hg.block k hl fun e => hn (Option.some.inj e)
  refine ⟨by rw [hk b h.bl fun e => h.nb.1 e.symm]; exact h.hb, h.dk.same fun k hpd => hk k (h.dk.lt k hpd) fun e => Mp.nd h.dk h.me (e ▸ hpd), h.q0, hm, hp, h.ne, fun x hx => ?_, fun x hx => (h.rp x hx).keep fun g hg' => hk g ((h.rp x hx).lt hg') ((h.rp x hx).nm hg' h.me)⟩
  unfold pickG
  by_cases hin : x ∈ pk
  · rw [if_pos hin, if_pos hin]
    exact (h.rp x hin).keep fun g hg' => hk g ((h.rp x hin).lt hg') ((h.rp x hin).nm hg' h.me)
  · rw [if_neg hin, if_neg hin]
    have hx' := (mem_uniN.1 hx).resolve_right hin
    exact (h.re x hx').keep fun g hg' => hk g ((h.re x hx').lt hg') ((h.re x hx').nm hg' h.me)
theorem SMem.copy (h : SMem w Pd b be bp d q ek eg ev pk pg pv wi s) (hel : ek.length ≤ 1000) (hpl : pk.length ≤ 1000) : Calls Tryz.prog 76 #[.map (some be), .map (some bp)] w fun e w' => e = .returned (.tuple #[]) ∧ SMem w' Pd b be bp d q (uniN ek pk) (pickG pk pg eg) (pickG pk pv ev) pk pg pv wi s ∧ Ext (fun k => k = be) w w' :=
  (mCopy_of h.me h.mp h.ne (by omega)).mono fun e w' ⟨he, hm, hp, hg⟩ => ⟨he, h.copied hm hp hg, Ext.of_grown hg rfl⟩
/-- Behind End's last statement: no present call. -/
theorem SMem.cleared (h : SMem w Pd b be bp d q ek eg ev pk pg pv wi s) (pg' : Int → Value) (pv' : Int → List Int) :
    let w' := ((w.setCell ⟨b, 3, none⟩ (.map (some w.heap.size))).setCell ⟨b, 4, none⟩ (.bool false)).alloc (.map #[] 0)
    SMem w' Pd b be w.heap.size d q ek eg ev [] pg' pv' false s ∧ w'.heap.size = w.heap.size + 1 ∧ Ext (fun k => k = b) w w' := by
  intro w'
  obtain ⟨w2, hw2⟩ : ∃ w2, w2 = (w.setCell ⟨b, 3, none⟩ (.map (some w.heap.size))).setCell ⟨b, 4, none⟩ (.bool false) := ⟨_, rfl⟩
  have hw' : w' = w2.alloc (.map #[] 0) := by rw [hw2]
  have hs2 : w2.heap.size = w.heap.size := by rw [hw2]; simp [World.setCell]
  have hwr : Wrote w w2 b := by rw [hw2]; exact (Wrote.setCell w b 3 _).and (Wrote.setCell _ b 4 _)
  have hbb : Below w2.heap.size w2 w' := by rw [hw']; exact below_box w2 _
  have e1 := heap_setCell_same w b 3 _ _ (.map (some w.heap.size)) h.hb
  have e2 := heap_setCell_same _ b 4 _ _ (.bool false) e1
  rw [← hw2] at e2
  have e3 := (hbb.block b (by rw [hs2]; exact h.bl)).trans e2
  have hsz : w'.heap.size = w.heap.size + 1 := by rw [hw']; simp [hs2]
  have hk : ∀ k, k < w.heap.size → k ≠ b → w'.heap[k]? = w.heap[k]? := fun k hl hn => (hbb.block k (by rw [hs2]; exact hl)).trans (hwr.2.2.2.2 k hn)
  have hM : Mp w' w.heap.size [] pg' := by
    have h0 := Mp.made w2 pg'
    rw [hs2, ← hw'] at h0
    exact h0
  have hbe := h.me.lt
  refine ⟨⟨e3, h.dk.same fun k hp => hk k (h.dk.lt k hp) fun e => h.nd (e ▸ hp), h.q0, h.me.keep (hk be hbe h.nb.1), hM, fun e => by rw [e] at hbe; exact Nat.lt_irrefl _ hbe,
    fun x hx => (h.re x hx).keep fun r hr => hk r ((h.re x hx).lt hr) ((h.re x hx).ne hr h.hb (by decide)), fun x hx => absurd hx List.not_mem_nil⟩, hsz,
    ⟨hbb.os.trans hwr.1, hbb.tape.trans hwr.2.1, hbb.output.trans hwr.2.2.1, by rw [hsz]; omega, fun k hl hn => hk k hl hn⟩⟩
/-- join, where all has room. -/
theorem sJoin_small (h : SMem w Pd b be bp d q ek eg ev pk pg pv wi s) (hel : ek.length ≤ 37) (hpl : pk.length ≤ 37) (hu : (uniN ek pk).length ≤ 37) :
    Calls Tryz.prog 44 #[.pointer (some ⟨b, 0, none⟩)] w fun e w' => e = .returned (.int .i64 0) ∧ SMem w' Pd b be bp d q (uniN ek pk) (pickG pk pg eg) (pickG pk pv ev) pk pg pv wi s ∧ Ext (fun k => k = be) w w' := by
  have KT := Lib.hid (sTogether_is h (by omega) (by omega))
  have HB := Lib.hid (fun (W : World) (hb : Below w.heap.size w W) => h.below hb)
  have KC := Lib.hid (fun (W : World) (hb : Below w.heap.size w W) => (h.below hb).copy (by omega) (by omega))
  have hle : ((uniN ek pk).length : Int) ≤ 37 := by omega
  obtain ⟨R, hR⟩ : ∃ R, R = (uniN ek pk).length := ⟨_, rfl⟩
  rw [← hR] at KT hle
  clear h hel hpl hu hR
  go_enter Tryz.func44, Tryz.ntmps44
  go_wp2_with (go_at_call 74; (with_reducible refine KT.out.mono ?_); rintro e w1 ⟨rfl, hb1⟩
               have HB1 := Lib.hid hb1
               have c2 := (HB.out w1 hb1).c2
               have c3 := (HB.out w1 hb1).c3
               clear hb1)
  have KC1 := Lib.hid (KC.out w1.drew HB1.out.drew)
  go_still_tail 8, (by kernel_rfl)
  go_wp2_with (go_at_call 76; (with_reducible refine KC1.out.mono ?_); rintro e w2 ⟨rfl, hm, hx⟩
               have HM := Lib.hid hm
               have HX := Lib.hid hx
               clear hm hx)
  go_ret
  exact ⟨rfl, HM.out, (Ext.of_below HB1.out.drew).trans (P2 := fun k => k = be) HX.out fun k _ e => e⟩
set_option maxHeartbeats 1000000 in
/-- join, where it hasn't: what was ahead of the present call is made durable first. -/
theorem sJoin_great (h : SMem w Pd b be bp d q ek eg ev pk pg pv wi s) (hel : ek.length ≤ 37) (hpl : pk.length ≤ 37) (hu : 37 < (uniN ek pk).length) (hB : takesT s.F.length (sortN ek) ((sortN ek).map ev) = true) (hU : s.U.length ≤ 800000) :
    Calls Tryz.prog 44 #[.pointer (some ⟨b, 0, none⟩)] w fun e w' =>
      ((runA (setA q (sortN ek) ((sortN ek).map ev)) s).1 = 0 ∧ e = .returned (.int .i64 0) ∧ ∃ be' Pd' q', SMem w' Pd' b be' bp d q' (uniN [] pk) (pickG pk pg eg) (pickG pk pv ev) pk pg pv wi (runA (setA q (sortN ek) ((sortN ek).map ev)) s).2 ∧ (w.heap.size ≤ be' ∧ be' < w'.heap.size) ∧ (∀ k, Pd' k → Pd k ∨ w.heap.size ≤ k) ∧ Ext (fun k => Pd k ∨ k = b) w w') ∨
      ((runA (setA q (sortN ek) ((sortN ek).map ev)) s).1 = 2 ∧ e = .returned (.int .i64 2) ∧ ∃ Pd', w'.heap[b]? = some deadRow ∧ Dk w' Pd' d (runA (setA q (sortN ek) ((sortN ek).map ev)) s).2 ∧ (∀ k, Pd' k → Pd k ∨ w.heap.size ≤ k) ∧ Ext (fun k => Pd k ∨ k = b) w w') := by
  have hne : 0 < ek.length := by
    rcases Nat.eq_zero_or_pos ek.length with e | e
    · have : ek = [] := List.eq_nil_of_length_eq_zero e
      rw [this] at hu
      have h2 : (uniN [] pk).length ≤ pk.length := by
        unfold uniN
        rw [List.nil_append]
        exact List.length_filter_le _ _
      omega
    · exact e
  have KT := Lib.hid (sTogether_is h (by omega) (by omega))
  have KS := Lib.hid (fun (W : World) (hb : Below w.heap.size w W) => sSettle_of (h.below hb) hne hel hB hU)
  have HPL := Lib.hid hpl
  have hgt : 37 < ((uniN ek pk).length : Int) := by omega
  obtain ⟨R, hR⟩ : ∃ R, R = (uniN ek pk).length := ⟨_, rfl⟩
  rw [← hR] at KT hgt
  obtain ⟨T, hT⟩ : ∃ T, T = runA (setA q (sortN ek) ((sortN ek).map ev)) s := ⟨_, rfl⟩
  have hT2 : T.1 = 0 ∨ T.1 = 2 := by rw [hT]; exact runA_two _ _
  rw [← hT] at KS ⊢
  obtain ⟨r, s'⟩ := T
  clear h hel hpl hu hR hT hB hU hne
  rcases hT2 with h0 | h0
  · simp only at h0
    subst h0
    have KS' := Lib.hid (fun (W : World) (hb : Below w.heap.size w W) => (KS.out W hb).mono (R' := fun e w' => e = .returned (.int .i64 0) ∧ ∃ be' Pd' q', SMem w' Pd' b be' bp d q' [] eg ev pk pg pv wi s' ∧ (W.heap.size ≤ be' ∧ be' < w'.heap.size) ∧ (∀ k, Pd' k → Pd k ∨ W.heap.size ≤ k) ∧ Ext (fun k => Pd k ∨ k = b) W w') (fun e w' hq => by
      rcases hq with ⟨_, he, hx⟩ | ⟨h2, _⟩
      · exact ⟨he, hx⟩
      · exact absurd (show (0 : Int) = 2 from h2) (by decide)))
    clear KS
    go_enter Tryz.func44, Tryz.ntmps44
    go_wp2_with (first
      | (go_at_call 74; (with_reducible refine KT.out.mono ?_); rintro e w1 ⟨rfl, hb1⟩
         have HB1 := Lib.hid hb1
         clear hb1)
      | (go_at_call 75; (with_reducible refine (KS'.out _ HB1.out).mono ?_); rintro e w2 ⟨rfl, be', Pd', q', hm, hbe, hpd, hx⟩
         have HM := Lib.hid hm
         have HBE := Lib.hid hbe
         have HPD := Lib.hid hpd
         have HX := Lib.hid hx
         have c2 := hm.c2
         have c3 := hm.c3
         clear hm hbe hpd hx))
    have KC1 := Lib.hid (SMem.copy (HM.out.below (Below.refl _ w2).drew) (Nat.zero_le _) (by have := HPL.out; omega))
    go_still_tail 8, (by kernel_rfl)
    go_wp2_with (go_at_call 76; (with_reducible refine KC1.out.mono ?_); rintro e w3 ⟨rfl, hm, hx⟩
                 have HM3 := Lib.hid hm
                 have HX3 := Lib.hid hx
                 clear hm hx)
    go_ret
    refine .inl ⟨by first | rfl | trivial, rfl, be', Pd', q', HM3.out, ⟨Nat.le_trans HB1.out.size HBE.out.1, Nat.lt_of_lt_of_le HBE.out.2 HX3.out.size⟩, fun k hk => (HPD.out k hk).imp id fun e => Nat.le_trans HB1.out.size e, ?_⟩
    have e1 : Ext (fun k => Pd k ∨ k = b) w w2 := (Ext.of_below HB1.out).trans (P2 := fun k => Pd k ∨ k = b) HX.out fun k _ e => e
    have e2 : Ext (fun k => k = be') w2 w3 := ⟨HX3.out.os, HX3.out.tape, HX3.out.output, HX3.out.size, HX3.out.keep⟩
    exact e1.trans e2 fun k hk e => absurd (e ▸ hk) (by have := HBE.out.1; have := HB1.out.size; omega)
  · simp only at h0
    subst h0
    have KS' := Lib.hid (fun (W : World) (hb : Below w.heap.size w W) => (KS.out W hb).mono (R' := fun e w' => e = .returned (.int .i64 2) ∧ ∃ Pd', w'.heap[b]? = some deadRow ∧ Dk w' Pd' d s' ∧ (∀ k, Pd' k → Pd k ∨ W.heap.size ≤ k) ∧ Ext (fun k => Pd k ∨ k = b) W w') (fun e w' hq => by
      rcases hq with ⟨h2, _⟩ | ⟨_, he, hx⟩
      · exact absurd (show (2 : Int) = 0 from h2) (by decide)
      · exact ⟨he, hx⟩))
    clear KS
    go_enter Tryz.func44, Tryz.ntmps44
    go_wp2_with (first
      | (go_at_call 74; (with_reducible refine KT.out.mono ?_); rintro e w1 ⟨rfl, hb1⟩
         have HB1 := Lib.hid hb1
         clear hb1)
      | (go_at_call 75; (with_reducible refine (KS'.out _ HB1.out).mono ?_); rintro e w2 ⟨rfl, Pd', hbr, hdk, hpd, hx⟩
         have HBR := Lib.hid hbr
         have HDK := Lib.hid hdk
         have HPD := Lib.hid hpd
         have HX := Lib.hid hx
         clear hbr hdk hpd hx))
    go_ret
    exact .inr ⟨by first | rfl | trivial, rfl, Pd', HBR.out, HDK.out, fun k hk => (HPD.out k hk).imp id fun e => Nat.le_trans HB1.out.size e, (Ext.of_below HB1.out).trans (P2 := fun k => Pd k ∨ k = b) HX.out fun k _ e => e⟩
end
end Go.Proofs.YtkbeencjklgcnaaGreat

/- The landed store: contracts of End and Sync. -/
namespace Go.Proofs.YtkbeencjklgcnaaGreat
set_option maxRecDepth 100000
open Go.RowKit
set_option linter.unusedVariables false

/-- A store's state, put together anew. -/
theorem sinv_of {w w' : World} {P Pd : Nat → Prop} {b be bp : Nat} {d : Value} {q : Int} {ek : List Int} {eg : Int → Value} {ev : Int → List Int} {pk : List Int} {pg : Int → Value} {pv : Int → List Int} {X : XSt} (hm : SMem w' Pd b be bp d q ek eg ev pk pg pv X.wi X.ds) (hpl : SPl X ek ev pk pv)
    (hl : ∀ k, P k → k < w.heap.size) (hs : w.heap.size ≤ w'.heap.size) (hown : ∀ k, SOwn Pd b be bp ek eg pk pg k → P k ∨ w.heap.size ≤ k) : SInv w' (grP P w w') d (.pointer (some ⟨b, 0, none⟩)) X :=
  ⟨b, be, bp, Pd, q, ek, eg, ev, pk, pg, pv, rfl, hm, hpl, fun k hk => (hown k hk).imp id fun e => ⟨e, hm.lt k hk⟩, fun k hk => hk.elim (fun h => Nat.lt_of_lt_of_le (hl k h) hs) fun h => h.2⟩
section
variable {w : World} {Pd : Nat → Prop} {b be bp : Nat} {d : Value} {q : Int} {ek : List Int} {eg : Int → Value} {ev : Int → List Int} {pk : List Int} {pg : Int → Value} {pv : Int → List Int} {wi : Bool} {s : DS}
/-- End(false). -/
theorem sEnd_undo (h : SMem w Pd b be bp d q ek eg ev pk pg pv true s) : Calls Tryz.prog 17 #[.pointer (some ⟨b, 0, none⟩), .bool false] w fun e w' => e = .returned (.int .i64 0) ∧ w' = ((w.setCell ⟨b, 3, none⟩ (.map (some w.heap.size))).setCell ⟨b, 4, none⟩ (.bool false)).alloc (.map #[] 0) := by
  have KA := Lib.hid (sAllows_is h true)
  have c3 := h.c3
  have c4 := h.c4
  have f3 := h.fr 3
  have f4 := h.fr 4
  have hbl := h.bl
  have hbn : b ≠ w.heap.size := Nat.ne_of_lt h.bl
  have hbn' : w.heap.size ≠ b := fun e => hbn e.symm
  have hmm := @run_makeMap Tryz.prog
  clear h
  go_enter Tryz.func17, Tryz.ntmps17
  go_wp2_with (go_at_call 37; (with_reducible refine KA.out.mono ?_); rintro e w1 ⟨rfl, rfl⟩)
  go_ret
  exact ⟨rfl, rfl⟩
/-- End(true), behind a join that says OK. -/
theorem sEnd_keep {Q : World → Prop} (h : SMem w Pd b be bp d q ek eg ev pk pg pv true s)
    (KJ : Calls Tryz.prog 44 #[.pointer (some ⟨b, 0, none⟩)] w fun e w1 => e = .returned (.int .i64 0) ∧ Q w1 ∧ ∃ Pd1 be1 q1 ek1 eg1 ev1 s1, SMem w1 Pd1 b be1 bp d q1 ek1 eg1 ev1 pk pg pv true s1) :
    Calls Tryz.prog 17 #[.pointer (some ⟨b, 0, none⟩), .bool true] w fun e w' => e = .returned (.int .i64 0) ∧ ∃ w1, Q w1 ∧ w' = ((w1.setCell ⟨b, 3, none⟩ (.map (some w1.heap.size))).setCell ⟨b, 4, none⟩ (.bool false)).alloc (.map #[] 0) := by
  have KA := Lib.hid (sAllows_is h true)
  have KJ' := Lib.hid KJ
  have hmm := @run_makeMap Tryz.prog
  clear h KJ
  go_enter Tryz.func17, Tryz.ntmps17
  go_wp2_with (first
    | (go_at_call 37; (with_reducible refine KA.out.mono ?_); rintro e w1 ⟨rfl, rfl⟩)
    | (go_at_call 44; (with_reducible refine KJ'.out.mono ?_); rintro e w1 ⟨rfl, hq, Pd1, be1, q1, ek1, eg1, ev1, s1, h⟩
       have HQ := Lib.hid hq
       have c3 := h.c3
       have c4 := h.c4
       have f3 := h.fr 3
       have f4 := h.fr 4
       have hbl := h.bl
       have hbn : b ≠ w1.heap.size := Nat.ne_of_lt h.bl
       have hbn' : w1.heap.size ≠ b := fun e => hbn e.symm
       clear h hq))
  go_ret
  exact ⟨rfl, w1, HQ.out, rfl⟩
/-- End(true), behind one that says ErrIO. -/
theorem sEnd_dead {Q : World → Prop} (h : SMem w Pd b be bp d q ek eg ev pk pg pv true s)
    (KJ : Calls Tryz.prog 44 #[.pointer (some ⟨b, 0, none⟩)] w fun e w1 => e = .returned (.int .i64 2) ∧ Q w1) :
    Calls Tryz.prog 17 #[.pointer (some ⟨b, 0, none⟩), .bool true] w fun e w' => e = .returned (.int .i64 2) ∧ Q w' := by
  have KA := Lib.hid (sAllows_is h true)
  have KJ' := Lib.hid KJ
  clear h KJ
  go_enter Tryz.func17, Tryz.ntmps17
  go_wp2_with (first
    | (go_at_call 37; (with_reducible refine KA.out.mono ?_); rintro e w1 ⟨rfl, rfl⟩)
    | (go_at_call 44; (with_reducible refine KJ'.out.mono ?_); rintro e w1 ⟨rfl, hq⟩
       have HQ := Lib.hid hq
       clear hq))
  go_ret
  exact ⟨rfl, HQ.out⟩
theorem sEnd_no (h : SMem w Pd b be bp d q ek eg ev pk pg pv false s) (k : Bool) : Calls Tryz.prog 17 #[.pointer (some ⟨b, 0, none⟩), .bool k] w fun e w' => e = .returned (.int .i64 17) ∧ w = w' := by
  have KA := Lib.hid (sAllows_is h true)
  clear h
  go_enter Tryz.func17, Tryz.ntmps17
  go_wp2_with (go_at_call 37; (with_reducible refine KA.out.mono ?_); rintro e w1 ⟨rfl, rfl⟩)
  go_ret
  exact ⟨rfl, rfl⟩
end
end Go.Proofs.YtkbeencjklgcnaaGreat

/- The landed store pays the bundle: End, Sync. -/
namespace Go.Proofs.YtkbeencjklgcnaaGreat
set_option maxRecDepth 100000
open Go.RowKit
set_option linter.unusedVariables false

section
variable {X : XSt} {ek : List Int} {ev : Int → List Int} {pk : List Int} {pv : Int → List Int}
theorem SPl.base (h : SPl X ek ev pk pv) : X.base.length = X.is.length := h.ok.lst.glen
theorem SPl.undo (h : SPl X ek ev pk pv) (pv' : Int → List Int) : SPl { X with wi := false } ek ev [] pv' :=
  { h with ok := { h.ok with call := fun e => Bool.noConfusion (show false = true from e) }, kp := fun x hx => absurd hx List.not_mem_nil, pl := Nat.zero_le _, wi0 := fun _ => rfl, wi1 := fun e => Bool.noConfusion (show false = true from e) }
/-- What is by the present call, out of what is durable. -/
theorem SPl.merged (h : SPl X ek ev pk pv) (hw : X.wi = true) (i : Nat) (ho : OutJ i) (hi : i < X.is.length) : X.call.getD i [] = if (i : Int) ∈ uniN ek pk then pickG pk pv ev i else X.base.getD i [] := by
  obtain ⟨_, _, h2⟩ := h.wi1 hw
  rw [h2 i ho hi, h.isx i ho hi]
  unfold pickG
  by_cases hp : (i : Int) ∈ pk
  · rw [if_pos hp, if_pos (mem_uniN.2 (.inr hp)), if_pos hp]
  · rw [if_neg hp]
    by_cases he : (i : Int) ∈ ek
    · rw [if_pos he, if_pos (mem_uniN.2 (.inl he)), if_neg hp]
    · rw [if_neg he, if_neg fun e => (mem_uniN.1 e).elim he hp]
theorem SPl.small (h : SPl X ek ev pk pv) (hw : X.wi = true) (hu : (uniN ek pk).length ≤ 37) (pv' : Int → List Int) : SPl { X with base := X.base, is := X.call, wi := false, dt := (uniN ek pk).length, ds := X.ds } (uniN ek pk) (pickG pk pv ev) [] pv' := by
  obtain ⟨_, hcl, _⟩ := h.wi1 hw
  have hcl' : X.call.length = X.is.length := hcl
  refine ⟨⟨?_, h.ok.pow, h.ok.un, fun e => Bool.noConfusion (show false = true from e), hu⟩, ?_, h.u0, ?_, fun x hx => absurd hx List.not_mem_nil, hu, Nat.zero_le _, rfl, ?_, fun _ => rfl, fun e => Bool.noConfusion (show false = true from e)⟩
  · show Lst X.call.length X.ds X.base
    rw [hcl']; exact h.ok.lst
  · show 64 ≤ X.call.length ∧ X.call.length ≤ 768
    rw [hcl']; exact h.n64
  · intro x hx
    show inK X.call.length x
    rw [hcl']
    exact (mem_uniN.1 hx).elim (h.ki x) (h.kp x)
  · intro i ho hi
    have hi' : i < X.call.length := hi
    exact h.merged hw i ho (by omega)
theorem uni_nil (pk : List Int) : uniN [] pk = pk := by
  unfold uniN
  rw [List.nil_append, List.filter_eq_self]
  intro x _
  simp
theorem SPl.great (h : SPl X ek ev pk pv) (hw : X.wi = true) {ds' : DS} (hl : Lst X.is.length ds' X.is) (hd : ds'.dn = false) (hU : ds'.U = []) (pv' : Int → List Int) : SPl { X with base := X.is, is := X.call, wi := false, dt := (uniN [] pk).length, ds := ds' } (uniN [] pk) (pickG pk pv ev) [] pv' := by
  obtain ⟨_, hcl, hcv⟩ := h.wi1 hw
  have hcl' : X.call.length = X.is.length := hcl
  have hpl : (uniN [] pk).length ≤ 37 := by rw [uni_nil]; exact h.pl
  refine ⟨⟨?_, hd, by show ds'.U.length ≤ 1000; rw [hU]; exact Nat.zero_le _, fun e => Bool.noConfusion (show false = true from e), hpl⟩, ?_, hU, ?_, fun x hx => absurd hx List.not_mem_nil, hpl, Nat.zero_le _, rfl, ?_, fun _ => rfl, fun e => Bool.noConfusion (show false = true from e)⟩
  · show Lst X.call.length ds' X.is
    rw [hcl']; exact hl
  · show 64 ≤ X.call.length ∧ X.call.length ≤ 768
    rw [hcl']; exact h.n64
  · intro x hx
    show inK X.call.length x
    rw [hcl']
    rw [uni_nil] at hx
    exact h.kp x hx
  · intro i ho hi
    have hi' : i < X.call.length := hi
    show X.call.getD i [] = if (i : Int) ∈ uniN [] pk then pickG pk pv ev i else X.is.getD i []
    rw [uni_nil, hcv i ho (by omega)]
    by_cases hp : (i : Int) ∈ pk
    · rw [if_pos hp, if_pos hp]; unfold pickG; rw [if_pos hp]
    · rw [if_neg hp, if_neg hp]
theorem SPl.synced (h : SPl X ek ev pk pv) (hw : X.wi = false) {ds' : DS} (hl : Lst X.is.length ds' X.is) (hd : ds'.dn = false) (hU : ds'.U = []) : SPl { X with base := X.is, dt := 0, ds := ds' } [] ev pk pv := by
  refine ⟨⟨hl, hd, by show ds'.U.length ≤ 1000; rw [hU]; exact Nat.zero_le _, h.ok.call, Nat.zero_le _⟩, h.n64, hU, fun x hx => absurd hx List.not_mem_nil, h.kp, Nat.zero_le _, h.pl, rfl, fun i _ _ => ?_, h.wi0, fun e => ?_⟩
  · rw [if_neg List.not_mem_nil]
  · exact absurd (hw.symm.trans e) (by decide)
/-- What the disk takes; what settle makes of it. -/
theorem SPl.okT (h : SPl X ek ev pk pv) (hn : ek.Nodup) (hv : ∀ x ∈ ek, (ev x).length = 256) : okT X.is.length (sortN ek) ((sortN ek).map ev) := set_ok hn h.el h.ki h.n64.2 hv
theorem SPl.set (h : SPl X ek ev pk pv) (hn : ek.Nodup) (hv : ∀ x ∈ ek, (ev x).length = 256) {q : Int} (hq : 0 ≤ q ∧ q < 4294967296) :
    let r := runA (setA q (sortN ek) ((sortN ek).map ev)) X.ds
    (r.1 = 0 → r.2.dn = false ∧ r.2.U = [] ∧ Lst X.is.length r.2 X.is) ∧ (r.1 = 2 → X.ds.fu = true ∧ DeadOk X.is.length r.2 [X.base, X.is]) := by
  intro r
  have hT := h.okT hn hv
  obtain ⟨h1, h2⟩ := set_plain h.ok.lst (by have := h.n64.1; omega) h.u0 h.ok.pow hT hq
  have hE := set_is (B := X.base) (I := X.is) h.ki h.base rfl h.isx
  refine ⟨fun h0 => ?_, fun h0 => ?_⟩
  · obtain ⟨a, b, c⟩ := h1 h0
    exact ⟨a, b, c.toO hE⟩
  · obtain ⟨a, b, c, e⟩ := h2 h0
    refine ⟨a, b, c, fun kp => ?_⟩
    obtain ⟨G, hG, hJ⟩ := e kp
    simp only [List.mem_cons, List.not_mem_nil, or_false] at hG
    rcases hG with rfl | rfl
    · exact ⟨_, by simp, hJ⟩
    · exact ⟨X.is, by simp, hJ.toO hE⟩
end
section
variable {w : World} {P : Nat → Prop} {d p : Value} {X : XSt}
theorem sEndNo_of (h : SInv w P d p X) (hw : X.wi = false) (k : Bool) : Calls Tryz.prog 17 #[p, .bool k] w (XOut SInv w P d p (17, X)) := by
  have h' := h
  obtain ⟨b, be, bp, Pd, q, ek, eg, ev, pk, pg, pv, rfl, hm, hpl, ho, hl⟩ := h
  rw [hw] at hm
  exact (sEnd_no hm k).mono fun e w' ⟨he, hww⟩ => by subst hww; exact ⟨he, P, h', Chg.refl _ _⟩
theorem sEndUndo_of (h : SInv w P d p X) (hw : X.wi = true) : Calls Tryz.prog 17 #[p, .bool false] w (XOut SInv w P d p (0, { X with wi := false })) := by
  obtain ⟨b, be, bp, Pd, q, ek, eg, ev, pk, pg, pv, rfl, hm, hpl, ho, hl⟩ := h
  rw [hw] at hm
  refine (sEnd_undo hm).mono ?_
  rintro e w' ⟨rfl, rfl⟩
  obtain ⟨hm', hsz, hext⟩ := hm.cleared pg pv
  refine ⟨rfl, _, sinv_of hm' (hpl.undo pv) hl hext.size ?_, (hext.sub fun k e => ho k (.inr (.inl e))).chg⟩
  intro k hk
  rcases hk with hk | rfl | rfl | rfl | ⟨x, hx, hg⟩ | ⟨x, hx, _⟩
  · exact .inl (ho k (.inl hk))
  · exact .inl (ho _ (.inr (.inl rfl)))
  · exact .inl (ho _ (.inr (.inr (.inl rfl))))
  · exact .inr (Nat.le_refl _)
  · exact .inl (ho k (.inr (.inr (.inr (.inr (.inl ⟨x, hx, hg⟩))))))
  · exact absurd hx List.not_mem_nil
/-- The blocks' slices behind a copy are ones that were there. -/
theorem own_pick {ek pk : List Int} {eg pg : Int → Value} {x : Int} {k : Nat} (hx : x ∈ uniN ek pk) (hg : (pickG pk pg eg x).ownBlock = some k) : (∃ y, y ∈ ek ∧ (eg y).ownBlock = some k) ∨ ∃ y, y ∈ pk ∧ (pg y).ownBlock = some k := by
  unfold pickG at hg
  by_cases hp : x ∈ pk
  · rw [if_pos hp] at hg; exact .inr ⟨x, hp, hg⟩
  · rw [if_neg hp] at hg; exact .inl ⟨x, (mem_uniN.1 hx).resolve_right hp, hg⟩
theorem sEndKeep_of (h : SInv w P d p X) (hw : X.wi = true) : Calls Tryz.prog 17 #[p, .bool true] w fun e w' =>
    (∃ B dt ds', (B = X.base ∨ B = X.is ∨ B = X.call) ∧ ds'.fu = X.ds.fu ∧ XOut SInv w P d p (0, { X with base := B, is := X.call, wi := false, dt := dt, ds := ds' }) e w') ∨ XDead SDead w P d p X [X.base, X.is, X.call] e w' := by
  obtain ⟨b, be, bp, Pd, q, ek, eg, ev, pk, pg, pv, rfl, hm, hpl, ho, hl⟩ := h
  rw [hw] at hm
  have hv : ∀ x ∈ ek, (ev x).length = 256 := fun x hx => (hm.re x hx).2
  by_cases hu : (uniN ek pk).length ≤ 37
  · refine (sEnd_keep (Q := fun w1 => SMem w1 Pd b be bp d q (uniN ek pk) (pickG pk pg eg) (pickG pk pv ev) pk pg pv true X.ds ∧ Ext (fun k => k = be) w w1) hm ((sJoin_small hm hpl.el hpl.pl hu).mono fun e w1 ⟨he, h1, hx⟩ => ⟨he, ⟨h1, hx⟩, _, _, _, _, _, _, _, h1⟩)).mono ?_
    rintro e w' ⟨rfl, w1, ⟨hm1, hx1⟩, rfl⟩
    obtain ⟨hm', hsz, hext⟩ := hm1.cleared pg pv
    have hE : Ext (fun k => k = be ∨ k = b) w _ := (hx1.sub fun k e => .inl e).trans (P2 := fun k => k = b) hext fun k _ e => .inr e
    refine .inl ⟨X.base, (uniN ek pk).length, X.ds, .inl rfl, rfl, rfl, _, sinv_of hm' (hpl.small hw hu pv) hl hE.size ?_, (hE.sub fun k e => e.elim (fun e => ho k (.inr (.inr (.inl e)))) fun e => ho k (.inr (.inl e))).chg⟩
    intro k hk
    rcases hk with hk | rfl | rfl | rfl | ⟨x, hx, hg⟩ | ⟨x, hx, _⟩
    · exact .inl (ho k (.inl hk))
    · exact .inl (ho _ (.inr (.inl rfl)))
    · exact .inl (ho _ (.inr (.inr (.inl rfl))))
    · exact .inr hx1.size
    · exact .inl (ho k (.inr (.inr (.inr (.inr (own_pick hx hg))))))
    · exact absurd hx List.not_mem_nil
  · have hT := hpl.okT hm.me.nodup hv
    obtain ⟨s1, s2⟩ := hpl.set hm.me.nodup hv hm.q0
    have hB : takesT X.ds.F.length (sortN ek) ((sortN ek).map ev) = true := by rw [hpl.ok.lst.1]; exact hT.takes hpl.n64.1
    have KJ := sJoin_great hm hpl.el hpl.pl (by omega) hB (by rw [hpl.u0]; exact Nat.zero_le _)
    have hfu := runA_fu (setA q (sortN ek) ((sortN ek).map ev)) X.ds
    have hr := runA_two (setA q (sortN ek) ((sortN ek).map ev)) X.ds
    generalize runA (setA q (sortN ek) ((sortN ek).map ev)) X.ds = r at s1 s2 KJ hfu hr
    obtain ⟨r, s'⟩ := r
    rcases hr with h0 | h0
    · simp only at h0
      subst h0
      obtain ⟨g1, g2, g3⟩ := s1 rfl
      refine (sEnd_keep (Q := fun w1 => ∃ be' Pd' q', SMem w1 Pd' b be' bp d q' (uniN [] pk) (pickG pk pg eg) (pickG pk pv ev) pk pg pv true s' ∧ (w.heap.size ≤ be' ∧ be' < w1.heap.size) ∧ (∀ k, Pd' k → Pd k ∨ w.heap.size ≤ k) ∧ Ext (fun k => Pd k ∨ k = b) w w1) hm (KJ.mono fun e w1 hq => by
        rcases hq with ⟨_, he, hx⟩ | ⟨h2, _⟩
        · obtain ⟨be', Pd', q', h1, r⟩ := hx
          exact ⟨he, ⟨be', Pd', q', h1, r⟩, _, _, _, _, _, _, _, h1⟩
        · exact absurd (show (0 : Int) = 2 from h2) (by decide))).mono ?_
      rintro e w' ⟨rfl, w1, ⟨be', Pd', q', hm1, hbe, hpd, hx1⟩, rfl⟩
      obtain ⟨hm', hsz, hext⟩ := hm1.cleared pg pv
      have hE : Ext (fun k => Pd k ∨ k = b) w _ := hx1.trans (P2 := fun k => k = b) hext fun k _ e => .inr e
      refine .inl ⟨X.is, (uniN [] pk).length, s', .inr (.inl rfl), hfu, rfl, _, sinv_of hm' (hpl.great hw g3 g1 g2 pv) hl hE.size ?_, (hE.sub fun k e => e.elim (fun e => ho k (.inl e)) fun e => ho k (.inr (.inl e))).chg⟩
      intro k hk
      rcases hk with hk | rfl | rfl | rfl | ⟨x, hx, hg⟩ | ⟨x, hx, _⟩
      · exact (hpd k hk).imp (fun e => ho k (.inl e)) id
      · exact .inl (ho _ (.inr (.inl rfl)))
      · exact .inr hbe.1
      · exact .inr hx1.size
      · rw [uni_nil] at hx
        unfold pickG at hg
        rw [if_pos hx] at hg
        exact .inl (ho k (.inr (.inr (.inr (.inr (.inr ⟨x, hx, hg⟩))))))
      · exact absurd hx List.not_mem_nil
    · simp only at h0
      subst h0
      obtain ⟨g1, g2⟩ := s2 rfl
      refine (sEnd_dead (Q := fun w1 => ∃ Pd', w1.heap[b]? = some deadRow ∧ Dk w1 Pd' d s' ∧ (∀ k, Pd' k → Pd k ∨ w.heap.size ≤ k) ∧ Ext (fun k => Pd k ∨ k = b) w w1) hm (KJ.mono fun e w1 hq => by
        rcases hq with ⟨h2, _⟩ | ⟨_, he, hx⟩
        · exact absurd (show (2 : Int) = 0 from h2) (by decide)
        · exact ⟨he, hx⟩)).mono ?_
      rintro e w' ⟨rfl, Pd', hb, hdk, hpd, hx⟩
      obtain ⟨k1, k2, k3⟩ := g2
      refine .inr ⟨g1, rfl, grP P w w', s', ⟨b, Pd', rfl, hb, hdk, fun k hk => ?_, fun k hk => hk.elim (fun h => Nat.lt_of_lt_of_le (hl k h) hx.size) fun h => h.2⟩, (hx.sub fun k e => e.elim (fun e => ho k (.inl e)) fun e => ho k (.inr (.inl e))).chg, k1, k2, fun kp => ?_⟩
      · rcases hk with hk | rfl
        · exact (hpd k hk).imp (fun e => ho k (.inl e)) fun e => ⟨e, hdk.lt k hk⟩
        · exact .inl (ho _ (.inr (.inl rfl)))
      · obtain ⟨G, hG, hJ⟩ := k3 kp
        refine ⟨G, ?_, hJ⟩
        simp only [List.mem_cons, List.not_mem_nil, or_false] at hG ⊢
        rcases hG with e | e
        · exact .inl e
        · exact .inr (.inl e)
end
end Go.Proofs.YtkbeencjklgcnaaGreat

/- The landed store pays the bundle: Open; the bundle. -/
namespace Go.Proofs.YtkbeencjklgcnaaGreat
set_option maxRecDepth 100000
open Go.RowKit
set_option linter.unusedVariables false

/-- A new store, in memory. -/
theorem open_mem {W : World} {P : Nat → Prop} {d : Value} {s : DS} {x : Int} (hd : Dk W P d s) (hx : 0 ≤ x ∧ x < 4294967296) (eg : Int → Value) (ev : Int → List Int) :
    let w' := ((W.alloc (.map #[] 0)).alloc (.map #[] 0)).alloc (.cells #[d, .int .u32 x, .map (some W.heap.size), .map (some (W.heap.size + 1)), .bool false, .bool false] 78)
    SMem w' P (W.heap.size + 1 + 1) W.heap.size (W.heap.size + 1) d x [] eg ev [] eg ev false s ∧ Below W.heap.size W w' ∧ w'.heap.size = W.heap.size + 3 := by
  intro w'
  obtain ⟨w1, hw1⟩ : ∃ w1, w1 = W.alloc (.map #[] 0) := ⟨_, rfl⟩
  obtain ⟨w2, hw2⟩ : ∃ w2, w2 = w1.alloc (.map #[] 0) := ⟨_, rfl⟩
  have hs1 : w1.heap.size = W.heap.size + 1 := by rw [hw1]; simp
  have hs2 : w2.heap.size = W.heap.size + 1 + 1 := by rw [hw2]; simp [hs1]
  have hw' : w' = w2.alloc (.cells #[d, .int .u32 x, .map (some W.heap.size), .map (some (W.heap.size + 1)), .bool false, .bool false] 78) := by rw [hw2, hw1]
  have b1 : Below W.heap.size W w1 := by rw [hw1]; exact below_box W _
  have b2 : Below w1.heap.size w1 w2 := by rw [hw2]; exact below_box w1 _
  have b3 : Below w2.heap.size w2 w' := by rw [hw']; exact below_box w2 _
  have hm1 : Mp w1 W.heap.size [] eg := by rw [hw1]; exact Mp.made W eg
  have hm2 : Mp w2 w1.heap.size [] eg := by rw [hw2]; exact Mp.made w1 eg
  have hb : Below W.heap.size W w' := b1.trans ((b2.trans (b3.mono b2.size)).mono b1.size)
  have hr : w'.heap[W.heap.size + 1 + 1]? = some (.cells #[d, .int .u32 x, .map (some W.heap.size), .map (some (W.heap.size + 1)), .bool false, .bool false] 78 (0, 0)) := by
    rw [← hs2, hw']; exact heap_alloc_new w2 _
  refine ⟨⟨hr, hd.below hb, hx, (hm1.keep (b2.block _ (by rw [hs1]; omega))).keep (b3.block _ (by rw [hs2]; omega)), ?_, by omega, fun x hx => absurd hx List.not_mem_nil, fun x hx => absurd hx List.not_mem_nil⟩, hb, by rw [hw']; simp [hs2]⟩
  rw [← hs1]
  exact hm2.keep (b3.block _ (by rw [hs2, hs1]; omega))
theorem sOpen_of {w : World} {P : Nat → Prop} {d : Value} {ds : DS} {n : Nat} {G : List (List Int)} (h : Dk w P d ds) (h64 : 64 ≤ n) (h768 : n ≤ 768) (hU : ds.U = []) (hd : ds.dn = false) (hJ : Jst n ds.F G) : Calls Tryz.prog 27 #[d] w fun e w' =>
    (∃ p ds' P', e = .returned (.tuple #[p, .int .i64 0]) ∧ ds'.fu = ds.fu ∧ SInv w' P' d p ⟨G, G, [], [], false, 0, ds'⟩ ∧ Chg P P' w w') ∨
      (ds.fu = true ∧ e = .returned (.tuple #[.pointer none, .int .i64 2]) ∧ ∃ ds' P', Dk w' P' d ds' ∧ Chg P P' w w' ∧ DeadOk n ds' [G]) := by
  have KR := Lib.hid (recover_any h h64 hU hd hJ)
  have hlt := fun k hk => h.lt k hk
  have HL := Lib.hid hlt
  have HG : Hid (G.length = n) := Lib.hid hJ.2.1
  have H64 := Lib.hid (And.intro h64 h768)
  have hmm := @run_makeMap Tryz.prog
  obtain ⟨bd, rfl⟩ := h.ptr
  clear h h64 h768 hU hd hJ hlt
  go_enter Tryz.func27, Tryz.ntmps27
  go_upto_region 2 with (go_at_call 64; (with_reducible refine KR.out.mono ?_); rintro e w1 ⟨x, r, s', P1, rfl, hd1, hc1, hu1, hf1, hr1, hcr, h0, hf0, hx, hfu⟩
                         have HD := Lib.hid hd1
                         have HC := Lib.hid hc1
                         have HCR := Lib.hid (And.intro hu1 (And.intro hf1 hcr))
                         have H0 := Lib.hid h0
                         have HF0 := Lib.hid hf0
                         have HX := Lib.hid hx
                         have HFU := Lib.hid hfu
                         have HR := Lib.hid hr1
                         clear hd1 hc1 hu1 hf1 hcr h0 hf0 hx hfu hr1)
  rcases HR.out with e0 | e0
  · subst e0
    go_wp2
    go_ret2
    obtain ⟨g1, g2, g3⟩ := H0.out (by first | rfl | trivial)
    obtain ⟨hm, hb, hsz⟩ := open_mem HD.out HX.out (fun _ => undef) (fun _ => [])
    have hE : Ext P w _ := (Ext.of_chg HC.out fun k hk => hk).trans (P2 := P) (Ext.of_below hb) fun k _ e => e
    refine .inl ⟨_, rfl, s', HFU.out, _, sinv_of (X := ⟨G, G, [], [], false, 0, s'⟩) (P := P) hm ⟨⟨by show Lst G.length s' G; rw [HG.out]; exact g3, g1, by rw [g2]; exact Nat.zero_le _, fun e => Bool.noConfusion (show false = true from e), Nat.zero_le _⟩, by show 64 ≤ G.length ∧ G.length ≤ 768; rw [HG.out]; exact H64.out, g2, fun x hx => absurd hx List.not_mem_nil, fun x hx => absurd hx List.not_mem_nil, Nat.zero_le _, Nat.zero_le _, rfl, fun i _ _ => (if_neg List.not_mem_nil).symm, fun _ => rfl, fun e => Bool.noConfusion (show false = true from e)⟩ HL.out hE.size ?_, hE.chg⟩
    intro k hk
    have hs := HC.out.size
    rcases hk with hk | rfl | rfl | rfl | ⟨x, hx, _⟩ | ⟨x, hx, _⟩
    · exact chg_new HC.out hk
    · exact .inr (by omega)
    · exact .inr (by omega)
    · exact .inr (by omega)
    · exact absurd hx List.not_mem_nil
    · exact absurd hx List.not_mem_nil
  · subst e0
    go_wp2
    go_ret2
    refine .inr ⟨?_, rfl, s', P1, HD.out, HC.out, HCR.out.1, HCR.out.2.1, fun kp => ⟨G, by simp, HCR.out.2.2 kp⟩⟩
    cases hf : ds.fu
    · exact absurd (HF0.out hf) (by decide)
    · rfl
/-- The landed store is one. -/
theorem landed : Sto SInv SDead where
  plain h := by obtain ⟨_, _, _, _, _, _, _, _, _, _, _, _, _, hpl, _⟩ := h; exact hpl.ok
  ptr h := by obtain ⟨b, _, _, _, _, _, _, _, _, _, _, hp, _⟩ := h; exact ⟨b, hp⟩
  lt h := by obtain ⟨_, _, _, _, _, _, _, _, _, _, _, _, _, _, _, hl⟩ := h; exact hl
  keep h hs hk := h.keep hs hk
  disk h := by obtain ⟨_, _, _, Pd, _, _, _, _, _, _, _, _, hm, _, ho, _⟩ := h; exact ⟨Pd, fun k hk => ho k (.inl hk), hm.dk⟩
  deadLt h := by obtain ⟨_, _, _, _, _, _, hl⟩ := h; exact hl
  deadKeep h hs hk := h.keep hs hk
  deadDisk h := by obtain ⟨_, Pd, _, _, hd, ho, _⟩ := h; exact ⟨Pd, fun k hk => ho k (.inl hk), hd⟩
  begin h := sBegin_of h
  put h hv hn hj := sPut_of h hv hn hj
  getOut h _ ho := sGet_out h ho
  getIn h hn := sGet_in h hn
  endNo h hw := sEndNo_of h hw _
  endUndo h hw := sEndUndo_of h hw
  endKeep h hw := sEndKeep_of h hw
  opens h h64 h768 hU hd hJ := sOpen_of h h64 h768 hU hd hJ
end Go.Proofs.YtkbeencjklgcnaaGreat

/- The landed space: Take. -/
namespace Go.Proofs.YtkbeencjklgcnaaGreat
set_option maxRecDepth 100000
open Go.RowKit BM
set_option linter.unusedVariables false

/-- What Take refuses. -/
def takeNo (b l i j : Int) : Prop := frmB b = false ∨ frmB l = false ∨ b < l ∨ frmO i j = false ∨ i = 0 ∨ i = 65535
theorem spTake_no {b l g i j : Int} (hb : b ≤ 9223372036854775807) (hl : l ≤ 9223372036854775807) (hi : 0 ≤ i ∧ i ≤ 65535) (hj : 0 ≤ j ∧ j ≤ 65535) (hno : takeNo b l i j) (p : Value) (w : World) :
    Calls Tryz.prog 15 #[p, .int .i64 b, .int .i64 l, .int .i64 g, .agg #[.int .u16 i, .int .u16 j]] w fun e w' => e = .returned (.tuple #[.int .i64 0, .int .i64 1]) ∧ Below w.heap.size w w' := by
  have hb1 := below_box w (.cells #[.int .u16 i, .int .u16 j] 32)
  cases h1 : frmB b
  · have K1 := Lib.hid (fun W : World => gFormed_no b hb h1 W)
    clear hno h1
    go_enter Tryz.func15, Tryz.ntmps15
    go_wp2_with (go_at_call 38; refine (K1.out _).mono ?_; rintro e w' ⟨rfl, rfl⟩)
    go_ret2
    exact ⟨rfl, hb1⟩
  · have K1 : Hid (∀ W : World, Calls Tryz.prog 38 #[.int .i64 b] W fun e w' => e = .returned (.bool true) ∧ W = w') := Lib.hid fun W => by rw [← h1]; exact gFormed_any b hb W
    cases h2 : frmB l
    · have K2 := Lib.hid (fun W : World => gFormed_no l hl h2 W)
      clear hno h1 h2
      go_enter Tryz.func15, Tryz.ntmps15
      go_wp2_with (first
        | (go_at_call 38; (with_reducible refine (K1.out _).mono ?_); rintro e w' ⟨rfl, rfl⟩)
        | (go_at_call 38; (with_reducible refine (K2.out _).mono ?_); rintro e w' ⟨rfl, rfl⟩))
      go_ret2
      exact ⟨rfl, hb1⟩
    · have K2 : Hid (∀ W : World, Calls Tryz.prog 38 #[.int .i64 l] W fun e w' => e = .returned (.bool true) ∧ W = w') := Lib.hid fun W => by rw [← h2]; exact gFormed_any l hl W
      by_cases h3 : b < l
      · clear hno h1 h2
        go_enter Tryz.func15, Tryz.ntmps15
        go_wp2_with (first
          | (go_at_call 38; (with_reducible refine (K1.out _).mono ?_); rintro e w' ⟨rfl, rfl⟩)
          | (go_at_call 38; (with_reducible refine (K2.out _).mono ?_); rintro e w' ⟨rfl, rfl⟩))
        go_ret2
        exact ⟨rfl, hb1⟩
      · cases h4 : freeP i j
        · have K3 := Lib.hid (spFree_is i j false h4)
          cases h5 : frmO i j
          · have K4 := Lib.hid (grForm_is i j hi hj false h5)
            have HR := Lib.hid (fun (W : World) (hb : Below (w.alloc (.cells #[.int .u16 i, .int .u16 j] 32)).heap.size (w.alloc (.cells #[.int .u16 i, .int .u16 j] 32)) W) => show W.cell? ⟨w.heap.size, 0, none⟩ = some (.int .u16 i) ∧ W.cell? ⟨w.heap.size, 1, none⟩ = some (.int .u16 j) from ⟨cell_of_row _ _ _ _ _ _ (below_hold (heap_alloc_new w _) hb), cell_of_row _ _ _ _ _ _ (below_hold (heap_alloc_new w _) hb)⟩)
            have HB1 := Lib.hid hb1
            clear hno h1 h2 h4 h5 hb1
            go_enter Tryz.func15, Tryz.ntmps15
            go_wp2_with (first
              | (go_at_call 38; (with_reducible refine (K1.out _).mono ?_); rintro e w' ⟨rfl, rfl⟩)
              | (go_at_call 38; (with_reducible refine (K2.out _).mono ?_); rintro e w' ⟨rfl, rfl⟩)
              | (go_at_call 39; refine (K3.out _).mono ?_; rintro e w2 ⟨rfl, hb2⟩; obtain ⟨c0, c1⟩ := HR.out _ hb2; have hb02 := HB1.out.trans (hb2.mono HB1.out.size))
              | (go_at_call 40; refine (K4.out _).mono ?_; rintro e w3 ⟨rfl, hb3⟩))
            go_ret2
            exact ⟨rfl, hb02.trans (hb3.mono hb02.size)⟩
          · have K4 := Lib.hid (grForm_is i j hi hj true h5)
            obtain rfl : i = 65535 := by
              have e0 : i ≠ 0 := fun e => by subst e; rw [frm_zero h5] at h4; exact absurd h4 (by decide)
              rcases hno with h | h | h | h | h | h
              · rw [h1] at h; cases h
              · rw [h2] at h; cases h
              · exact absurd h h3
              · rw [h5] at h; cases h
              · exact absurd h e0
              · exact h
            have HR := Lib.hid (fun (W : World) (hb : Below (w.alloc (.cells #[.int .u16 65535, .int .u16 j] 32)).heap.size (w.alloc (.cells #[.int .u16 65535, .int .u16 j] 32)) W) => show W.cell? ⟨w.heap.size, 0, none⟩ = some (.int .u16 65535) ∧ W.cell? ⟨w.heap.size, 1, none⟩ = some (.int .u16 j) from ⟨cell_of_row _ _ _ _ _ _ (below_hold (heap_alloc_new w _) hb), cell_of_row _ _ _ _ _ _ (below_hold (heap_alloc_new w _) hb)⟩)
            have HB1 := Lib.hid hb1
            clear hno h1 h2 h4 h5 hb1
            go_enter Tryz.func15, Tryz.ntmps15
            go_wp2_with (first
              | (go_at_call 38; (with_reducible refine (K1.out _).mono ?_); rintro e w' ⟨rfl, rfl⟩)
              | (go_at_call 38; (with_reducible refine (K2.out _).mono ?_); rintro e w' ⟨rfl, rfl⟩)
              | (go_at_call 39; refine (K3.out _).mono ?_; rintro e w2 ⟨rfl, hb2⟩; obtain ⟨c0, c1⟩ := HR.out _ hb2; have hb02 := HB1.out.trans (hb2.mono HB1.out.size))
              | (go_at_call 40; refine (K4.out _).mono ?_; rintro e w3 ⟨rfl, hb3⟩; obtain ⟨c30, c31⟩ := HR.out _ (hb2.trans (hb3.mono hb2.size))))
            go_ret2
            exact ⟨rfl, hb02.trans (hb3.mono hb02.size)⟩
        · have K3 := Lib.hid (spFree_is i j true h4)
          have HB1 := Lib.hid hb1
          clear hno h1 h2 h4 hb1
          go_enter Tryz.func15, Tryz.ntmps15
          go_wp2_with (first
            | (go_at_call 38; (with_reducible refine (K1.out _).mono ?_); rintro e w' ⟨rfl, rfl⟩)
            | (go_at_call 38; (with_reducible refine (K2.out _).mono ?_); rintro e w' ⟨rfl, rfl⟩)
            | (go_at_call 39; refine (K3.out _).mono ?_; rintro e w2 ⟨rfl, hb2⟩))
          go_ret2
          exact ⟨rfl, HB1.out.trans (hb2.mono HB1.out.size)⟩
section
variable {w : World} {P : Nat → Prop} {d p : Value} {X : XSt} {O D : List (Int × Int)} {k : Nat}
/-- What both ways of Take go by. -/
structure TakeK (w : World) (p : Value) (O : List (Int × Int)) (a m : Nat) (g i j : Int) (P : Nat → Prop) : Prop where
  f1 : ∀ W : World, Calls Tryz.prog 38 #[.int .i64 (64 * (a : Int))] W fun e w' => e = .returned (.bool true) ∧ W = w'
  f2 : ∀ W : World, Calls Tryz.prog 38 #[.int .i64 (64 * (m : Int))] W fun e w' => e = .returned (.bool true) ∧ W = w'
  fr : ∀ W : World, Calls Tryz.prog 39 #[.agg #[.int .u16 i, .int .u16 j]] W fun e w' => e = .returned (.bool false) ∧ Below W.heap.size W w'
  fo : ∀ W : World, Calls Tryz.prog 40 #[.agg #[.int .u16 i, .int .u16 j]] W fun e w' => e = .returned (.bool true) ∧ Below W.heap.size W w'
  us : ∀ W : World, Below w.heap.size w W → Calls Tryz.prog 18 #[p, .int .i64 (64 * (a : Int))] W fun e w' => e = .returned (.tuple #[.int .i64 (cntU O (64 * a)), .int .i64 0]) ∧ Below W.heap.size W w'
  op : ∀ W : World, Calls Tryz.prog 41 #[.int .i64 (64 * (m : Int))] W fun e w' => e = .returned (.int .i64 (62 * (m : Int) - 42)) ∧ W = w'
  fi : ∀ W : World, Below w.heap.size w W → Calls Tryz.prog 20 #[p, .int .i64 (64 * (m : Int)), .int .i64 g] W fun e w' => e = .returned (.tuple #[.int .i64 (findS O (64 * m) (goalS (64 * m) g)), .int .i64 0]) ∧ Below W.heap.size W w'
theorem takeK (h : SInv w P d p X) (hH : Has X.cur O k) (hO : OOk O k) {a m : Nat} (hm1 : 1 ≤ m) (hma : m ≤ a) (hak : a ≤ k) (g : Int) {i j : Int} (hi : 0 ≤ i ∧ i ≤ 65535) (hj : 0 ≤ j ∧ j ≤ 65535) (hf : frmO i j = true) (h0 : i ≠ 0) : TakeK w p O a m g i j P := by
  have h12 := hO.k12
  exact ⟨fun W => gFormed_yes a (by omega) (by omega) W, fun W => gFormed_yes m hm1 (by omega) W, spFree_is i j false (by rw [freeP, show (i == 0) = false by simpa using h0]; rfl), grForm_is i j hi hj true hf,
    fun W hb => spUsed_yes (h.low hb) hH hO (by omega) hak, fun W => gOpen_yes m hm1 (by omega) W, fun W hb => spFind_yes (h.low hb) hH hO hm1 (by omega) g⟩
theorem spTake_full (h : SInv w P d p X) (hH : Has X.cur O k) (hO : OOk O k) {a m : Nat} (hm1 : 1 ≤ m) (hma : m ≤ a) (hak : a ≤ k) (g : Int) {i j : Int} (hi : 0 ≤ i ∧ i ≤ 65535) (hj : 0 ≤ j ∧ j ≤ 65535) (hf : frmO i j = true) (h0 : i ≠ 0) (h6 : i ≠ 65535) (hc : 62 * (m : Int) - 42 ≤ cntU O (64 * a)) :
    Calls Tryz.prog 15 #[p, .int .i64 (64 * (a : Int)), .int .i64 (64 * (m : Int)), .int .i64 g, .agg #[.int .u16 i, .int .u16 j]] w fun e w' => e = .returned (.tuple #[.int .i64 0, .int .i64 13]) ∧ Below w.heap.size w w' := by
  have h12 := hO.k12
  have K := Lib.hid (takeK h hH hO hm1 hma hak g hi hj hf h0)
  have HR := Lib.hid (fun (W : World) (hb : Below (w.alloc (.cells #[.int .u16 i, .int .u16 j] 32)).heap.size (w.alloc (.cells #[.int .u16 i, .int .u16 j] 32)) W) => show W.cell? ⟨w.heap.size, 0, none⟩ = some (.int .u16 i) ∧ W.cell? ⟨w.heap.size, 1, none⟩ = some (.int .u16 j) from ⟨cell_of_row _ _ _ _ _ _ (below_hold (heap_alloc_new w _) hb), cell_of_row _ _ _ _ _ _ (below_hold (heap_alloc_new w _) hb)⟩)
  have HB1 := Lib.hid (below_box w (.cells #[.int .u16 i, .int .u16 j] 32))
  have hib : (i == 65535) = false := by simpa using h6
  have hma' : ¬ (64 * (a : Int) < 64 * (m : Int)) := by omega
  obtain ⟨U, hU⟩ : ∃ U, U = cntU O (64 * a) := ⟨_, rfl⟩
  have KU : Hid (∀ W : World, Below w.heap.size w W → Calls Tryz.prog 18 #[p, .int .i64 (64 * (a : Int))] W fun e w' => e = .returned (.tuple #[.int .i64 U, .int .i64 0]) ∧ Below W.heap.size W w') := Lib.hid (by rw [hU]; exact K.out.us)
  rw [← hU] at hc
  clear h hH hO hi hj hf h0 h6 hU hm1 hak h12
  go_enter Tryz.func15, Tryz.ntmps15
  go_wp2_with (first
    | (go_at_call 38; (with_reducible refine (K.out.f1 _).mono ?_); rintro e w' ⟨rfl, rfl⟩)
    | (go_at_call 38; (with_reducible refine (K.out.f2 _).mono ?_); rintro e w' ⟨rfl, rfl⟩)
    | (go_at_call 39; refine (K.out.fr _).mono ?_; rintro e w2 ⟨rfl, hb2⟩; obtain ⟨c0, c1⟩ := HR.out _ hb2; have hb02 := HB1.out.trans (hb2.mono HB1.out.size))
    | (go_at_call 40; refine (K.out.fo _).mono ?_; rintro e w3 ⟨rfl, hb3⟩; obtain ⟨c30, c31⟩ := HR.out _ (hb2.trans (hb3.mono hb2.size)); have hb03 := hb02.trans (hb3.mono hb02.size))
    | (go_at_call 18; refine (KU.out _ hb03).mono ?_; rintro e w4 ⟨rfl, hb4⟩; have hb04 := hb03.trans (hb4.mono hb03.size))
    | (go_at_call 41; refine (K.out.op _).mono ?_; rintro e w' ⟨rfl, rfl⟩))
  go_ret2
  exact ⟨rfl, hb04⟩
end
end Go.Proofs.YtkbeencjklgcnaaGreat

/- The landed space: Take, where there is room. -/
namespace Go.Proofs.YtkbeencjklgcnaaGreat
set_option maxRecDepth 100000
open Go.RowKit BM
set_option linter.unusedVariables false

section
variable {w : World} {P : Nat → Prop} {d p : Value} {X : XSt} {O D : List (Int × Int)} {k : Nat}
theorem spTake_yes (h : SInv w P d p X) (hw : X.wi = true) (hp0 : X.put = []) (hH : Has X.call O k) (hO : OOk O k) {a m : Nat} (hm1 : 1 ≤ m) (hma : m ≤ a) (hak : a ≤ k) (g : Int) {i j : Int} (hi : 0 ≤ i ∧ i ≤ 65535) (hj : 0 ≤ j ∧ j ≤ 65535) (hf : frmO i j = true) (h0 : i ≠ 0) (h6 : i ≠ 65535) {f : Nat}
    (hc : (cntU O (64 * a) : Int) < 62 * (m : Int) - 42) (hfm : f < 64 * m) (hfs : findS O (64 * m) (goalS (64 * m) g) = f) (hfx : fixB (f : Int) = false) :
    Calls Tryz.prog 15 #[p, .int .i64 (64 * (a : Int)), .int .i64 (64 * (m : Int)), .int .i64 g, .agg #[.int .u16 i, .int .u16 j]] w fun e w' => e = .returned (.tuple #[.int .i64 f, .int .i64 0]) ∧ ∃ P', SInv w' P' d p (putX X (f / 64) (grO (O.set f (i, j)) (f / 64))) ∧ Chg P P' w w' := by
  have h12 := hO.k12
  have hcur : X.cur = X.call := by unfold XSt.cur; rw [if_pos hw]
  have hH' : Has X.cur O k := by rw [hcur]; exact hH
  have K := Lib.hid (takeK h hH' hO hm1 hma hak g hi hj hf h0)
  have HR := Lib.hid (fun (W : World) (hb : Below (w.alloc (.cells #[.int .u16 i, .int .u16 j] 32)).heap.size (w.alloc (.cells #[.int .u16 i, .int .u16 j] 32)) W) => show W.cell? ⟨w.heap.size, 0, none⟩ = some (.int .u16 i) ∧ W.cell? ⟨w.heap.size, 1, none⟩ = some (.int .u16 j) from ⟨cell_of_row _ _ _ _ _ _ (below_hold (heap_alloc_new w _) hb), cell_of_row _ _ _ _ _ _ (below_hold (heap_alloc_new w _) hb)⟩)
  have HB1 := Lib.hid (below_box w (.cells #[.int .u16 i, .int .u16 j] 32))
  have hib : (i == 65535) = false := by simpa using h6
  have hma' : ¬ (64 * (a : Int) < 64 * (m : Int)) := by omega
  obtain ⟨U, hU⟩ : ∃ U, U = cntU O (64 * a) := ⟨_, rfl⟩
  have KU : Hid (∀ W : World, Below w.heap.size w W → Calls Tryz.prog 18 #[p, .int .i64 (64 * (a : Int))] W fun e w' => e = .returned (.tuple #[.int .i64 U, .int .i64 0]) ∧ Below W.heap.size W w') := Lib.hid (by rw [hU]; exact K.out.us)
  have KFi : Hid (∀ W : World, Below w.heap.size w W → Calls Tryz.prog 20 #[p, .int .i64 (64 * (m : Int)), .int .i64 g] W fun e w' => e = .returned (.tuple #[.int .i64 f, .int .i64 0]) ∧ Below W.heap.size W w') := Lib.hid (by rw [← hfs]; exact K.out.fi)
  have KS : Hid (∀ W : World, Below w.heap.size w W → Calls Tryz.prog 22 #[p, .int .i64 f, .agg #[.int .u16 i, .int .u16 j]] W fun e w' => e = .returned (.int .i64 0) ∧ ∃ P', SInv w' P' d p (putX X (f / 64) (grO (O.set f (i, j)) (f / 64))) ∧ Chg P P' W w') := Lib.hid fun W hb => spSet_yes (h.low hb) hw hp0 hH hO (by omega) hfx hi hj hf h6
  rw [← hU] at hc
  have hc' : ¬ (62 * (m : Int) - 42 ≤ (U : Int)) := by omega
  clear h hw hp0 hH hH' hcur hO hi hj hf h0 h6 hU hm1 hak h12 hfm hfs hfx
  go_enter Tryz.func15, Tryz.ntmps15
  go_wp2_with (first
    | (go_at_call 38; (with_reducible refine (K.out.f1 _).mono ?_); rintro e w' ⟨rfl, rfl⟩)
    | (go_at_call 38; (with_reducible refine (K.out.f2 _).mono ?_); rintro e w' ⟨rfl, rfl⟩)
    | (go_at_call 39; refine (K.out.fr _).mono ?_; rintro e w2 ⟨rfl, hb2⟩; obtain ⟨c0, c1⟩ := HR.out _ hb2; have hb02 := HB1.out.trans (hb2.mono HB1.out.size))
    | (go_at_call 40; refine (K.out.fo _).mono ?_; rintro e w3 ⟨rfl, hb3⟩; have hb13 := hb2.trans (hb3.mono hb2.size); obtain ⟨c30, c31⟩ := HR.out _ hb13; have hb03 := hb02.trans (hb3.mono hb02.size))
    | (go_at_call 18; refine (KU.out _ hb03).mono ?_; rintro e w4 ⟨rfl, hb4⟩; have hb14 := hb13.trans (hb4.mono hb13.size); have hb04 := hb03.trans (hb4.mono hb03.size))
    | (go_at_call 41; refine (K.out.op _).mono ?_; rintro e w' ⟨rfl, rfl⟩)
    | (go_at_call 20; refine (KFi.out _ hb04).mono ?_; rintro e w5 ⟨rfl, hb5⟩; have hb15 := hb14.trans (hb5.mono hb14.size); obtain ⟨c50, c51⟩ := HR.out _ hb15; have hb05 := hb04.trans (hb5.mono hb04.size))
    | (go_at_call 22; refine (KS.out _ hb05).mono ?_; rintro e w6 ⟨rfl, P6, hi6, hc6⟩))
  go_ret2
  exact ⟨rfl, P6, hi6, (Chg.of_below hb05).trans hc6⟩
end
end Go.Proofs.YtkbeencjklgcnaaGreat

/- The law's Laid: a new file system on a disk, and a store on it. -/
namespace Go.Proofs.YtkbeencjklgcnaaGreat
set_option maxRecDepth 100000
open Go.RowKit
set_option linter.unusedVariables false

/-- The disk's blocks, the first k being damaged. -/
def dmg (G : List (List Int)) (n : Nat) : Nat → List (List Int)
  | 0 => List.replicate n zb
  | k + 1 => if (G.getD k []).length = 256 then (dmg G n k).set k (G.getD k []) else dmg G n k
theorem dmg_length (G : List (List Int)) (n : Nat) : ∀ k, (dmg G n k).length = n
  | 0 => List.length_replicate
  | k + 1 => by unfold dmg; split; · rw [List.length_set]; exact dmg_length G n k
                · exact dmg_length G n k
theorem dmg_get (G : List (List Int)) (n : Nat) : ∀ k i, i < n → k ≤ n → (dmg G n k).getD i [] = if i < k ∧ (G.getD i []).length = 256 then G.getD i [] else zb
  | 0, i, hi, _ => by rw [if_neg (by omega)]; unfold dmg; rw [List.getD_eq_getElem?_getD, List.getElem?_replicate, if_pos hi]; rfl
  | k + 1, i, hi, hk => by
    have ih := dmg_get G n k i hi (by omega)
    have hl := dmg_length G n k
    unfold dmg
    by_cases h : (G.getD k []).length = 256
    · rw [if_pos h, BM.getD_set _ _ _ _ _ (by omega), ih]
      by_cases e : i = k
      · rw [if_pos e, e, if_pos ⟨by omega, h⟩]
      · rw [if_neg e]
        by_cases hc : i < k ∧ (G.getD i []).length = 256
        · rw [if_pos hc, if_pos ⟨by omega, hc.2⟩]
        · rw [if_neg hc, if_neg (fun h2 => hc ⟨by omega, h2.2⟩)]
    · rw [if_neg h, ih]
      by_cases hc : i < k ∧ (G.getD i []).length = 256
      · rw [if_pos hc, if_pos ⟨by omega, hc.2⟩]
      · rw [if_neg hc, if_neg (fun h2 => ?_)]
        by_cases e : i = k
        · rw [e] at h2; exact h h2.2
        · exact hc ⟨by omega, h2.2⟩
theorem descS_len (g : Int) (L : List Bool) (h : L.length = 64) : (descS g L).length = 256 := by rw [descS]; exact sealS_length _ (by rw [descC_length _ _ h]; decide)
theorem dmg_has {G : List (List Int)} {O : List (Int × Int)} {kk : Nat} (h : P2 G O kk kk) (hO : O.length = 64 * kk) : Has (dmg G (64 * kk) (64 * kk)) O kk := by
  refine ⟨dmg_length _ _ _, fun g hg => ?_, fun g hg => ?_⟩
  · have hin := dscN_in hg
    have h1 := (h.ds g hg).1
    rw [dmg_get _ _ _ _ (by omega) (Nat.le_refl _), if_pos ⟨by omega, by rw [h1]; exact descS_len _ _ (usedK_length _ _)⟩, h1]
  · have hin := dscN_in hg
    have h1 := (h.ds g hg).2
    rw [dmg_get _ _ _ _ (by omega) (Nat.le_refl _), if_pos ⟨by omega, by rw [h1]; exact pageS_length (grO_length hO hg)⟩, h1]
theorem dmg_Jst {G : List (List Int)} {O : List (Int × Int)} {kk : Nat} (h : P2 G O kk kk) (h1 : 1 ≤ kk) : Jst (64 * kk) (dmg G (64 * kk) (64 * kk)) (dmg G (64 * kk) (64 * kk)) := by
  refine ⟨dmg_length _ _ _, dmg_length _ _ _, .inr ⟨rfl, ?_, fun _ _ _ => rfl⟩⟩
  rw [dmg_get _ _ _ _ (by omega) (Nat.le_refl _), h.jr 42 (by decide) (by decide)]
  split <;> rfl
theorem BBa.cellAt {w : World} {P : Nat → Prop} {g n cap k : Nat} {L : List (List Int)} (h : BBa w P (.slice (some ⟨g, 0, none⟩) n cap) L) (hk : k < L.length) : ∃ u, w.cell? ⟨g, k, none⟩ = some u ∧ BSl w u (L.getD k []) := by
  rcases h with ⟨e, _⟩ | ⟨a, cap', e, _, hc⟩
  · cases e
  · injection e with e1 _ _
    injection e1 with e1
    subst e1
    obtain ⟨_, _, u, h3, h4, _⟩ := hc k hk
    exact ⟨u, by simpa using h3, h4⟩
theorem laid12_is {kk : Nat} (h1 : 1 ≤ kk) (h2 : kk ≤ 12) (w : World) : Calls Tryz.prog 9 #[.int .i64 (64 * (kk : Int)), .int .i64 (64 * (kk : Int))] w fun e w' => ∃ b P d G ds, e = .returned (.pointer (some ⟨b, 0, none⟩)) ∧ SInv w' P d (.pointer (some ⟨b, 0, none⟩)) ⟨G, G, [], [], false, 0, ds⟩ ∧ ds.fu = false ∧ Has G (newO kk) kk ∧ (∀ x, P x → w.heap.size ≤ x) ∧ Below w.heap.size w w' := by
  have KN := Lib.hid (fun (W : World) => kNew W (64 * kk) (by omega))
  rw [show ((64 * kk : Nat) : Int) = 64 * (kk : Int) by omega] at KN
  have KFr := Lib.hid (fun (W : World) => rFresh_is h1 h2 W)
  go_enter Tryz.func9, Tryz.ntmps9
  go_wp2_with (first
    | (go_at_call 24; refine (KN.out _).mono ?_; rintro e w1 ⟨d, P, rfl, hd1, hP1, hb1⟩)
    | (go_at_call 25; refine (KFr.out _).mono ?_; rintro e w2 ⟨v, G, rfl, hG, hP2, hb2⟩; have hd2 := hd1.below hb2; have hbba := hG.apart hd2; obtain ⟨gv, cv, ev, _, _⟩ := BB2.shape0 hG.bb2 (by rw [hP2.len]; omega); rw [hP2.len] at ev; subst ev))
  have HD0 : Hid (Dk w2 P d ⟨dmg G (64 * kk) 0, [], false, 0, false⟩) := Lib.hid hd2
  have HC0 : Hid (Chg P P w2 w2) := Lib.hid (Chg.refl _ _)
  have HBA := Lib.hid hbba
  have HP2 := Lib.hid hP2
  have HPW := Lib.hid hP1
  have HB2 : Hid (Below w.heap.size w w2) := Lib.hid (hb1.trans (hb2.mono hb1.size))
  clear hd1 hP1 hb1 hG hP2 hb2 hd2 hbba KN KFr
  go_loopw [17] (fun i WI => ∃ k : Nat, k ≤ 64 * kk ∧ i = .int .i64 k ∧ Hid (Dk WI P d ⟨dmg G (64 * kk) k, [], false, 0, false⟩) ∧ Hid (Chg P P w2 WI)) (fun i _ => 64 * kk - (intOf i).toNat)
  case atStart => exact ⟨0, by omega, rfl, HD0, HC0⟩
  case round =>
    obtain ⟨k, hk, rfl, HD, HC⟩ := hrel
    clear HD0 HC0
    by_cases hlt : k < 64 * kk
    · have ekt : (k : Int) < 64 * (kk : Int) := by omega
      obtain ⟨u, hu, hs⟩ := (HBA.out.chg HC.out).cellAt (k := k) (by rw [HP2.out.len]; exact hlt)
      have KD := Lib.hid (kDamage HD.out rfl (n := k) (by show k < (dmg G (64 * kk) k).length; rw [dmg_length]; exact hlt) hs)
      clear hs
      go_wp2_with (go_at_call 26; refine KD.out.mono ?_; rintro e w3 ⟨⟨x, rfl⟩, hd3, hc3⟩)
      have HD3 : Hid (Dk w3 P d ⟨dmg G (64 * kk) (k + 1), [], false, 0, false⟩) := Lib.hid hd3
      have HC3 := Lib.hid (HC.out.trans hc3)
      clear hd3 hc3
      go_roundw
      case rel => exact ⟨k + 1, by omega, by go_num, HD3, HC3⟩
      case measure => simp [intOf]; omega
    · obtain rfl : k = 64 * kk := by omega
      have KO := Lib.hid (sOpen_of HD.out (n := 64 * kk) (G := dmg G (64 * kk) (64 * kk)) (by omega) (by omega) rfl rfl (dmg_Jst HP2.out h1))
      have hdl := HD.out.lt
      go_wp2_with (go_at_call 27; refine KO.out.mono ?_; rintro e w4 (⟨p, ds', P4, rfl, hfu, hI, hc4⟩ | ⟨hf, _⟩); rotate_left; exact absurd hf (by decide); obtain ⟨bb, rfl⟩ := landed.ptr hI)
      go_ret
      refine ⟨bb, P4, d, _, ds', rfl, hI, hfu, dmg_has HP2.out (tabN_length _ _), fun x hx => ?_, ?_⟩
      · rcases chg_new hc4 hx with h | h
        · exact HPW.out x h
        · have h3 := HB2.out.size
          have h4 := HC.out.size
          omega
      · have hw2 := HB2.out.size
        have b1 : Below w.heap.size w2 wr := HC.out.below fun x hx => ⟨by omega, fun hp => by have := HPW.out x hp; omega⟩
        have hw3 := HC.out.size
        have b2 : Below w.heap.size wr w4 := hc4.below fun x hx => ⟨by omega, fun hp => by have := HPW.out x hp; omega⟩
        exact (HB2.out.trans b1).trans b2
end Go.Proofs.YtkbeencjklgcnaaGreat

/- The law's awake. -/
namespace Go.Proofs.YtkbeencjklgcnaaGreat
set_option maxRecDepth 100000
open Go.RowKit
set_option linter.unusedVariables false

theorem cnt_new1 : cntU (newO 1) 64 = 6 := by decide +kernel
theorem awake12_any (w : World) : Calls Tryz.prog 7 #[] w fun e w' => e = .returned (.bool true) ∧ Below w.heap.size w w' := by
  have KL := Lib.hid (laid12_is (kk := 1) (by decide) (by decide) w)
  rw [show (64 * ((1 : Nat) : Int)) = 64 from rfl] at KL
  have KU : Hid (∀ (W : World) (b : Nat) (P : Nat → Prop) (d : Value) (G : List (List Int)) (ds : DS), SInv W P d (.pointer (some ⟨b, 0, none⟩)) ⟨G, G, [], [], false, 0, ds⟩ → Has G (newO 1) 1 → Calls Tryz.prog 18 #[.pointer (some ⟨b, 0, none⟩), .int .i64 64] W fun e w' => e = .returned (.tuple #[.int .i64 6, .int .i64 0]) ∧ Below W.heap.size W w') := Lib.hid fun W b P d G ds hI hH => by
    have := spUsed_yes hI (k := 1) (show Has (XSt.cur ⟨G, G, [], [], false, 0, ds⟩) (newO 1) 1 from hH) (newO_ok (by decide) (by decide)) (m := 1) (by decide) (by decide)
    rw [show 64 * 1 = 64 from rfl, cnt_new1] at this
    exact this
  go_enter Tryz.func7, Tryz.ntmps7
  go_wp2_with (first
    | (go_at_call 9; refine KL.out.mono ?_; rintro e w1 ⟨b, P, d, G, ds, rfl, hI, _, hH, _, hb1⟩)
    | (go_at_call 18; refine (KU.out _ _ _ _ _ _ hI hH).mono ?_; rintro e w2 ⟨rfl, hb2⟩))
  go_ret
  exact ⟨rfl, hb1.trans (hb2.mono hb1.size)⟩
end Go.Proofs.YtkbeencjklgcnaaGreat
