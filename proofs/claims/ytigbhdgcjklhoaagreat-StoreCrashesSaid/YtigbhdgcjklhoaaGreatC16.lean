/- The landed store pays the bundle: End, Sync. -/
import Derived.Deep.Slices
import Derived.Deep.Fields
import Derived.ProofKit
import Derived.OpenShut
import Derived.Deep.RegionHeld3
import Derived.Test.YtigbhdgcjklhoaaGreatC11
import Derived.Test.YtigbhdgcjklhoaaGreatC12
import Derived.Test.YtigbhdgcjklhoaaGreatC13
import Derived.Test.YtigbhdgcjklhoaaGreatC15
namespace Go.Proofs.YtigbhdgcjklhoaaGreat
set_option maxRecDepth 100000
open Go.RowKit
set_option linter.unusedVariables false

section
variable {X : XSt} {ek : List Int} {ev : Int → List Int} {pk : List Int} {pv : Int → List Int}
theorem SPl.base (h : SPl X ek ev pk pv) : X.base.length = X.is.length := h.ok.lst.glen
theorem SPl.undo (h : SPl X ek ev pk pv) (pv' : Int → List Int) : SPl { X with wi := false } ek ev [] pv' :=
  { h with ok := { h.ok with call := fun e => Bool.noConfusion (show false = true from e) }, kp := fun x hx => absurd hx List.not_mem_nil, pl := Nat.zero_le _, wi0 := fun _ => rfl, wi1 := fun e => Bool.noConfusion (show false = true from e) }
/-- What is by the present call, out of what is durable. -/
theorem SPl.merged (h : SPl X ek ev pk pv) (hw : X.wi = true) (i : Nat) (ho : OutJ i) (hi : i < X.is.length) : X.call.getD i [] = if (i : Int) ∈ uniN ek pk then pickG pk pv ev i else X.base.getD i [] := by
  obtain ⟨_, _, h2⟩ := h.wi1 hw
  rw [h2 i ho hi, h.isx i ho hi]
  unfold pickG
  by_cases hp : (i : Int) ∈ pk
  · rw [if_pos hp, if_pos (mem_uniN.2 (.inr hp)), if_pos hp]
  · rw [if_neg hp]
    by_cases he : (i : Int) ∈ ek
    · rw [if_pos he, if_pos (mem_uniN.2 (.inl he)), if_neg hp]
    · rw [if_neg he, if_neg fun e => (mem_uniN.1 e).elim he hp]
theorem SPl.small (h : SPl X ek ev pk pv) (hw : X.wi = true) (hu : (uniN ek pk).length ≤ 37) (pv' : Int → List Int) : SPl { X with base := X.base, is := X.call, wi := false, dt := (uniN ek pk).length, ds := X.ds } (uniN ek pk) (pickG pk pv ev) [] pv' := by
  obtain ⟨_, hcl, _⟩ := h.wi1 hw
  have hcl' : X.call.length = X.is.length := hcl
  refine ⟨⟨?_, h.ok.pow, h.ok.un, fun e => Bool.noConfusion (show false = true from e), hu⟩, ?_, h.u0, ?_, fun x hx => absurd hx List.not_mem_nil, hu, Nat.zero_le _, rfl, ?_, fun _ => rfl, fun e => Bool.noConfusion (show false = true from e)⟩
  · show Lst X.call.length X.ds X.base
    rw [hcl']; exact h.ok.lst
  · show 64 ≤ X.call.length ∧ X.call.length ≤ 768
    rw [hcl']; exact h.n64
  · intro x hx
    show inK X.call.length x
    rw [hcl']
    exact (mem_uniN.1 hx).elim (h.ki x) (h.kp x)
  · intro i ho hi
    have hi' : i < X.call.length := hi
    exact h.merged hw i ho (by omega)
theorem uni_nil (pk : List Int) : uniN [] pk = pk := by
  unfold uniN
  rw [List.nil_append, List.filter_eq_self]
  intro x _
  simp
theorem SPl.great (h : SPl X ek ev pk pv) (hw : X.wi = true) {ds' : DS} (hl : Lst X.is.length ds' X.is) (hd : ds'.dn = false) (hU : ds'.U = []) (pv' : Int → List Int) : SPl { X with base := X.is, is := X.call, wi := false, dt := (uniN [] pk).length, ds := ds' } (uniN [] pk) (pickG pk pv ev) [] pv' := by
  obtain ⟨_, hcl, hcv⟩ := h.wi1 hw
  have hcl' : X.call.length = X.is.length := hcl
  have hpl : (uniN [] pk).length ≤ 37 := by rw [uni_nil]; exact h.pl
  refine ⟨⟨?_, hd, by show ds'.U.length ≤ 1000; rw [hU]; exact Nat.zero_le _, fun e => Bool.noConfusion (show false = true from e), hpl⟩, ?_, hU, ?_, fun x hx => absurd hx List.not_mem_nil, hpl, Nat.zero_le _, rfl, ?_, fun _ => rfl, fun e => Bool.noConfusion (show false = true from e)⟩
  · show Lst X.call.length ds' X.is
    rw [hcl']; exact hl
  · show 64 ≤ X.call.length ∧ X.call.length ≤ 768
    rw [hcl']; exact h.n64
  · intro x hx
    show inK X.call.length x
    rw [hcl']
    rw [uni_nil] at hx
    exact h.kp x hx
  · intro i ho hi
    have hi' : i < X.call.length := hi
    show X.call.getD i [] = if (i : Int) ∈ uniN [] pk then pickG pk pv ev i else X.is.getD i []
    rw [uni_nil, hcv i ho (by omega)]
    by_cases hp : (i : Int) ∈ pk
    · rw [if_pos hp, if_pos hp]; unfold pickG; rw [if_pos hp]
    · rw [if_neg hp, if_neg hp]
theorem SPl.synced (h : SPl X ek ev pk pv) (hw : X.wi = false) {ds' : DS} (hl : Lst X.is.length ds' X.is) (hd : ds'.dn = false) (hU : ds'.U = []) : SPl { X with base := X.is, dt := 0, ds := ds' } [] ev pk pv := by
  refine ⟨⟨hl, hd, by show ds'.U.length ≤ 1000; rw [hU]; exact Nat.zero_le _, h.ok.call, Nat.zero_le _⟩, h.n64, hU, fun x hx => absurd hx List.not_mem_nil, h.kp, Nat.zero_le _, h.pl, rfl, fun i _ _ => ?_, h.wi0, fun e => ?_⟩
  · rw [if_neg List.not_mem_nil]
  · exact absurd (hw.symm.trans e) (by decide)
/-- What the disk takes; what settle makes of it. -/
theorem SPl.okT (h : SPl X ek ev pk pv) (hn : ek.Nodup) (hv : ∀ x ∈ ek, (ev x).length = 256) : okT X.is.length (sortN ek) ((sortN ek).map ev) := set_ok hn h.el h.ki h.n64.2 hv
theorem SPl.set (h : SPl X ek ev pk pv) (hn : ek.Nodup) (hv : ∀ x ∈ ek, (ev x).length = 256) {q : Int} (hq : 0 ≤ q ∧ q < 4294967296) :
    let r := runA (setA q (sortN ek) ((sortN ek).map ev)) X.ds
    (r.1 = 0 → r.2.dn = false ∧ r.2.U = [] ∧ Lst X.is.length r.2 X.is) ∧ (r.1 = 2 → X.ds.fu = true ∧ DeadOk X.is.length r.2 [X.base, X.is]) := by
  intro r
  have hT := h.okT hn hv
  obtain ⟨h1, h2⟩ := set_plain h.ok.lst (by have := h.n64.1; omega) h.u0 h.ok.pow hT hq
  have hE := set_is (B := X.base) (I := X.is) h.ki h.base rfl h.isx
  refine ⟨fun h0 => ?_, fun h0 => ?_⟩
  · obtain ⟨a, b, c⟩ := h1 h0
    exact ⟨a, b, c.toO hE⟩
  · obtain ⟨a, b, c, e⟩ := h2 h0
    refine ⟨a, b, c, fun kp => ?_⟩
    obtain ⟨G, hG, hJ⟩ := e kp
    simp only [List.mem_cons, List.not_mem_nil, or_false] at hG
    rcases hG with rfl | rfl
    · exact ⟨_, by simp, hJ⟩
    · exact ⟨X.is, by simp, hJ.toO hE⟩
end
section
variable {w : World} {P : Nat → Prop} {d p : Value} {X : XSt}
theorem sEndNo_of (h : SInv w P d p X) (hw : X.wi = false) (k : Bool) : Calls Tryz.prog 22 #[p, .bool k] w (XOut SInv w P d p (17, X)) := by
  have h' := h
  obtain ⟨b, be, bp, Pd, q, ek, eg, ev, pk, pg, pv, rfl, hm, hpl, ho, hl⟩ := h
  rw [hw] at hm
  exact (sEnd_no hm k).mono fun e w' ⟨he, hww⟩ => by subst hww; exact ⟨he, P, h', Chg.refl _ _⟩
theorem sSyncNo_of (h : SInv w P d p X) (hw : X.wi = true) : Calls Tryz.prog 24 #[p] w (XOut SInv w P d p (17, X)) := by
  have h' := h
  obtain ⟨b, be, bp, Pd, q, ek, eg, ev, pk, pg, pv, rfl, hm, hpl, ho, hl⟩ := h
  rw [hw] at hm
  exact (sSync_no hm).mono fun e w' ⟨he, hww⟩ => by subst hww; exact ⟨he, P, h', Chg.refl _ _⟩
theorem sEndUndo_of (h : SInv w P d p X) (hw : X.wi = true) : Calls Tryz.prog 22 #[p, .bool false] w (XOut SInv w P d p (0, { X with wi := false })) := by
  obtain ⟨b, be, bp, Pd, q, ek, eg, ev, pk, pg, pv, rfl, hm, hpl, ho, hl⟩ := h
  rw [hw] at hm
  refine (sEnd_undo hm).mono ?_
  rintro e w' ⟨rfl, rfl⟩
  obtain ⟨hm', hsz, hext⟩ := hm.cleared pg pv
  refine ⟨rfl, _, sinv_of hm' (hpl.undo pv) hl hext.size ?_, (hext.sub fun k e => ho k (.inr (.inl e))).chg⟩
  intro k hk
  rcases hk with hk | rfl | rfl | rfl | ⟨x, hx, hg⟩ | ⟨x, hx, _⟩
  · exact .inl (ho k (.inl hk))
  · exact .inl (ho _ (.inr (.inl rfl)))
  · exact .inl (ho _ (.inr (.inr (.inl rfl))))
  · exact .inr (Nat.le_refl _)
  · exact .inl (ho k (.inr (.inr (.inr (.inr (.inl ⟨x, hx, hg⟩))))))
  · exact absurd hx List.not_mem_nil
/-- The blocks' slices behind a copy are ones that were there. -/
theorem own_pick {ek pk : List Int} {eg pg : Int → Value} {x : Int} {k : Nat} (hx : x ∈ uniN ek pk) (hg : (pickG pk pg eg x).ownBlock = some k) : (∃ y, y ∈ ek ∧ (eg y).ownBlock = some k) ∨ ∃ y, y ∈ pk ∧ (pg y).ownBlock = some k := by
  unfold pickG at hg
  by_cases hp : x ∈ pk
  · rw [if_pos hp] at hg; exact .inr ⟨x, hp, hg⟩
  · rw [if_neg hp] at hg; exact .inl ⟨x, (mem_uniN.1 hx).resolve_right hp, hg⟩
theorem sEndKeep_of (h : SInv w P d p X) (hw : X.wi = true) : Calls Tryz.prog 22 #[p, .bool true] w fun e w' =>
    (∃ B dt ds', (B = X.base ∨ B = X.is ∨ B = X.call) ∧ ds'.fu = X.ds.fu ∧ XOut SInv w P d p (0, { X with base := B, is := X.call, wi := false, dt := dt, ds := ds' }) e w') ∨ XDead SDead w P d p X [X.base, X.is, X.call] e w' := by
  obtain ⟨b, be, bp, Pd, q, ek, eg, ev, pk, pg, pv, rfl, hm, hpl, ho, hl⟩ := h
  rw [hw] at hm
  have hv : ∀ x ∈ ek, (ev x).length = 256 := fun x hx => (hm.re x hx).2
  by_cases hu : (uniN ek pk).length ≤ 37
  · refine (sEnd_keep (Q := fun w1 => SMem w1 Pd b be bp d q (uniN ek pk) (pickG pk pg eg) (pickG pk pv ev) pk pg pv true X.ds ∧ Ext (fun k => k = be) w w1) hm ((sJoin_small hm hpl.el hpl.pl hu).mono fun e w1 ⟨he, h1, hx⟩ => ⟨he, ⟨h1, hx⟩, _, _, _, _, _, _, _, h1⟩)).mono ?_
    rintro e w' ⟨rfl, w1, ⟨hm1, hx1⟩, rfl⟩
    obtain ⟨hm', hsz, hext⟩ := hm1.cleared pg pv
    have hE : Ext (fun k => k = be ∨ k = b) w _ := (hx1.sub fun k e => .inl e).trans (P2 := fun k => k = b) hext fun k _ e => .inr e
    refine .inl ⟨X.base, (uniN ek pk).length, X.ds, .inl rfl, rfl, rfl, _, sinv_of hm' (hpl.small hw hu pv) hl hE.size ?_, (hE.sub fun k e => e.elim (fun e => ho k (.inr (.inr (.inl e)))) fun e => ho k (.inr (.inl e))).chg⟩
    intro k hk
    rcases hk with hk | rfl | rfl | rfl | ⟨x, hx, hg⟩ | ⟨x, hx, _⟩
    · exact .inl (ho k (.inl hk))
    · exact .inl (ho _ (.inr (.inl rfl)))
    · exact .inl (ho _ (.inr (.inr (.inl rfl))))
    · exact .inr hx1.size
    · exact .inl (ho k (.inr (.inr (.inr (.inr (own_pick hx hg))))))
    · exact absurd hx List.not_mem_nil
  · have hT := hpl.okT hm.me.nodup hv
    obtain ⟨s1, s2⟩ := hpl.set hm.me.nodup hv hm.q0
    have hB : takesT X.ds.F.length (sortN ek) ((sortN ek).map ev) = true := by rw [hpl.ok.lst.1]; exact hT.takes hpl.n64.1
    have KJ := sJoin_great hm hpl.el hpl.pl (by omega) hB (by rw [hpl.u0]; exact Nat.zero_le _)
    have hfu := runA_fu (setA q (sortN ek) ((sortN ek).map ev)) X.ds
    have hr := runA_two (setA q (sortN ek) ((sortN ek).map ev)) X.ds
    generalize runA (setA q (sortN ek) ((sortN ek).map ev)) X.ds = r at s1 s2 KJ hfu hr
    obtain ⟨r, s'⟩ := r
    rcases hr with h0 | h0
    · simp only at h0
      subst h0
      obtain ⟨g1, g2, g3⟩ := s1 rfl
      refine (sEnd_keep (Q := fun w1 => ∃ be' Pd' q', SMem w1 Pd' b be' bp d q' (uniN [] pk) (pickG pk pg eg) (pickG pk pv ev) pk pg pv true s' ∧ (w.heap.size ≤ be' ∧ be' < w1.heap.size) ∧ (∀ k, Pd' k → Pd k ∨ w.heap.size ≤ k) ∧ Ext (fun k => Pd k ∨ k = b) w w1) hm (KJ.mono fun e w1 hq => by
        rcases hq with ⟨_, he, hx⟩ | ⟨h2, _⟩
        · obtain ⟨be', Pd', q', h1, r⟩ := hx
          exact ⟨he, ⟨be', Pd', q', h1, r⟩, _, _, _, _, _, _, _, h1⟩
        · exact absurd (show (0 : Int) = 2 from h2) (by decide))).mono ?_
      rintro e w' ⟨rfl, w1, ⟨be', Pd', q', hm1, hbe, hpd, hx1⟩, rfl⟩
      obtain ⟨hm', hsz, hext⟩ := hm1.cleared pg pv
      have hE : Ext (fun k => Pd k ∨ k = b) w _ := hx1.trans (P2 := fun k => k = b) hext fun k _ e => .inr e
      refine .inl ⟨X.is, (uniN [] pk).length, s', .inr (.inl rfl), hfu, rfl, _, sinv_of hm' (hpl.great hw g3 g1 g2 pv) hl hE.size ?_, (hE.sub fun k e => e.elim (fun e => ho k (.inl e)) fun e => ho k (.inr (.inl e))).chg⟩
      intro k hk
      rcases hk with hk | rfl | rfl | rfl | ⟨x, hx, hg⟩ | ⟨x, hx, _⟩
      · exact (hpd k hk).imp (fun e => ho k (.inl e)) id
      · exact .inl (ho _ (.inr (.inl rfl)))
      · exact .inr hbe.1
      · exact .inr hx1.size
      · rw [uni_nil] at hx
        unfold pickG at hg
        rw [if_pos hx] at hg
        exact .inl (ho k (.inr (.inr (.inr (.inr (.inr ⟨x, hx, hg⟩))))))
      · exact absurd hx List.not_mem_nil
    · simp only at h0
      subst h0
      obtain ⟨g1, g2⟩ := s2 rfl
      refine (sEnd_dead (Q := fun w1 => ∃ Pd', w1.heap[b]? = some deadRow ∧ Dk w1 Pd' d s' ∧ (∀ k, Pd' k → Pd k ∨ w.heap.size ≤ k) ∧ Ext (fun k => Pd k ∨ k = b) w w1) hm (KJ.mono fun e w1 hq => by
        rcases hq with ⟨h2, _⟩ | ⟨_, he, hx⟩
        · exact absurd (show (2 : Int) = 0 from h2) (by decide)
        · exact ⟨he, hx⟩)).mono ?_
      rintro e w' ⟨rfl, Pd', hb, hdk, hpd, hx⟩
      obtain ⟨k1, k2, k3⟩ := g2
      refine .inr ⟨g1, rfl, grP P w w', s', ⟨b, Pd', rfl, hb, hdk, fun k hk => ?_, fun k hk => hk.elim (fun h => Nat.lt_of_lt_of_le (hl k h) hx.size) fun h => h.2⟩, (hx.sub fun k e => e.elim (fun e => ho k (.inl e)) fun e => ho k (.inr (.inl e))).chg, k1, k2, fun kp => ?_⟩
      · rcases hk with hk | rfl
        · exact (hpd k hk).imp (fun e => ho k (.inl e)) fun e => ⟨e, hdk.lt k hk⟩
        · exact .inl (ho _ (.inr (.inl rfl)))
      · obtain ⟨G, hG, hJ⟩ := k3 kp
        refine ⟨G, ?_, hJ⟩
        simp only [List.mem_cons, List.not_mem_nil, or_false] at hG ⊢
        rcases hG with e | e
        · exact .inl e
        · exact .inr (.inl e)
theorem sSync_of (h : SInv w P d p X) (hw : X.wi = false) : Calls Tryz.prog 24 #[p] w fun e w' =>
    (∃ ds', ds'.fu = X.ds.fu ∧ XOut SInv w P d p (0, { X with base := X.is, dt := 0, ds := ds' }) e w') ∨ XDead SDead w P d p X [X.base, X.is] e w' := by
  obtain ⟨b, be, bp, Pd, q, ek, eg, ev, pk, pg, pv, rfl, hm, hpl, ho, hl⟩ := h
  have hwi := hw
  rw [hw] at hm
  have hv : ∀ x ∈ ek, (ev x).length = 256 := fun x hx => (hm.re x hx).2
  rcases Nat.eq_zero_or_pos ek.length with h0 | hpos
  · obtain rfl : ek = [] := List.eq_nil_of_length_eq_zero h0
    refine (sSync_yes (r := 0) (Q := fun w' => w = w') hm (sSettle_none hm)).mono ?_
    rintro e w' ⟨rfl, rfl⟩
    have hE : eqO X.base X.is := ⟨hpl.base, fun i ho hi => by rw [hpl.isx i ho hi, if_neg List.not_mem_nil]⟩
    rw [← hwi] at hm
    refine .inl ⟨X.ds, rfl, rfl, P, ⟨b, be, bp, Pd, q, [], eg, ev, pk, pg, pv, rfl, hm, hpl.synced hwi (hpl.ok.lst.toO hE) hpl.ok.pow hpl.u0, ho, hl⟩, Chg.refl _ _⟩
  · have hT := hpl.okT hm.me.nodup hv
    obtain ⟨s1, s2⟩ := hpl.set hm.me.nodup hv hm.q0
    have hB : takesT X.ds.F.length (sortN ek) ((sortN ek).map ev) = true := by rw [hpl.ok.lst.1]; exact hT.takes hpl.n64.1
    have KS := sSettle_of hm hpos hpl.el hB (by rw [hpl.u0]; exact Nat.zero_le _)
    have hfu := runA_fu (setA q (sortN ek) ((sortN ek).map ev)) X.ds
    have hr := runA_two (setA q (sortN ek) ((sortN ek).map ev)) X.ds
    generalize runA (setA q (sortN ek) ((sortN ek).map ev)) X.ds = r at s1 s2 KS hfu hr
    obtain ⟨r, s'⟩ := r
    rcases hr with h0 | h0
    · simp only at h0
      subst h0
      obtain ⟨g1, g2, g3⟩ := s1 rfl
      refine (sSync_yes (r := 0) (Q := fun w1 => ∃ be' Pd' q', SMem w1 Pd' b be' bp d q' [] eg ev pk pg pv false s' ∧ (w.heap.size ≤ be' ∧ be' < w1.heap.size) ∧ (∀ k, Pd' k → Pd k ∨ w.heap.size ≤ k) ∧ Ext (fun k => Pd k ∨ k = b) w w1) hm (KS.mono fun e w1 hq => by
        rcases hq with ⟨_, he, hx⟩ | ⟨h2, _⟩
        · exact ⟨he, hx⟩
        · exact absurd (show (0 : Int) = 2 from h2) (by decide))).mono ?_
      rintro e w' ⟨rfl, be', Pd', q', hm', hbe, hpd, hx⟩
      rw [← hwi] at hm'
      refine .inl ⟨s', hfu, rfl, _, sinv_of hm' (hpl.synced hwi g3 g1 g2) hl hx.size ?_, (hx.sub fun k e => e.elim (fun e => ho k (.inl e)) fun e => ho k (.inr (.inl e))).chg⟩
      intro k hk
      rcases hk with hk | rfl | rfl | rfl | ⟨x, hx, _⟩ | ⟨x, hx, hg⟩
      · exact (hpd k hk).imp (fun e => ho k (.inl e)) id
      · exact .inl (ho _ (.inr (.inl rfl)))
      · exact .inr hbe.1
      · exact .inl (ho _ (.inr (.inr (.inr (.inl rfl)))))
      · exact absurd hx List.not_mem_nil
      · exact .inl (ho k (.inr (.inr (.inr (.inr (.inr ⟨x, hx, hg⟩))))))
    · simp only at h0
      subst h0
      obtain ⟨g1, g2⟩ := s2 rfl
      refine (sSync_yes (r := 2) (Q := fun w1 => ∃ Pd', w1.heap[b]? = some deadRow ∧ Dk w1 Pd' d s' ∧ (∀ k, Pd' k → Pd k ∨ w.heap.size ≤ k) ∧ Ext (fun k => Pd k ∨ k = b) w w1) hm (KS.mono fun e w1 hq => by
        rcases hq with ⟨h2, _⟩ | ⟨_, he, hx⟩
        · exact absurd (show (2 : Int) = 0 from h2) (by decide)
        · exact ⟨he, hx⟩)).mono ?_
      rintro e w' ⟨rfl, Pd', hb, hdk, hpd, hx⟩
      refine .inr ⟨g1, rfl, grP P w w', s', ⟨b, Pd', rfl, hb, hdk, fun k hk => ?_, fun k hk => hk.elim (fun h => Nat.lt_of_lt_of_le (hl k h) hx.size) fun h => h.2⟩, (hx.sub fun k e => e.elim (fun e => ho k (.inl e)) fun e => ho k (.inr (.inl e))).chg, g2⟩
      rcases hk with hk | rfl
      · exact (hpd k hk).imp (fun e => ho k (.inl e)) fun e => ⟨e, hdk.lt k hk⟩
      · exact .inl (ho _ (.inr (.inl rfl)))
end
end Go.Proofs.YtigbhdgcjklhoaaGreat

/- The landed store pays the bundle: Open; the bundle. -/
namespace Go.Proofs.YtigbhdgcjklhoaaGreat
set_option maxRecDepth 100000
open Go.RowKit
set_option linter.unusedVariables false

/-- A new store, in memory. -/
theorem open_mem {W : World} {P : Nat → Prop} {d : Value} {s : DS} {x : Int} (hd : Dk W P d s) (hx : 0 ≤ x ∧ x < 4294967296) (eg : Int → Value) (ev : Int → List Int) :
    let w' := ((W.alloc (.map #[] 0)).alloc (.map #[] 0)).alloc (.cells #[d, .int .u32 x, .map (some W.heap.size), .map (some (W.heap.size + 1)), .bool false, .bool false] 58)
    SMem w' P (W.heap.size + 1 + 1) W.heap.size (W.heap.size + 1) d x [] eg ev [] eg ev false s ∧ Below W.heap.size W w' ∧ w'.heap.size = W.heap.size + 3 := by
  intro w'
  obtain ⟨w1, hw1⟩ : ∃ w1, w1 = W.alloc (.map #[] 0) := ⟨_, rfl⟩
  obtain ⟨w2, hw2⟩ : ∃ w2, w2 = w1.alloc (.map #[] 0) := ⟨_, rfl⟩
  have hs1 : w1.heap.size = W.heap.size + 1 := by rw [hw1]; simp
  have hs2 : w2.heap.size = W.heap.size + 1 + 1 := by rw [hw2]; simp [hs1]
  have hw' : w' = w2.alloc (.cells #[d, .int .u32 x, .map (some W.heap.size), .map (some (W.heap.size + 1)), .bool false, .bool false] 58) := by rw [hw2, hw1]
  have b1 : Below W.heap.size W w1 := by rw [hw1]; exact below_box W _
  have b2 : Below w1.heap.size w1 w2 := by rw [hw2]; exact below_box w1 _
  have b3 : Below w2.heap.size w2 w' := by rw [hw']; exact below_box w2 _
  have hm1 : Mp w1 W.heap.size [] eg := by rw [hw1]; exact Mp.made W eg
  have hm2 : Mp w2 w1.heap.size [] eg := by rw [hw2]; exact Mp.made w1 eg
  have hb : Below W.heap.size W w' := b1.trans ((b2.trans (b3.mono b2.size)).mono b1.size)
  have hr : w'.heap[W.heap.size + 1 + 1]? = some (.cells #[d, .int .u32 x, .map (some W.heap.size), .map (some (W.heap.size + 1)), .bool false, .bool false] 58 (0, 0)) := by
    rw [← hs2, hw']; exact heap_alloc_new w2 _
  refine ⟨⟨hr, hd.below hb, hx, (hm1.keep (b2.block _ (by rw [hs1]; omega))).keep (b3.block _ (by rw [hs2]; omega)), ?_, by omega, fun x hx => absurd hx List.not_mem_nil, fun x hx => absurd hx List.not_mem_nil⟩, hb, by rw [hw']; simp [hs2]⟩
  rw [← hs1]
  exact hm2.keep (b3.block _ (by rw [hs2, hs1]; omega))
theorem sOpen_of {w : World} {P : Nat → Prop} {d : Value} {ds : DS} {n : Nat} {G : List (List Int)} (h : Dk w P d ds) (h64 : 64 ≤ n) (h768 : n ≤ 768) (hU : ds.U = []) (hd : ds.dn = false) (hJ : Jst n ds.F G) : Calls Tryz.prog 6 #[d] w fun e w' =>
    (∃ p ds' P', e = .returned (.tuple #[p, .int .i64 0]) ∧ ds'.fu = ds.fu ∧ SInv w' P' d p ⟨G, G, [], [], false, 0, ds'⟩ ∧ Chg P P' w w') ∨
      (ds.fu = true ∧ e = .returned (.tuple #[.pointer none, .int .i64 2]) ∧ ∃ ds' P', Dk w' P' d ds' ∧ Chg P P' w w' ∧ DeadOk n ds' [G]) := by
  have KR := Lib.hid (recover_any h h64 hU hd hJ)
  have hlt := fun k hk => h.lt k hk
  have HL := Lib.hid hlt
  have HG : Hid (G.length = n) := Lib.hid hJ.2.1
  have H64 := Lib.hid (And.intro h64 h768)
  have hmm := @run_makeMap Tryz.prog
  obtain ⟨bd, rfl⟩ := h.ptr
  clear h h64 h768 hU hd hJ hlt
  go_enter Tryz.func6, Tryz.ntmps6
  go_upto_region 2 with (go_at_call 17; (with_reducible refine KR.out.mono ?_); rintro e w1 ⟨x, r, s', P1, rfl, hd1, hc1, hu1, hf1, hr1, hcr, h0, hf0, hx, hfu⟩
                         have HD := Lib.hid hd1
                         have HC := Lib.hid hc1
                         have HCR := Lib.hid (And.intro hu1 (And.intro hf1 hcr))
                         have H0 := Lib.hid h0
                         have HF0 := Lib.hid hf0
                         have HX := Lib.hid hx
                         have HFU := Lib.hid hfu
                         have HR := Lib.hid hr1
                         clear hd1 hc1 hu1 hf1 hcr h0 hf0 hx hfu hr1)
  rcases HR.out with e0 | e0
  · subst e0
    go_wp2
    go_ret2
    obtain ⟨g1, g2, g3⟩ := H0.out (by first | rfl | trivial)
    obtain ⟨hm, hb, hsz⟩ := open_mem HD.out HX.out (fun _ => undef) (fun _ => [])
    have hE : Ext P w _ := (Ext.of_chg HC.out fun k hk => hk).trans (P2 := P) (Ext.of_below hb) fun k _ e => e
    refine .inl ⟨_, rfl, s', HFU.out, _, sinv_of (X := ⟨G, G, [], [], false, 0, s'⟩) (P := P) hm ⟨⟨by show Lst G.length s' G; rw [HG.out]; exact g3, g1, by rw [g2]; exact Nat.zero_le _, fun e => Bool.noConfusion (show false = true from e), Nat.zero_le _⟩, by show 64 ≤ G.length ∧ G.length ≤ 768; rw [HG.out]; exact H64.out, g2, fun x hx => absurd hx List.not_mem_nil, fun x hx => absurd hx List.not_mem_nil, Nat.zero_le _, Nat.zero_le _, rfl, fun i _ _ => (if_neg List.not_mem_nil).symm, fun _ => rfl, fun e => Bool.noConfusion (show false = true from e)⟩ HL.out hE.size ?_, hE.chg⟩
    intro k hk
    have hs := HC.out.size
    rcases hk with hk | rfl | rfl | rfl | ⟨x, hx, _⟩ | ⟨x, hx, _⟩
    · exact chg_new HC.out hk
    · exact .inr (by omega)
    · exact .inr (by omega)
    · exact .inr (by omega)
    · exact absurd hx List.not_mem_nil
    · exact absurd hx List.not_mem_nil
  · subst e0
    go_wp2
    go_ret2
    refine .inr ⟨?_, rfl, s', P1, HD.out, HC.out, HCR.out.1, HCR.out.2.1, fun kp => ⟨G, by simp, HCR.out.2.2 kp⟩⟩
    cases hf : ds.fu
    · exact absurd (HF0.out hf) (by decide)
    · rfl
/-- The landed store is one. -/
theorem landed : Sto SInv SDead where
  plain h := by obtain ⟨_, _, _, _, _, _, _, _, _, _, _, _, _, hpl, _⟩ := h; exact hpl.ok
  ptr h := by obtain ⟨b, _, _, _, _, _, _, _, _, _, _, hp, _⟩ := h; exact ⟨b, hp⟩
  lt h := by obtain ⟨_, _, _, _, _, _, _, _, _, _, _, _, _, _, _, hl⟩ := h; exact hl
  keep h hs hk := h.keep hs hk
  disk h := by obtain ⟨_, _, _, Pd, _, _, _, _, _, _, _, _, hm, _, ho, _⟩ := h; exact ⟨Pd, fun k hk => ho k (.inl hk), hm.dk⟩
  deadLt h := by obtain ⟨_, _, _, _, _, _, hl⟩ := h; exact hl
  deadKeep h hs hk := h.keep hs hk
  deadDisk h := by obtain ⟨_, Pd, _, _, hd, ho, _⟩ := h; exact ⟨Pd, fun k hk => ho k (.inl hk), hd⟩
  begin h := sBegin_of h
  put h hv hn hj := sPut_of h hv hn hj
  getOut h _ ho := sGet_out h ho
  getIn h hn := sGet_in h hn
  endNo h hw := sEndNo_of h hw _
  endUndo h hw := sEndUndo_of h hw
  endKeep h hw := sEndKeep_of h hw
  syncNo h hw := sSyncNo_of h hw
  sync h hw := sSync_of h hw
  within h := by
    obtain ⟨b, be, bp, Pd, q, ek, eg, ev, pk, pg, pv, rfl, hm, hpl, _⟩ := h
    exact sWithin_is hm
  over h := by
    obtain ⟨b, be, bp, Pd, q, ek, eg, ev, pk, pg, pv, rfl, hm, hpl, _⟩ := h
    exact sOver_is hm
  overDead h := sOver_dead h
  opens h h64 h768 hU hd hJ := sOpen_of h h64 h768 hU hd hJ
end Go.Proofs.YtigbhdgcjklhoaaGreat

/- Arguments of layer 11's laws: Op, []Op. -/
namespace Go.Proofs.YtigbhdgcjklhoaaGreat
set_option maxRecDepth 100000
open Go.RowKit Go.ChangeShapes Go.WideShapes
set_option linter.unusedVariables false

/-- A call of the script. -/
structure O11 where
  k : Int
  n : Int
  x : Int
  keep : Bool
  short : Bool
instance : Inhabited O11 := ⟨⟨0, 0, 0, false, false⟩⟩
def O11.ok (o : O11) : Prop := (0 ≤ o.x ∧ o.x ≤ 255) ∧ (-9223372036854775808 ≤ o.n ∧ o.n ≤ 9223372036854775807)
def O11.cells (o : O11) : List Value := [.int .i64 o.k, .int .i64 o.n, .int .u8 o.x, .bool o.keep, .bool o.short]
/-- A []Op that reads as S. -/
def OpsS (W : World) (v : Value) (S : List O11) : Prop :=
  (∃ a c, v = .slice a 0 c ∧ S = []) ∨ ∃ b off cap, v = .slice (some ⟨b, off, none⟩) S.length cap ∧ ∀ i, i < S.length → b < W.heap.size ∧
    (W.cell? ⟨b, off + i * 5, none⟩ = some (.int .i64 (S.getD i default).k) ∧ W.cell? ⟨b, off + i * 5 + 1, none⟩ = some (.int .i64 (S.getD i default).n) ∧ W.cell? ⟨b, off + i * 5 + 2, none⟩ = some (.int .u8 (S.getD i default).x) ∧ W.cell? ⟨b, off + i * 5 + 3, none⟩ = some (.bool (S.getD i default).keep) ∧ W.cell? ⟨b, off + i * 5 + 4, none⟩ = some (.bool (S.getD i default).short)) ∧ (S.getD i default).ok
theorem op11Cells : Tryz.prog.cellsOf 37 = 5 := by kernel_rfl
theorem intCells11 : Tryz.prog.cellsOf 3 = 1 := by kernel_rfl
theorem u8Cells11 : Tryz.prog.cellsOf 5 = 1 := by kernel_rfl
theorem boolCells11 : Tryz.prog.cellsOf 4 = 1 := by kernel_rfl
section
variable {H : Type} {enc : TypeId × Value → H} {W : World} {base : Nat} {spare : Nat → Bool} {held : Bool}
theorem op11_cells {cs : List Value} {m : Nat} {y : DataW H × List MemPlace} (hl : cs.length = 5) (ht : DataW.trod enc Tryz.prog W base (fun _ => true) held m 37 cs = some y) : ∃ o : O11, cs = o.cells ∧ o.ok := by
  obtain ⟨xs, n, _, _, hlen, hxs, hf⟩ := DataW.trod_struct Tryz.underlying37 ht
  match cs, hl with
  | [c0, c1, c2, c3, c4], _ =>
    match xs, hxs with
    | [y0, y1, y2, y3, y4], _ =>
      have g0 : DataW.trod enc Tryz.prog W base (fun _ => true) held n 3 [c0] = some y0 := by
        have h0 : DataW.trod enc Tryz.prog W base (fun _ => true) held n 3 (List.take (Tryz.prog.cellsOf 3) (List.drop 0 [c0, c1, c2, c3, c4])) = some y0 := hf 0 _ rfl
        rw [intCells11] at h0; exact h0
      have g1 : DataW.trod enc Tryz.prog W base (fun _ => true) held n 3 [c1] = some y1 := by
        have h0 : DataW.trod enc Tryz.prog W base (fun _ => true) held n 3 (List.take (Tryz.prog.cellsOf 3) (List.drop 1 [c0, c1, c2, c3, c4])) = some y1 := hf 1 _ rfl
        rw [intCells11] at h0; exact h0
      have g2 : DataW.trod enc Tryz.prog W base (fun _ => true) held n 5 [c2] = some y2 := by
        have h0 : DataW.trod enc Tryz.prog W base (fun _ => true) held n 5 (List.take (Tryz.prog.cellsOf 5) (List.drop 2 [c0, c1, c2, c3, c4])) = some y2 := hf 2 _ rfl
        rw [u8Cells11] at h0; exact h0
      have g3 : DataW.trod enc Tryz.prog W base (fun _ => true) held n 4 [c3] = some y3 := by
        have h0 : DataW.trod enc Tryz.prog W base (fun _ => true) held n 4 (List.take (Tryz.prog.cellsOf 4) (List.drop 3 [c0, c1, c2, c3, c4])) = some y3 := hf 3 _ rfl
        rw [boolCells11] at h0; exact h0
      have g4 : DataW.trod enc Tryz.prog W base (fun _ => true) held n 4 [c4] = some y4 := by
        have h0 : DataW.trod enc Tryz.prog W base (fun _ => true) held n 4 (List.take (Tryz.prog.cellsOf 4) (List.drop 4 [c0, c1, c2, c3, c4])) = some y4 := hf 4 _ rfl
        rw [boolCells11] at h0; exact h0
      obtain ⟨k, e0, _, _⟩ := DataW.trod_int Tryz.underlying3 g0
      obtain ⟨b, e1, _, wf1⟩ := DataW.trod_int Tryz.underlying3 g1
      obtain ⟨x, e2, _, wf2⟩ := DataW.trod_int Tryz.underlying5 g2
      obtain ⟨kp, e3, _⟩ := DataW.trod_bool Tryz.underlying4 g3
      obtain ⟨sh, e4, _⟩ := DataW.trod_bool Tryz.underlying4 g4
      simp only [List.cons.injEq, and_true] at e0 e1 e2 e3 e4
      subst e0 e1 e2 e3 e4
      exact ⟨⟨k, b, x, kp, sh⟩, rfl, bounds_u8 wf2, bounds_i64 wf1⟩
theorem op11_open {v : Value} {d : DataW H} {p : List MemPlace} {r : Reach} {b0 : Nat} (hv : Value.okWide Tryz.prog W r b0 37 v) (h : DataW.Trod enc Tryz.prog W base (fun _ => true) held 37 v d p) : ∃ o : O11, v = opV o.k o.n o.x o.keep o.short ∧ o.ok := by
  obtain ⟨cs, rfl, hs⟩ := okWide_struct Tryz.underlying37 hv
  rw [op11Cells] at hs
  obtain ⟨fuel, hf⟩ := h
  obtain ⟨o, e, ho⟩ := op11_cells (by simpa [Value.cells] using hs) hf
  have e' : cs.toList = o.cells := e
  have e2 : cs = #[.int .i64 o.k, .int .i64 o.n, .int .u8 o.x, .bool o.keep, .bool o.short] := by
    rw [← Array.toArray_toList (xs := cs), e']; rfl
  exact ⟨o, by rw [e2]; rfl, ho⟩
theorem ops11_open {v : Value} {d : DataW H} {p : List MemPlace} {r : Reach} {b0 : Nat} (hv : Value.okWide Tryz.prog W r b0 22 v) (h : DataW.Trod enc Tryz.prog W base (fun _ => true) held 22 v d p) : ∃ S, OpsS W v S := by
  obtain ⟨a0, len0, cap0, rfl⟩ := okWide_slice Tryz.underlying22 hv
  obtain ⟨fuel, hf⟩ := h
  rcases Go.Deep.open_slice Tryz.underlying22 hf with ⟨hcs, _⟩ | ⟨a, len, cap, m, n, D, Pl, hcs, _, hl, hm, hmm, _, hi⟩
  · simp [Value.cells] at hcs
    obtain ⟨rfl, rfl, rfl⟩ := hcs
    exact ⟨[], .inl ⟨_, _, rfl, rfl⟩⟩
  · simp [Value.cells] at hcs
    obtain ⟨rfl, rfl, rfl⟩ := hcs
    have hlm : len0 ≤ m := by rw [hmm]; split <;> omega
    have hex : ∀ i, i < len0 → ∃ o : O11, (W.cell? (a.add (i * 5)) = some (.int .i64 o.k) ∧ W.cell? (a.add (i * 5 + 1)) = some (.int .i64 o.n) ∧ W.cell? (a.add (i * 5 + 2)) = some (.int .u8 o.x) ∧ W.cell? (a.add (i * 5 + 3)) = some (.bool o.keep) ∧ W.cell? (a.add (i * 5 + 4)) = some (.bool o.short)) ∧ o.ok := fun i hil => by
      obtain ⟨cs', hc, ht⟩ := hi i (by omega)
      rw [op11Cells] at hc
      obtain ⟨_, hcl, hat⟩ := World.cells?_some hc
      obtain ⟨o, rfl, ho⟩ := op11_cells hcl ht
      have a0 := hat 0 (by omega)
      have a1 := hat 1 (by omega)
      have a2 := hat 2 (by omega)
      have a3 := hat 3 (by omega)
      have a4 := hat 4 (by omega)
      simp only [O11.cells, Go.Deep.add_add, List.getElem?_cons_zero, List.getElem?_cons_succ, Nat.add_zero] at a0 a1 a2 a3 a4
      exact ⟨o, ⟨a0, a1, a2, a3, a4⟩, ho⟩
    obtain ⟨f, hfn⟩ := Go.Deep.choose_lt hex
    by_cases h0 : len0 = 0
    · exact ⟨[], .inl ⟨_, _, by rw [h0], rfl⟩⟩
    refine ⟨(List.range len0).map f, .inr ?_⟩
    obtain ⟨b, off, spot⟩ := a
    have hsp : spot = none := by
      obtain ⟨⟨z0, _⟩, _⟩ := hfn 0 (by omega)
      simpa [Addr.add] using World.cell?_spot z0
    subst hsp
    refine ⟨b, off, cap0, by simp, fun i hi2 => ?_⟩
    have hi3 : i < len0 := by simpa using hi2
    have hget : ((List.range len0).map f).getD i default = f i := by simp [List.getD_eq_getElem?_getD, hi3]
    rw [hget]
    obtain ⟨⟨c0, c1, c2, c3, c4⟩, r⟩ := hfn i hi3
    simp only [Addr.add_lit] at c0 c1 c2 c3 c4
    exact ⟨block_lt_of_cell c0, ⟨c0, by rw [Nat.add_assoc]; exact c1, by rw [Nat.add_assoc]; exact c2, by rw [Nat.add_assoc]; exact c3, by rw [Nat.add_assoc]; exact c4⟩, r⟩
end
end Go.Proofs.YtigbhdgcjklhoaaGreat

/- The law StoreNil: a nil store, a nil disk; awake. -/
namespace Go.Proofs.YtigbhdgcjklhoaaGreat
set_option maxRecDepth 100000
open Go.RowKit
set_option linter.unusedVariables false

theorem nsUsable (w : World) : Calls Tryz.prog 41 #[.pointer none] w fun e w' => e = .returned (.int .i64 1) ∧ w = w' := by
  go_enter Tryz.func41, Tryz.ntmps41
  go_wp2
  go_ret
  exact ⟨rfl, rfl⟩
theorem nsAllows (w : World) (x : Bool) : Calls Tryz.prog 30 #[.pointer none, .bool x] w fun e w' => e = .returned (.int .i64 1) ∧ w = w' := by
  go_enter Tryz.func30, Tryz.ntmps30
  go_wp2_with (go_at_call 41; refine (nsUsable _).mono ?_; rintro e w' ⟨rfl, rfl⟩)
  go_ret
  exact ⟨rfl, rfl⟩
theorem nsBegin (w : World) : Calls Tryz.prog 15 #[.pointer none] w fun e w' => e = .returned (.int .i64 1) ∧ w = w' := by
  go_enter Tryz.func15, Tryz.ntmps15
  go_wp2_with (go_at_call 30; refine (nsAllows _ _).mono ?_; rintro e w' ⟨rfl, rfl⟩)
  go_ret
  exact ⟨rfl, rfl⟩
theorem nsEnd (w : World) (k : Bool) : Calls Tryz.prog 22 #[.pointer none, .bool k] w fun e w' => e = .returned (.int .i64 1) ∧ w = w' := by
  go_enter Tryz.func22, Tryz.ntmps22
  go_wp2_with (go_at_call 30; refine (nsAllows _ _).mono ?_; rintro e w' ⟨rfl, rfl⟩)
  go_ret
  exact ⟨rfl, rfl⟩
theorem nsSync (w : World) : Calls Tryz.prog 24 #[.pointer none] w fun e w' => e = .returned (.int .i64 1) ∧ w = w' := by
  go_enter Tryz.func24, Tryz.ntmps24
  go_wp2_with (go_at_call 30; refine (nsAllows _ _).mono ?_; rintro e w' ⟨rfl, rfl⟩)
  go_ret
  exact ⟨rfl, rfl⟩
theorem nsPut (w : World) (n : Int) (v : Value) : Calls Tryz.prog 19 #[.pointer none, .int .i64 n, v] w fun e w' => e = .returned (.int .i64 1) ∧ w = w' := by
  go_enter Tryz.func19, Tryz.ntmps19
  go_wp2_with (go_at_call 30; refine (nsAllows _ _).mono ?_; rintro e w' ⟨rfl, rfl⟩)
  go_ret
  exact ⟨rfl, rfl⟩
theorem nsGet (w : World) (n : Int) : Calls Tryz.prog 26 #[.pointer none, .int .i64 n] w fun e w' => e = .returned (.tuple #[.slice none 0 0, .int .i64 1]) ∧ w = w' := by
  go_enter Tryz.func26, Tryz.ntmps26
  go_wp2_with (go_at_call 41; refine (nsUsable _).mono ?_; rintro e w' ⟨rfl, rfl⟩)
  go_ret2
  exact ⟨rfl, rfl⟩
theorem nsWithin (w : World) : Calls Tryz.prog 16 #[.pointer none] w fun e w' => e = .returned (.bool false) ∧ w = w' := by
  go_enter Tryz.func16, Tryz.ntmps16
  go_wp2
  go_ret
  exact ⟨rfl, rfl⟩
theorem nsOver (w : World) : Calls Tryz.prog 12 #[.pointer none] w fun e w' => e = .returned (.bool false) ∧ w = w' := by
  go_enter Tryz.func12, Tryz.ntmps12
  go_wp2
  go_ret
  exact ⟨rfl, rfl⟩
theorem nsOpen (w : World) : Calls Tryz.prog 6 #[.pointer none] w fun e w' => e = .returned (.tuple #[.pointer none, .int .i64 1]) ∧ w = w' := by
  go_enter Tryz.func6, Tryz.ntmps6
  go_wp2_with (go_at_call 17; refine (nRecover _).mono ?_; rintro e w' ⟨rfl, rfl⟩)
  go_ret2
  exact ⟨rfl, rfl⟩
/-- A new disk's store. -/
theorem openNew {Inv : World → (Nat → Prop) → Value → Value → XSt → Prop} {Dead : World → (Nat → Prop) → Value → Value → DS → Prop} (S : Sto Inv Dead) {w : World} {P : Nat → Prop} {d : Value} {n : Nat} (h : Dk w P d (DS.new n)) (h64 : 64 ≤ n) (h768 : n ≤ 768) :
    Calls Tryz.prog 6 #[d] w fun e w' => ∃ p ds' P', e = .returned (.tuple #[p, .int .i64 0]) ∧ ds'.fu = false ∧ Inv w' P' d p ⟨List.replicate n zb, List.replicate n zb, [], [], false, 0, ds'⟩ ∧ Chg P P' w w' :=
  (S.opens h h64 h768 rfl rfl (new_Jst n (by omega))).mono fun e w' hq => by
    rcases hq with h | ⟨h, _⟩
    · exact h
    · cases h
theorem awake11_any (w : World) : Calls Tryz.prog 4 #[] w fun e w' => e = .returned (.bool true) ∧ Below w.heap.size w w' := by
  have KN : Hid (Calls Tryz.prog 5 #[.int .i64 64] w fun e w' => ∃ p P, e = .returned p ∧ Dk w' P p (DS.new 64) ∧ (∀ k, P k → w.heap.size ≤ k) ∧ Below w.heap.size w w') := Lib.hid (kNew w 64 (by omega))
  have KO := Lib.hid (fun W P d (h : Dk W P d (DS.new 64)) => openNew landed h (by decide) (by decide))
  have KB := Lib.hid (fun W P d p X (h : SInv W P d p X) => landed.begin h)
  have KW := Lib.hid (fun W P d p X (h : SInv W P d p X) => landed.within h)
  have HPT := Lib.hid (fun W P d p X (h : SInv W P d p X) => landed.ptr h)
  have HCB := Lib.hid (fun W W' P P' (hp : ∀ k, P k → w.heap.size ≤ k) (hb : Below w.heap.size w W) (hc : Chg P P' W W') => show Below w.heap.size w W' from hb.trans (hc.below fun k hk => ⟨Nat.lt_of_lt_of_le hk hb.size, fun e => by have := hp k e; omega⟩))
  have HCP := Lib.hid (fun W W' P P' (hp : ∀ k, P k → w.heap.size ≤ k) (hb : Below w.heap.size w W) (hc : Chg P P' W W') (k : Nat) (hk : P' k) => show w.heap.size ≤ k from (chg_new hc hk).elim (hp k) (Nat.le_trans hb.size))
  go_enter Tryz.func4, Tryz.ntmps4
  go_wp2_with (first
    | (go_at_call 5; (with_reducible refine KN.out.mono ?_); rintro e w1 ⟨d, P, rfl, hd1, hp1, hb1⟩
       have HB1 := Lib.hid hb1
       have HP1 := Lib.hid hp1
       have KO1 := Lib.hid (KO.out _ _ _ hd1)
       obtain ⟨bd, rfl⟩ := hd1.ptr
       clear hb1 hp1 hd1)
    | (go_at_call 6; (with_reducible refine KO1.out.mono ?_); rintro e w2 ⟨p, ds', P2, rfl, _, hI2, hc2⟩
       have HB2 := Lib.hid (HCB.out _ _ _ _ HP1.out HB1.out hc2)
       have HP2 := Lib.hid (HCP.out _ _ _ _ HP1.out HB1.out hc2)
       have KB2 := Lib.hid (KB.out _ _ _ _ _ hI2)
       obtain ⟨bs, rfl⟩ := HPT.out _ _ _ _ _ hI2
       clear hI2 hc2)
    | (go_at_call 15; (with_reducible refine KB2.out.mono ?_); rintro e w3 ⟨rfl, P3, hI3, hc3⟩
       have HB3 := Lib.hid (HCB.out _ _ _ _ HP2.out HB2.out hc3)
       have KW3 := Lib.hid (KW.out _ _ _ _ _ hI3)
       clear hI3 hc3)
    | (go_at_call 16; (with_reducible refine KW3.out.mono ?_); rintro e w4 ⟨rfl, rfl⟩))
  go_ret
  exact ⟨rfl, HB3.out⟩
end Go.Proofs.YtigbhdgcjklhoaaGreat

/- The law's do: a call on both stores (over the bundle). -/
namespace Go.Proofs.YtigbhdgcjklhoaaGreat
set_option maxRecDepth 100000
open Go.RowKit
set_option linter.unusedVariables false

section
variable {Inv : World → (Nat → Prop) → Value → Value → XSt → Prop} {Dead : World → (Nat → Prop) → Value → Value → DS → Prop} (S : Sto Inv Dead)
include S
/-- The reference's own change leaves the store. -/
theorem Sto.past {w w' : World} {P M M' : Nat → Prop} {d p q vS : Value} {X : XSt} {r : RSt} (h : Inv w P d p X) (hr : RSo w P M q vS r) (hc : Chg M M' w w') : Inv w' P d p X := by
  obtain ⟨b, m, vI, vC, vP, _, hA⟩ := hr
  exact S.keep h hc.size fun k hk => (hc.keep k (S.lt h k hk) fun hm => hA.apart k hm hk).1
theorem Sto.deadPast {w w' : World} {P M M' : Nat → Prop} {d p q vS : Value} {ds : DS} {r : RSt} (h : Dead w P d p ds) (hr : RSo w P M q vS r) (hc : Chg M M' w w') : Dead w' P d p ds := by
  obtain ⟨b, m, vI, vC, vP, _, hA⟩ := hr
  exact S.deadKeep h hc.size fun k hk => (hc.keep k (S.deadLt h k hk) fun hm => hA.apart k hm hk).1
omit S in
/-- Two changes, one behind the other, each of its own blocks. -/
theorem Chg.both {P P' M M' : Nat → Prop} {a b c : World} (h : Chg P P' a b) (k : Chg M M' b c) : Chg (fun x => P x ∨ M x) (fun x => P' x ∨ M' x) a c :=
  (h.orR (M := M)).trans (k.orL (P := P'))
/-- Both stores behind a call: alive. -/
def Alive (Inv : World → (Nat → Prop) → Value → Value → XSt → Prop) (w : World) (P M : Nat → Prop) (d p q vS : Value) (X : XSt) (r : RSt) (e : Ending) (w' : World) : Prop :=
  ∃ P' M' vS' X' r', e = .returned (.bool true) ∧ Inv w' P' d p X' ∧ RSo w' P' M' q vS' r' ∧ Rel X' r' ∧ ROld w' P' M' vS r.sts ∧ Chg (fun k => P k ∨ M k) (fun k => P' k ∨ M' k) w w' ∧ r'.sts.length ≤ r.sts.length + 1 ∧ X'.ds.fu = X.ds.fu ∧ X'.is.length = X.is.length
/-- .. and behind a Sync out of a call nothing is dirty. -/
def AliveK (k : Int) (Inv : World → (Nat → Prop) → Value → Value → XSt → Prop) (w : World) (P M : Nat → Prop) (d p q vS : Value) (X : XSt) (r : RSt) (e : Ending) (w' : World) : Prop :=
  ∃ P' M' vS' X' r', e = .returned (.bool true) ∧ Inv w' P' d p X' ∧ RSo w' P' M' q vS' r' ∧ Rel X' r' ∧ ROld w' P' M' vS r.sts ∧ Chg (fun k => P k ∨ M k) (fun k => P' k ∨ M' k) w w' ∧ r'.sts.length ≤ r.sts.length + 1 ∧ X'.ds.fu = X.ds.fu ∧ X'.is.length = X.is.length ∧ (k = 4 → X'.wi = false → X'.dt = 0)
omit S in
theorem Alive.k {w w' : World} {P M : Nat → Prop} {d p q vS : Value} {X : XSt} {r : RSt} {e : Ending} (h : Alive Inv w P M d p q vS X r e w') {k : Int} (hk : k ≠ 4) : AliveK k Inv w P M d p q vS X r e w' := by
  obtain ⟨P', M', vS', X', r', h1, h2, h3, h4, h5, h6, h7, h8, h9⟩ := h
  exact ⟨P', M', vS', X', r', h1, h2, h3, h4, h5, h6, h7, h8, h9, fun e => absurd e hk⟩
/-- .. the real one is over: a crash finds what some first ones of the calls made. -/
def Gone (Dead : World → (Nat → Prop) → Value → Value → DS → Prop) (w : World) (P M : Nat → Prop) (d p q vS : Value) (X : XSt) (r : RSt) (e : Ending) (w' : World) : Prop :=
  X.ds.fu = true ∧ ∃ b P' M' vS' ds' r' l, e = .returned (.bool b) ∧ Dead w' P' d p ds' ∧ RSo w' P' M' q vS' r' ∧ ROld w' P' M' vS r.sts ∧ Chg (fun k => P k ∨ M k) (fun k => P' k ∨ M' k) w w' ∧ r'.is.length = X.is.length ∧ DeadOk X.is.length ds' l ∧ ∀ G ∈ l, ∃ H ∈ r.sts ++ [r'.is], eqO H G
theorem do11_begin {w : World} {P M : Nat → Prop} {d p q vS : Value} {X : XSt} {r : RSt} (h : Inv w P d p X) (hr : RSo w P M q vS r) (hR : Rel X r) (n x : Int) (keep short : Bool) :
    Calls Tryz.prog 11 #[p, q, opV 1 n x keep short] w fun e w' => Alive Inv w P M d p q vS X r e w' := by
  obtain ⟨u, hu⟩ : ∃ u, u = w.alloc (.cells #[.int .i64 1, .int .i64 n, .int .u8 x, .bool keep, .bool short] 37) := ⟨_, rfl⟩
  have hbx : Below w.heap.size w u := by rw [hu]; exact below_box w _
  have hnx : u.heap[w.heap.size]? = some (.cells #[.int .i64 1, .int .i64 n, .int .u8 x, .bool keep, .bool short] 37 (0, 0)) := by rw [hu]; exact heap_alloc_new w _
  obtain ⟨c0, _⟩ := box_cell (i := 0) hnx rfl
  have hru := hr.below hbx
  have hIu : Inv u P d p X := S.keep h hbx.size fun k hk => hbx.block k (S.lt h k hk)
  have KB := Lib.hid (S.begin hIu)
  have KR := Lib.hid (fun (w2 : World) (P' : Nat → Prop) (hI : Inv w2 P' d p (xBegin X).2) (hc : Chg P P' u w2) => rsBegin_any (hru.chg hc) (S.lt hI))
  have HEQ := Lib.hid hR.begin.1
  have HFIN := Lib.hid (fun (w2 w3 : World) (P' : Nat → Prop) (e : Ending) (hI : Inv w2 P' d p (xBegin X).2) (hc : Chg P P' u w2) (ho : ROut w2 P' M q vS r.sts (rBegin r) e w3) => show Alive Inv w P M d p q vS X r (.returned (.bool true)) w3 from by
    obtain ⟨M', vS', _, k1, k2, k3⟩ := ho
    refine ⟨P', M', vS', (xBegin X).2, (rBegin r).2, rfl, S.past hI (hru.chg hc) k2, k1, hR.begin.2, k3, (Chg.of_below hbx).trans (hc.both k2), ?_, ?_, ?_⟩
    · unfold rBegin; split <;> exact Nat.le_succ _
    · unfold xBegin; split <;> rfl
    · unfold xBegin; split <;> rfl)
  have HU := Lib.hid hu
  obtain ⟨pb, rfl⟩ := S.ptr h
  have hq : ∃ qb, q = .pointer (some ⟨qb, 0, none⟩) := by
    obtain ⟨b, _, _, _, _, e, _⟩ := hr
    exact ⟨b, e⟩
  obtain ⟨qb, rfl⟩ := hq
  clear h hr hR hbx hnx hru hIu hu
  unfold opV
  go_enter Tryz.func11, Tryz.ntmps11
  go_upto_region 1 with (fail)
  rw [← HU.out]
  go_wp2_with (first
    | (go_at_call 15; (with_reducible refine KB.out.mono ?_); rintro e w2 ⟨rfl, P', hI, hc⟩
       have KR2 := Lib.hid (KR.out w2 P' hI hc)
       have HI2 := Lib.hid hI
       have HC2 := Lib.hid hc
       clear hI hc)
    | (go_at_call 18; (with_reducible refine KR2.out.mono ?_); rintro e w3 ho
       have HA := Lib.hid (HFIN.out w2 w3 P' e HI2.out HC2.out ho)
       obtain ⟨M', vS', rfl, _⟩ := ho
       rw [← HEQ.out]))
  go_ret
  exact HA.out
/-- Sync, its outcome in one piece. -/
def SyncOut (Inv : World → (Nat → Prop) → Value → Value → XSt → Prop) (Dead : World → (Nat → Prop) → Value → Value → DS → Prop) (w : World) (P' : Nat → Prop) (d p : Value) (X : XSt) (z : Int) : Prop :=
  (z = 0 ∧ ∃ ds', ds'.fu = X.ds.fu ∧ Inv w P' d p { X with base := X.is, dt := 0, ds := ds' }) ∨ (z = 2 ∧ X.ds.fu = true ∧ ∃ ds', Dead w P' d p ds' ∧ DeadOk X.is.length ds' [X.base, X.is])
theorem Sto.sync1 {w : World} {P : Nat → Prop} {d p : Value} {X : XSt} (h : Inv w P d p X) (hw : X.wi = false) : Calls Tryz.prog 24 #[p] w fun e w' => ∃ z P', e = .returned (.int .i64 z) ∧ Chg P P' w w' ∧ (∀ k, P' k → k < w'.heap.size) ∧ SyncOut Inv Dead w' P' d p X z := by
  refine (S.sync h hw).mono ?_
  rintro e w' (⟨ds', hf, rfl, P', hI, hc⟩ | ⟨hf, rfl, P', ds', hD, hc, hk⟩)
  · exact ⟨0, P', rfl, hc, S.lt hI, .inl ⟨rfl, ds', hf, hI⟩⟩
  · exact ⟨2, P', rfl, hc, S.deadLt hD, .inr ⟨rfl, hf, ds', hD, hk⟩⟩
theorem do11_sync {w : World} {P M : Nat → Prop} {d p q vS : Value} {X : XSt} {r : RSt} (h : Inv w P d p X) (hr : RSo w P M q vS r) (hR : Rel X r) (hw : X.wi = false) (n x : Int) (keep short : Bool) :
    Calls Tryz.prog 11 #[p, q, opV 4 n x keep short] w fun e w' => AliveK 4 Inv w P M d p q vS X r e w' ∨ Gone Dead w P M d p q vS X r e w' := by
  obtain ⟨u, hu⟩ : ∃ u, u = w.alloc (.cells #[.int .i64 4, .int .i64 n, .int .u8 x, .bool keep, .bool short] 37) := ⟨_, rfl⟩
  have hbx : Below w.heap.size w u := by rw [hu]; exact below_box w _
  have hnx : u.heap[w.heap.size]? = some (.cells #[.int .i64 4, .int .i64 n, .int .u8 x, .bool keep, .bool short] 37 (0, 0)) := by rw [hu]; exact heap_alloc_new w _
  obtain ⟨c0, _⟩ := box_cell (i := 0) hnx rfl
  have hru := hr.below hbx
  have hIu : Inv u P d p X := S.keep h hbx.size fun k hk => hbx.block k (S.lt h k hk)
  have KB := Lib.hid (S.sync1 hIu hw)
  have KR := Lib.hid (fun (w2 : World) (P' : Nat → Prop) (hl : ∀ k, P' k → k < w2.heap.size) (hc : Chg P P' u w2) => rsSync_any (hru.chg hc) hl)
  have e1 : rSync r = (0, { r with sts := [r.is], wi := false }) := by unfold rSync; rw [hR.wi.trans hw]; rfl
  have HFIN := Lib.hid (fun (w2 w3 : World) (P' : Nat → Prop) (z : Int) (e : Ending) (ho : SyncOut Inv Dead w2 P' d p X z) (hc : Chg P P' u w2) (hs : ROut w2 P' M q vS r.sts (rSync r) e w3) => show AliveK 4 Inv w P M d p q vS X r (.returned (.bool (decide (z = 0)))) w3 ∨ Gone Dead w P M d p q vS X r (.returned (.bool (decide (z = 0)))) w3 from by
    obtain ⟨M', vS', _, k1, k2, k3⟩ := hs
    have hch := (Chg.of_below (P := fun k => P k ∨ M k) hbx).trans (hc.both k2)
    rcases ho with ⟨rfl, ds', hf, hI⟩ | ⟨rfl, hf, ds', hD, hk⟩
    · refine .inl ⟨P', M', vS', _, _, rfl, S.past hI (hru.chg hc) k2, k1, (hR.synced hw ds').2, k3, hch, ?_, hf, rfl, fun _ _ => rfl⟩
      rw [e1]
      show 1 ≤ _
      omega
    · refine .inr ⟨hf, _, P', M', vS', ds', _, _, rfl, S.deadPast hD (hru.chg hc) k2, k1, k3, hch, ?_, hk, fun G hG => ?_⟩
      · rw [e1]; exact hR.len
      · rcases List.mem_cons.1 hG with rfl | hG
        · obtain ⟨H, hH, e⟩ := hR.base
          exact ⟨H, List.mem_append_left _ hH, e⟩
        · obtain rfl := List.mem_singleton.1 hG
          obtain ⟨H, hH, e⟩ := hR.last
          exact ⟨H, List.mem_append_left _ hH, e.trans hR.is⟩)
  rw [e1] at KR HFIN
  have HU := Lib.hid hu
  obtain ⟨pb, rfl⟩ := S.ptr h
  have hq : ∃ qb, q = .pointer (some ⟨qb, 0, none⟩) := by
    obtain ⟨b, _, _, _, _, e, _⟩ := hr
    exact ⟨b, e⟩
  obtain ⟨qb, rfl⟩ := hq
  clear h hr hR hbx hnx hru hIu hu e1
  unfold opV
  go_enter Tryz.func11, Tryz.ntmps11
  go_upto_region 1 with (fail)
  rw [← HU.out]
  go_wp2_with (first
    | (go_at_call 24; (with_reducible refine KB.out.mono ?_); rintro e w2 ⟨z, P', rfl, hc, hl, ho⟩
       have KR2 := Lib.hid (KR.out w2 P' hl hc)
       have HO2 := Lib.hid ho
       have HC2 := Lib.hid hc
       clear ho hc hl)
    | (go_at_call 25; (with_reducible refine KR2.out.mono ?_); rintro e w3 ho
       have HA := Lib.hid (HFIN.out w2 w3 P' z e HO2.out HC2.out ho)
       obtain ⟨M', vS', rfl, _⟩ := ho))
  go_ret
  exact HA.out
end
end Go.Proofs.YtigbhdgcjklhoaaGreat

/- The law's do: End (over the bundle). -/
namespace Go.Proofs.YtigbhdgcjklhoaaGreat
set_option maxRecDepth 100000
open Go.RowKit
set_option linter.unusedVariables false

/-- What the real store's call says (z), where the reference's is rr: alive, or over. -/
def Out2 (Inv : World → (Nat → Prop) → Value → Value → XSt → Prop) (Dead : World → (Nat → Prop) → Value → Value → DS → Prop) (d p : Value) (X : XSt) (r : RSt) (rr : Int × RSt) (w' : World) (P' : Nat → Prop) (z : Int) : Prop :=
  (z = rr.1 ∧ ∃ X', Inv w' P' d p X' ∧ Rel X' rr.2 ∧ X'.ds.fu = X.ds.fu ∧ X'.is.length = X.is.length) ∨
    (z = 2 ∧ X.ds.fu = true ∧ ∃ ds' l, Dead w' P' d p ds' ∧ DeadOk X.is.length ds' l ∧ ∀ G ∈ l, ∃ H ∈ r.sts ++ [rr.2.is], eqO H G)
section
variable {Inv : World → (Nat → Prop) → Value → Value → XSt → Prop} {Dead : World → (Nat → Prop) → Value → Value → DS → Prop} (S : Sto Inv Dead)
include S
/-- Both calls done. -/
theorem Sto.fin {w u w2 w3 : World} {P P' M : Nat → Prop} {d p q vS : Value} {X : XSt} {r : RSt} {rr : Int × RSt} {z : Int} {e : Ending} (hbx : Below w.heap.size w u) (hru : RSo u P M q vS r) (ho : Out2 Inv Dead d p X r rr w2 P' z) (hc : Chg P P' u w2) (hs : ROut w2 P' M q vS r.sts rr e w3)
    (h1 : rr.2.sts.length ≤ r.sts.length + 1) (h2 : rr.2.is.length = X.is.length) :
    Alive Inv w P M d p q vS X r (.returned (.bool (decide (z = rr.1)))) w3 ∨ Gone Dead w P M d p q vS X r (.returned (.bool (decide (z = rr.1)))) w3 := by
  obtain ⟨M', vS', _, k1, k2, k3⟩ := hs
  have hch := (Chg.of_below (P := fun k => P k ∨ M k) hbx).trans (hc.both k2)
  rcases ho with ⟨rfl, X', hI, hR', hf, hl⟩ | ⟨_, hf, ds', l, hD, hk, hl⟩
  · refine .inl ⟨P', M', vS', X', rr.2, ?_, S.past hI (hru.chg hc) k2, k1, hR', k3, hch, h1, hf, hl⟩
    rw [decide_eq_true rfl]
  · exact .inr ⟨hf, _, P', M', vS', ds', rr.2, l, rfl, S.deadPast hD (hru.chg hc) k2, k1, k3, hch, h2, hk, hl⟩
theorem Sto.endR {w : World} {P : Nat → Prop} {d p : Value} {X : XSt} {r : RSt} (h : Inv w P d p X) (hR : Rel X r) (k : Bool) :
    Calls Tryz.prog 22 #[p, .bool k] w fun e w' => ∃ z P', e = .returned (.int .i64 z) ∧ Chg P P' w w' ∧ (∀ k, P' k → k < w'.heap.size) ∧ Out2 Inv Dead d p X r (rEnd r k) w' P' z := by
  cases hw : X.wi
  · have e1 : rEnd r k = (17, r) := by unfold rEnd; rw [hR.wi.trans hw]; rfl
    refine (S.endNo h hw).mono ?_
    rintro e w' ⟨rfl, P', hI, hc⟩
    exact ⟨17, P', rfl, hc, S.lt hI, .inl ⟨by rw [e1], X, hI, by rw [e1]; exact hR, rfl, rfl⟩⟩
  · cases k
    · obtain ⟨a1, a2⟩ := hR.undone hw
      refine (S.endUndo h hw).mono ?_
      rintro e w' ⟨rfl, P', hI, hc⟩
      exact ⟨0, P', rfl, hc, S.lt hI, .inl ⟨a1.symm, _, hI, a2, rfl, rfl⟩⟩
    · have hcl := (S.plain h).call hw
      have hr : r.wi = true := hR.wi.trans hw
      have e1 : rEnd r true = (0, { r with is := r.call, sts := r.sts ++ [r.call], wi := false }) := by unfold rEnd; rw [hr]; rfl
      refine (S.endKeep h hw).mono ?_
      rintro e w' (⟨B, dt, ds', hB, hf, rfl, P', hI, hc⟩ | ⟨hf, rfl, P', ds', hD, hc, hk⟩)
      · obtain ⟨a1, a2⟩ := hR.ended hw hB dt ds'
        exact ⟨0, P', rfl, hc, S.lt hI, .inl ⟨a1.symm, _, hI, a2, hf, hcl⟩⟩
      · refine ⟨2, P', rfl, hc, S.deadLt hD, .inr ⟨rfl, hf, ds', _, hD, hk, fun G hG => ?_⟩⟩
        rw [e1]
        rcases List.mem_cons.1 hG with rfl | hG
        · obtain ⟨H, hH, e⟩ := hR.base
          exact ⟨H, List.mem_append_left _ hH, e⟩
        · rcases List.mem_cons.1 hG with rfl | hG
          · obtain ⟨H, hH, e⟩ := hR.last
            exact ⟨H, List.mem_append_left _ hH, e.trans hR.is⟩
          · obtain rfl := List.mem_singleton.1 hG
            exact ⟨r.call, List.mem_append_right _ (List.mem_singleton.2 rfl), (hR.call hw).1⟩
set_option maxHeartbeats 2000000 in
theorem do11_end {w : World} {P M : Nat → Prop} {d p q vS : Value} {X : XSt} {r : RSt} (h : Inv w P d p X) (hr : RSo w P M q vS r) (hR : Rel X r) (hst : r.sts.length ≤ 1000) (n x : Int) (keep short : Bool) :
    Calls Tryz.prog 11 #[p, q, opV 3 n x keep short] w fun e w' => Alive Inv w P M d p q vS X r e w' ∨ Gone Dead w P M d p q vS X r e w' := by
  obtain ⟨u, hu⟩ : ∃ u, u = w.alloc (.cells #[.int .i64 3, .int .i64 n, .int .u8 x, .bool keep, .bool short] 37) := ⟨_, rfl⟩
  have hbx : Below w.heap.size w u := by rw [hu]; exact below_box w _
  have hnx : u.heap[w.heap.size]? = some (.cells #[.int .i64 3, .int .i64 n, .int .u8 x, .bool keep, .bool short] 37 (0, 0)) := by rw [hu]; exact heap_alloc_new w _
  obtain ⟨c0, _⟩ := box_cell (i := 0) hnx rfl
  obtain ⟨c3, _⟩ := box_cell (i := 3) hnx rfl
  have hbd : Below w.heap.size w u.drew := hbx.drew
  have hru : RSo u.drew P M q vS r := hr.below hbd
  have hIu : Inv u.drew P d p X := S.keep h hbd.size fun k hk => hbd.block k (S.lt h k hk)
  have hnP : ¬ P w.heap.size := fun e => Nat.lt_irrefl _ (S.lt h _ e)
  have hnM : ¬ M w.heap.size := fun e => Nat.lt_irrefl _ (hr.lt e)
  have hbl : w.heap.size < u.drew.heap.size := (Array.getElem?_eq_some_iff.1 hnx).1
  have d3 : u.drew.cell? ⟨w.heap.size, 3, none⟩ = some (.bool keep) := c3
  have KB := Lib.hid (S.endR hIu hR keep)
  have KR := Lib.hid (fun (w2 : World) (P' : Nat → Prop) (hl : ∀ k, P' k → k < w2.heap.size) (hc : Chg P P' u.drew w2) => rsEnd_any (hru.chg hc) hl keep hst)
  have hlen : (rEnd r keep).2.sts.length ≤ r.sts.length + 1 ∧ (rEnd r keep).2.is.length = X.is.length := by
    unfold rEnd
    rw [hR.wi]
    cases hw : X.wi
    · exact ⟨Nat.le_succ _, hR.len⟩
    · cases keep
      · exact ⟨Nat.le_succ _, hR.len⟩
      · refine ⟨by show (r.sts ++ [r.call]).length ≤ _; simp, ?_⟩
        show r.call.length = _
        rw [(hR.call hw).1.1]
        exact (S.plain h).call hw
  have HCL := Lib.hid (fun (w2 : World) (P' : Nat → Prop) (hc : Chg P P' u.drew w2) => show w2.cell? ⟨w.heap.size, 3, none⟩ = some (.bool keep) ∧ w.heap.size < w2.heap.size from
    ⟨(World.cell?_of_block (a := ⟨w.heap.size, 3, none⟩) (hc.keep _ hbl hnP).1).trans d3, Nat.lt_of_lt_of_le hbl hc.size⟩)
  have HCM := Lib.hid (fun (w2 w3 : World) (M' : Nat → Prop) (hl : w.heap.size < w2.heap.size) (hk : w2.cell? ⟨w.heap.size, 3, none⟩ = some (.bool keep)) (hc : Chg M M' w2 w3) => show w3.cell? ⟨w.heap.size, 3, none⟩ = some (.bool keep) from
    (World.cell?_of_block (a := ⟨w.heap.size, 3, none⟩) (hc.keep _ hl hnM).1).trans hk)
  have HFIN := Lib.hid (fun (w2 w3 : World) (P' : Nat → Prop) (z : Int) (e : Ending) (ho : Out2 Inv Dead d p X r (rEnd r keep) w2 P' z) (hc : Chg P P' u.drew w2) (hs : ROut w2 P' M q vS r.sts (rEnd r keep) e w3) => S.fin hbd hru ho hc hs hlen.1 hlen.2)
  have HU := Lib.hid hu
  obtain ⟨pb, rfl⟩ := S.ptr h
  have hq : ∃ qb, q = .pointer (some ⟨qb, 0, none⟩) := by
    obtain ⟨b, _, _, _, _, e, _⟩ := hr
    exact ⟨b, e⟩
  obtain ⟨qb, rfl⟩ := hq
  clear h hr hR hbx hnx hru hIu hu hlen hbd hnP hnM hbl
  unfold opV
  go_enter Tryz.func11, Tryz.ntmps11
  go_upto_region 1 with (fail)
  rw [← HU.out]
  go_upto_region 7 with (fail)
  go_region_held3 (fun W => W.cell? ⟨w.heap.size, 3, none⟩ = some (.bool keep)) (first | exact g3 | exact g2 | exact d3) (first
    | (go_at_call 22; (with_reducible refine KB.out.mono ?_); rintro e w2 ⟨z, P', rfl, hc, hl, ho⟩
       obtain ⟨g2, hl2⟩ := HCL.out w2 P' hc
       have KR2 := Lib.hid (KR.out w2 P' hl hc)
       have HO2 := Lib.hid ho
       have HC2 := Lib.hid hc
       clear ho hc hl)
    | (go_at_call 23; (with_reducible refine KR2.out.mono ?_); rintro e w3 ho
       have HA := Lib.hid (HFIN.out w2 w3 P' z e HO2.out HC2.out ho)
       obtain ⟨M', vS', rfl, _, hc3, _⟩ := ho
       have g3 := HCM.out w2 w3 M' hl2 g2 hc3
       clear hc3))
  all_goals
    go_wp2
    go_ret
    exact HA.out
end
end Go.Proofs.YtigbhdgcjklhoaaGreat
