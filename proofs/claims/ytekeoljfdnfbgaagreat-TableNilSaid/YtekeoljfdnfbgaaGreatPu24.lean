/- What the law rests on: part 24. -/
import Derived.Test.YtekeoljfdnfbgaaGreatPu23
set_option linter.unusedVariables false
namespace Go.Proofs.YtekeoljfdnfbgaaGreat
set_option maxRecDepth 100000
open Go.RowKit
theorem sinv_of {w w' : World} {P Pd : Nat → Prop} {b be bp : Nat} {d : Value} {q : Int} {ek : List Int} {eg : Int → Value} {ev : Int → List Int} {pk : List Int} {pg : Int → Value} {pv : Int → List Int} {X : XSt} (hm : SMem w' Pd b be bp d q ek eg ev pk pg pv X.wi X.ds) (hpl : SPl X ek ev pk pv)
    (hl : ∀ k, P k → k < w.heap.size) (hs : w.heap.size ≤ w'.heap.size) (hown : ∀ k, SOwn Pd b be bp ek eg pk pg k → P k ∨ w.heap.size ≤ k) : SInv w' (grP P w w') d (.pointer (some ⟨b, 0, none⟩)) X :=
  ⟨b, be, bp, Pd, q, ek, eg, ev, pk, pg, pv, rfl, hm, hpl, fun k hk => (hown k hk).imp id fun e => ⟨e, hm.lt k hk⟩, fun k hk => hk.elim (fun h => Nat.lt_of_lt_of_le (hl k h) hs) fun h => h.2⟩
section
variable {w : World} {Pd : Nat → Prop} {b be bp : Nat} {d : Value} {q : Int} {ek : List Int} {eg : Int → Value} {ev : Int → List Int} {pk : List Int} {pg : Int → Value} {pv : Int → List Int} {wi : Bool} {s : DS}
theorem sEnd_undo (h : SMem w Pd b be bp d q ek eg ev pk pg pv true s) : Calls Tryz.prog 20 #[.pointer (some ⟨b, 0, none⟩), .bool false] w fun e w' => e = .returned (.int .i64 0) ∧ w' = ((w.setCell ⟨b, 3, none⟩ (.map (some w.heap.size))).setCell ⟨b, 4, none⟩ (.bool false)).alloc (.map #[] 0) := by
  have KA := Lib.hid (sAllows_is h true)
  have c3 := h.c3
  have c4 := h.c4
  have f3 := h.fr 3
  have f4 := h.fr 4
  have hbl := h.bl
  have hbn : b ≠ w.heap.size := Nat.ne_of_lt h.bl
  have hbn' : w.heap.size ≠ b := fun e => hbn e.symm
  have hmm := @run_makeMap Tryz.prog
  clear h
  go_enter Tryz.func20, Tryz.ntmps20
  go_wp2_with (go_at_call 51; (with_reducible refine KA.out.mono ?_); rintro e w1 ⟨rfl, rfl⟩)
  go_ret
  exact ⟨rfl, rfl⟩
theorem sEnd_keep {Q : World → Prop} (h : SMem w Pd b be bp d q ek eg ev pk pg pv true s)
    (KJ : Calls Tryz.prog 52 #[.pointer (some ⟨b, 0, none⟩)] w fun e w1 => e = .returned (.int .i64 0) ∧ Q w1 ∧ ∃ Pd1 be1 q1 ek1 eg1 ev1 s1, SMem w1 Pd1 b be1 bp d q1 ek1 eg1 ev1 pk pg pv true s1) :
    Calls Tryz.prog 20 #[.pointer (some ⟨b, 0, none⟩), .bool true] w fun e w' => e = .returned (.int .i64 0) ∧ ∃ w1, Q w1 ∧ w' = ((w1.setCell ⟨b, 3, none⟩ (.map (some w1.heap.size))).setCell ⟨b, 4, none⟩ (.bool false)).alloc (.map #[] 0) := by
  have KA := Lib.hid (sAllows_is h true)
  have KJ' := Lib.hid KJ
  have hmm := @run_makeMap Tryz.prog
  clear h KJ
  go_enter Tryz.func20, Tryz.ntmps20
  go_wp2_with (first
    | (go_at_call 51; (with_reducible refine KA.out.mono ?_); rintro e w1 ⟨rfl, rfl⟩)
    | (go_at_call 52; (with_reducible refine KJ'.out.mono ?_); rintro e w1 ⟨rfl, hq, Pd1, be1, q1, ek1, eg1, ev1, s1, h⟩
       have HQ := Lib.hid hq
       have c3 := h.c3
       have c4 := h.c4
       have f3 := h.fr 3
       have f4 := h.fr 4
       have hbl := h.bl
       have hbn : b ≠ w1.heap.size := Nat.ne_of_lt h.bl
       have hbn' : w1.heap.size ≠ b := fun e => hbn e.symm
       clear h hq))
  go_ret
  exact ⟨rfl, w1, HQ.out, rfl⟩
theorem sEnd_dead {Q : World → Prop} (h : SMem w Pd b be bp d q ek eg ev pk pg pv true s)
    (KJ : Calls Tryz.prog 52 #[.pointer (some ⟨b, 0, none⟩)] w fun e w1 => e = .returned (.int .i64 2) ∧ Q w1) :
    Calls Tryz.prog 20 #[.pointer (some ⟨b, 0, none⟩), .bool true] w fun e w' => e = .returned (.int .i64 2) ∧ Q w' := by
  have KA := Lib.hid (sAllows_is h true)
  have KJ' := Lib.hid KJ
  clear h KJ
  go_enter Tryz.func20, Tryz.ntmps20
  go_wp2_with (first
    | (go_at_call 51; (with_reducible refine KA.out.mono ?_); rintro e w1 ⟨rfl, rfl⟩)
    | (go_at_call 52; (with_reducible refine KJ'.out.mono ?_); rintro e w1 ⟨rfl, hq⟩
       have HQ := Lib.hid hq
       clear hq))
  go_ret
  exact ⟨rfl, HQ.out⟩
theorem sEnd_no (h : SMem w Pd b be bp d q ek eg ev pk pg pv false s) (k : Bool) : Calls Tryz.prog 20 #[.pointer (some ⟨b, 0, none⟩), .bool k] w fun e w' => e = .returned (.int .i64 17) ∧ w = w' := by
  have KA := Lib.hid (sAllows_is h true)
  clear h
  go_enter Tryz.func20, Tryz.ntmps20
  go_wp2_with (go_at_call 51; (with_reducible refine KA.out.mono ?_); rintro e w1 ⟨rfl, rfl⟩)
  go_ret
  exact ⟨rfl, rfl⟩
end
section
variable {X : XSt} {ek : List Int} {ev : Int → List Int} {pk : List Int} {pv : Int → List Int}
theorem SPl.base (h : SPl X ek ev pk pv) : X.base.length = X.is.length := h.ok.lst.glen
theorem SPl.undo (h : SPl X ek ev pk pv) (pv' : Int → List Int) : SPl { X with wi := false } ek ev [] pv' :=
  { h with ok := { h.ok with call := fun e => Bool.noConfusion (show false = true from e) }, kp := fun x hx => absurd hx List.not_mem_nil, pl := Nat.zero_le _, wi0 := fun _ => rfl, wi1 := fun e => Bool.noConfusion (show false = true from e) }
theorem SPl.merged (h : SPl X ek ev pk pv) (hw : X.wi = true) (i : Nat) (ho : OutJ i) (hi : i < X.is.length) : X.call.getD i [] = if (i : Int) ∈ uniN ek pk then pickG pk pv ev i else X.base.getD i [] := by
  obtain ⟨_, _, h2⟩ := h.wi1 hw
  rw [h2 i ho hi, h.isx i ho hi]
  unfold pickG
  by_cases hp : (i : Int) ∈ pk
  · rw [if_pos hp, if_pos (mem_uniN.2 (.inr hp)), if_pos hp]
  · rw [if_neg hp]
    by_cases he : (i : Int) ∈ ek
    · rw [if_pos he, if_pos (mem_uniN.2 (.inl he)), if_neg hp]
    · rw [if_neg he, if_neg fun e => (mem_uniN.1 e).elim he hp]
theorem SPl.small (h : SPl X ek ev pk pv) (hw : X.wi = true) (hu : (uniN ek pk).length ≤ 37) (pv' : Int → List Int) : SPl { X with base := X.base, is := X.call, wi := false, dt := (uniN ek pk).length, ds := X.ds } (uniN ek pk) (pickG pk pv ev) [] pv' := by
  obtain ⟨_, hcl, _⟩ := h.wi1 hw
  have hcl' : X.call.length = X.is.length := hcl
  refine ⟨⟨?_, h.ok.pow, h.ok.un, fun e => Bool.noConfusion (show false = true from e), hu⟩, ?_, h.u0, ?_, fun x hx => absurd hx List.not_mem_nil, hu, Nat.zero_le _, rfl, ?_, fun _ => rfl, fun e => Bool.noConfusion (show false = true from e)⟩
  · show Lst X.call.length X.ds X.base
    rw [hcl']; exact h.ok.lst
  · show 64 ≤ X.call.length ∧ X.call.length ≤ 768
    rw [hcl']; exact h.n64
  · intro x hx
    show inK X.call.length x
    rw [hcl']
    exact (mem_uniN.1 hx).elim (h.ki x) (h.kp x)
  · intro i ho hi
    have hi' : i < X.call.length := hi
    exact h.merged hw i ho (by omega)
theorem uni_nil (pk : List Int) : uniN [] pk = pk := by
  unfold uniN
  rw [List.nil_append, List.filter_eq_self]
  intro x _
  simp
theorem SPl.great (h : SPl X ek ev pk pv) (hw : X.wi = true) {ds' : DS} (hl : Lst X.is.length ds' X.is) (hd : ds'.dn = false) (hU : ds'.U = []) (pv' : Int → List Int) : SPl { X with base := X.is, is := X.call, wi := false, dt := (uniN [] pk).length, ds := ds' } (uniN [] pk) (pickG pk pv ev) [] pv' := by
  obtain ⟨_, hcl, hcv⟩ := h.wi1 hw
  have hcl' : X.call.length = X.is.length := hcl
  have hpl : (uniN [] pk).length ≤ 37 := by rw [uni_nil]; exact h.pl
  refine ⟨⟨?_, hd, by show ds'.U.length ≤ 1000; rw [hU]; exact Nat.zero_le _, fun e => Bool.noConfusion (show false = true from e), hpl⟩, ?_, hU, ?_, fun x hx => absurd hx List.not_mem_nil, hpl, Nat.zero_le _, rfl, ?_, fun _ => rfl, fun e => Bool.noConfusion (show false = true from e)⟩
  · show Lst X.call.length ds' X.is
    rw [hcl']; exact hl
  · show 64 ≤ X.call.length ∧ X.call.length ≤ 768
    rw [hcl']; exact h.n64
  · intro x hx
    show inK X.call.length x
    rw [hcl']
    rw [uni_nil] at hx
    exact h.kp x hx
  · intro i ho hi
    have hi' : i < X.call.length := hi
    show X.call.getD i [] = if (i : Int) ∈ uniN [] pk then pickG pk pv ev i else X.is.getD i []
    rw [uni_nil, hcv i ho (by omega)]
    by_cases hp : (i : Int) ∈ pk
    · rw [if_pos hp, if_pos hp]; unfold pickG; rw [if_pos hp]
    · rw [if_neg hp, if_neg hp]
theorem SPl.okT (h : SPl X ek ev pk pv) (hn : ek.Nodup) (hv : ∀ x ∈ ek, (ev x).length = 256) : okT X.is.length (sortN ek) ((sortN ek).map ev) := set_ok hn h.el h.ki h.n64.2 hv
theorem SPl.set (h : SPl X ek ev pk pv) (hn : ek.Nodup) (hv : ∀ x ∈ ek, (ev x).length = 256) {q : Int} (hq : 0 ≤ q ∧ q < 4294967296) :
    let r := runA (setA q (sortN ek) ((sortN ek).map ev)) X.ds
    (r.1 = 0 → r.2.dn = false ∧ r.2.U = [] ∧ Lst X.is.length r.2 X.is) ∧ (r.1 = 2 → X.ds.fu = true ∧ DeadOk X.is.length r.2 [X.base, X.is]) := by
  intro r
  have hT := h.okT hn hv
  obtain ⟨h1, h2⟩ := set_plain h.ok.lst (by have := h.n64.1; omega) h.u0 h.ok.pow hT hq
  have hE := set_is (B := X.base) (I := X.is) h.ki h.base rfl h.isx
  refine ⟨fun h0 => ?_, fun h0 => ?_⟩
  · obtain ⟨a, b, c⟩ := h1 h0
    exact ⟨a, b, c.toO hE⟩
  · obtain ⟨a, b, c, e⟩ := h2 h0
    refine ⟨a, b, c, fun kp => ?_⟩
    obtain ⟨G, hG, hJ⟩ := e kp
    simp only [List.mem_cons, List.not_mem_nil, or_false] at hG
    rcases hG with rfl | rfl
    · exact ⟨_, by simp, hJ⟩
    · exact ⟨X.is, by simp, hJ.toO hE⟩
end
section
variable {w : World} {P : Nat → Prop} {d p : Value} {X : XSt}
theorem sEndNo_of (h : SInv w P d p X) (hw : X.wi = false) (k : Bool) : Calls Tryz.prog 20 #[p, .bool k] w (XOut SInv w P d p (17, X)) := by
  have h' := h
  obtain ⟨b, be, bp, Pd, q, ek, eg, ev, pk, pg, pv, rfl, hm, hpl, ho, hl⟩ := h
  rw [hw] at hm
  exact (sEnd_no hm k).mono fun e w' ⟨he, hww⟩ => by subst hww; exact ⟨he, P, h', Chg.refl _ _⟩
theorem sEndUndo_of (h : SInv w P d p X) (hw : X.wi = true) : Calls Tryz.prog 20 #[p, .bool false] w (XOut SInv w P d p (0, { X with wi := false })) := by
  obtain ⟨b, be, bp, Pd, q, ek, eg, ev, pk, pg, pv, rfl, hm, hpl, ho, hl⟩ := h
  rw [hw] at hm
  refine (sEnd_undo hm).mono ?_
  rintro e w' ⟨rfl, rfl⟩
  obtain ⟨hm', hsz, hext⟩ := hm.cleared pg pv
  refine ⟨rfl, _, sinv_of hm' (hpl.undo pv) hl hext.size ?_, (hext.sub fun k e => ho k (.inr (.inl e))).chg⟩
  intro k hk
  rcases hk with hk | rfl | rfl | rfl | ⟨x, hx, hg⟩ | ⟨x, hx, _⟩
  · exact .inl (ho k (.inl hk))
  · exact .inl (ho _ (.inr (.inl rfl)))
  · exact .inl (ho _ (.inr (.inr (.inl rfl))))
  · exact .inr (Nat.le_refl _)
  · exact .inl (ho k (.inr (.inr (.inr (.inr (.inl ⟨x, hx, hg⟩))))))
  · exact absurd hx List.not_mem_nil
theorem own_pick {ek pk : List Int} {eg pg : Int → Value} {x : Int} {k : Nat} (hx : x ∈ uniN ek pk) (hg : (pickG pk pg eg x).ownBlock = some k) : (∃ y, y ∈ ek ∧ (eg y).ownBlock = some k) ∨ ∃ y, y ∈ pk ∧ (pg y).ownBlock = some k := by
  unfold pickG at hg
  by_cases hp : x ∈ pk
  · rw [if_pos hp] at hg; exact .inr ⟨x, hp, hg⟩
  · rw [if_neg hp] at hg; exact .inl ⟨x, (mem_uniN.1 hx).resolve_right hp, hg⟩
theorem sEndKeep_of (h : SInv w P d p X) (hw : X.wi = true) : Calls Tryz.prog 20 #[p, .bool true] w fun e w' =>
    (∃ B dt ds', (B = X.base ∨ B = X.is ∨ B = X.call) ∧ ds'.fu = X.ds.fu ∧ XOut SInv w P d p (0, { X with base := B, is := X.call, wi := false, dt := dt, ds := ds' }) e w') ∨ XDead SDead w P d p X [X.base, X.is, X.call] e w' := by
  obtain ⟨b, be, bp, Pd, q, ek, eg, ev, pk, pg, pv, rfl, hm, hpl, ho, hl⟩ := h
  rw [hw] at hm
  have hv : ∀ x ∈ ek, (ev x).length = 256 := fun x hx => (hm.re x hx).2
  by_cases hu : (uniN ek pk).length ≤ 37
  · refine (sEnd_keep (Q := fun w1 => SMem w1 Pd b be bp d q (uniN ek pk) (pickG pk pg eg) (pickG pk pv ev) pk pg pv true X.ds ∧ Ext (fun k => k = be) w w1) hm ((sJoin_small hm hpl.el hpl.pl hu).mono fun e w1 ⟨he, h1, hx⟩ => ⟨he, ⟨h1, hx⟩, _, _, _, _, _, _, _, h1⟩)).mono ?_
    rintro e w' ⟨rfl, w1, ⟨hm1, hx1⟩, rfl⟩
    obtain ⟨hm', hsz, hext⟩ := hm1.cleared pg pv
    have hE : Ext (fun k => k = be ∨ k = b) w _ := (hx1.sub fun k e => .inl e).trans (P2 := fun k => k = b) hext fun k _ e => .inr e
    refine .inl ⟨X.base, (uniN ek pk).length, X.ds, .inl rfl, rfl, rfl, _, sinv_of hm' (hpl.small hw hu pv) hl hE.size ?_, (hE.sub fun k e => e.elim (fun e => ho k (.inr (.inr (.inl e)))) fun e => ho k (.inr (.inl e))).chg⟩
    intro k hk
    rcases hk with hk | rfl | rfl | rfl | ⟨x, hx, hg⟩ | ⟨x, hx, _⟩
    · exact .inl (ho k (.inl hk))
    · exact .inl (ho _ (.inr (.inl rfl)))
    · exact .inl (ho _ (.inr (.inr (.inl rfl))))
    · exact .inr hx1.size
    · exact .inl (ho k (.inr (.inr (.inr (.inr (own_pick hx hg))))))
    · exact absurd hx List.not_mem_nil
  · have hT := hpl.okT hm.me.nodup hv
    obtain ⟨s1, s2⟩ := hpl.set hm.me.nodup hv hm.q0
    have hB : takesT X.ds.F.length (sortN ek) ((sortN ek).map ev) = true := by rw [hpl.ok.lst.1]; exact hT.takes hpl.n64.1
    have KJ := sJoin_great hm hpl.el hpl.pl (by omega) hB (by rw [hpl.u0]; exact Nat.zero_le _)
    have hfu := runA_fu (setA q (sortN ek) ((sortN ek).map ev)) X.ds
    have hr := runA_two (setA q (sortN ek) ((sortN ek).map ev)) X.ds
    generalize runA (setA q (sortN ek) ((sortN ek).map ev)) X.ds = r at s1 s2 KJ hfu hr
    obtain ⟨r, s'⟩ := r
    rcases hr with h0 | h0
    · simp only at h0
      subst h0
      obtain ⟨g1, g2, g3⟩ := s1 rfl
      refine (sEnd_keep (Q := fun w1 => ∃ be' Pd' q', SMem w1 Pd' b be' bp d q' (uniN [] pk) (pickG pk pg eg) (pickG pk pv ev) pk pg pv true s' ∧ (w.heap.size ≤ be' ∧ be' < w1.heap.size) ∧ (∀ k, Pd' k → Pd k ∨ w.heap.size ≤ k) ∧ Ext (fun k => Pd k ∨ k = b) w w1) hm (KJ.mono fun e w1 hq => by
        rcases hq with ⟨_, he, hx⟩ | ⟨h2, _⟩
        · obtain ⟨be', Pd', q', h1, r⟩ := hx
          exact ⟨he, ⟨be', Pd', q', h1, r⟩, _, _, _, _, _, _, _, h1⟩
        · exact absurd (show (0 : Int) = 2 from h2) (by decide))).mono ?_
      rintro e w' ⟨rfl, w1, ⟨be', Pd', q', hm1, hbe, hpd, hx1⟩, rfl⟩
      obtain ⟨hm', hsz, hext⟩ := hm1.cleared pg pv
      have hE : Ext (fun k => Pd k ∨ k = b) w _ := hx1.trans (P2 := fun k => k = b) hext fun k _ e => .inr e
      refine .inl ⟨X.is, (uniN [] pk).length, s', .inr (.inl rfl), hfu, rfl, _, sinv_of hm' (hpl.great hw g3 g1 g2 pv) hl hE.size ?_, (hE.sub fun k e => e.elim (fun e => ho k (.inl e)) fun e => ho k (.inr (.inl e))).chg⟩
      intro k hk
      rcases hk with hk | rfl | rfl | rfl | ⟨x, hx, hg⟩ | ⟨x, hx, _⟩
      · exact (hpd k hk).imp (fun e => ho k (.inl e)) id
      · exact .inl (ho _ (.inr (.inl rfl)))
      · exact .inr hbe.1
      · exact .inr hx1.size
      · rw [uni_nil] at hx
        unfold pickG at hg
        rw [if_pos hx] at hg
        exact .inl (ho k (.inr (.inr (.inr (.inr (.inr ⟨x, hx, hg⟩))))))
      · exact absurd hx List.not_mem_nil
    · simp only at h0
      subst h0
      obtain ⟨g1, g2⟩ := s2 rfl
      refine (sEnd_dead (Q := fun w1 => ∃ Pd', w1.heap[b]? = some deadRow ∧ Dk w1 Pd' d s' ∧ (∀ k, Pd' k → Pd k ∨ w.heap.size ≤ k) ∧ Ext (fun k => Pd k ∨ k = b) w w1) hm (KJ.mono fun e w1 hq => by
        rcases hq with ⟨h2, _⟩ | ⟨_, he, hx⟩
        · exact absurd (show (2 : Int) = 0 from h2) (by decide)
        · exact ⟨he, hx⟩)).mono ?_
      rintro e w' ⟨rfl, Pd', hb, hdk, hpd, hx⟩
      obtain ⟨k1, k2, k3⟩ := g2
      refine .inr ⟨g1, rfl, grP P w w', s', ⟨b, Pd', rfl, hb, hdk, fun k hk => ?_, fun k hk => hk.elim (fun h => Nat.lt_of_lt_of_le (hl k h) hx.size) fun h => h.2⟩, (hx.sub fun k e => e.elim (fun e => ho k (.inl e)) fun e => ho k (.inr (.inl e))).chg, k1, k2, fun kp => ?_⟩
      · rcases hk with hk | rfl
        · exact (hpd k hk).imp (fun e => ho k (.inl e)) fun e => ⟨e, hdk.lt k hk⟩
        · exact .inl (ho _ (.inr (.inl rfl)))
      · obtain ⟨G, hG, hJ⟩ := k3 kp
        refine ⟨G, ?_, hJ⟩
        simp only [List.mem_cons, List.not_mem_nil, or_false] at hG ⊢
        rcases hG with e | e
        · exact .inl e
        · exact .inr (.inl e)
end
theorem open_mem {W : World} {P : Nat → Prop} {d : Value} {s : DS} {x : Int} (hd : Dk W P d s) (hx : 0 ≤ x ∧ x < 4294967296) (eg : Int → Value) (ev : Int → List Int) :
    let w' := ((W.alloc (.map #[] 0)).alloc (.map #[] 0)).alloc (.cells #[d, .int .u32 x, .map (some W.heap.size), .map (some (W.heap.size + 1)), .bool false, .bool false] 101)
    SMem w' P (W.heap.size + 1 + 1) W.heap.size (W.heap.size + 1) d x [] eg ev [] eg ev false s ∧ Below W.heap.size W w' ∧ w'.heap.size = W.heap.size + 3 := by
  intro w'
  obtain ⟨w1, hw1⟩ : ∃ w1, w1 = W.alloc (.map #[] 0) := ⟨_, rfl⟩
  obtain ⟨w2, hw2⟩ : ∃ w2, w2 = w1.alloc (.map #[] 0) := ⟨_, rfl⟩
  have hs1 : w1.heap.size = W.heap.size + 1 := by rw [hw1]; simp
  have hs2 : w2.heap.size = W.heap.size + 1 + 1 := by rw [hw2]; simp [hs1]
  have hw' : w' = w2.alloc (.cells #[d, .int .u32 x, .map (some W.heap.size), .map (some (W.heap.size + 1)), .bool false, .bool false] 101) := by rw [hw2, hw1]
  have b1 : Below W.heap.size W w1 := by rw [hw1]; exact below_box W _
  have b2 : Below w1.heap.size w1 w2 := by rw [hw2]; exact below_box w1 _
  have b3 : Below w2.heap.size w2 w' := by rw [hw']; exact below_box w2 _
  have hm1 : Mp w1 W.heap.size [] eg := by rw [hw1]; exact Mp.made W eg
  have hm2 : Mp w2 w1.heap.size [] eg := by rw [hw2]; exact Mp.made w1 eg
  have hb : Below W.heap.size W w' := b1.trans ((b2.trans (b3.mono b2.size)).mono b1.size)
  have hr : w'.heap[W.heap.size + 1 + 1]? = some (.cells #[d, .int .u32 x, .map (some W.heap.size), .map (some (W.heap.size + 1)), .bool false, .bool false] 101 (0, 0)) := by
    rw [← hs2, hw']; exact heap_alloc_new w2 _
  refine ⟨⟨hr, hd.below hb, hx, (hm1.keep (b2.block _ (by rw [hs1]; omega))).keep (b3.block _ (by rw [hs2]; omega)), ?_, by omega, fun x hx => absurd hx List.not_mem_nil, fun x hx => absurd hx List.not_mem_nil⟩, hb, by rw [hw']; simp [hs2]⟩
  rw [← hs1]
  exact hm2.keep (b3.block _ (by rw [hs2, hs1]; omega))
theorem sOpen_of {w : World} {P : Nat → Prop} {d : Value} {ds : DS} {n : Nat} {G : List (List Int)} (h : Dk w P d ds) (h64 : 64 ≤ n) (h768 : n ≤ 768) (hU : ds.U = []) (hd : ds.dn = false) (hJ : Jst n ds.F G) : Calls Tryz.prog 24 #[d] w fun e w' =>
    (∃ p ds' P', e = .returned (.tuple #[p, .int .i64 0]) ∧ ds'.fu = ds.fu ∧ SInv w' P' d p ⟨G, G, [], [], false, 0, ds'⟩ ∧ Chg P P' w w') ∨
      (ds.fu = true ∧ e = .returned (.tuple #[.pointer none, .int .i64 2]) ∧ ∃ ds' P', Dk w' P' d ds' ∧ Chg P P' w w' ∧ DeadOk n ds' [G]) := by
  have KR := Lib.hid (recover_any h h64 hU hd hJ)
  have hlt := fun k hk => h.lt k hk
  have HL := Lib.hid hlt
  have HG : Hid (G.length = n) := Lib.hid hJ.2.1
  have H64 := Lib.hid (And.intro h64 h768)
  have hmm := @run_makeMap Tryz.prog
  obtain ⟨bd, rfl⟩ := h.ptr
  clear h h64 h768 hU hd hJ hlt
  go_enter Tryz.func24, Tryz.ntmps24
  go_upto_region 2 with (go_at_call 65; (with_reducible refine KR.out.mono ?_); rintro e w1 ⟨x, r, s', P1, rfl, hd1, hc1, hu1, hf1, hr1, hcr, h0, hf0, hx, hfu⟩
                         have HD := Lib.hid hd1
                         have HC := Lib.hid hc1
                         have HCR := Lib.hid (And.intro hu1 (And.intro hf1 hcr))
                         have H0 := Lib.hid h0
                         have HF0 := Lib.hid hf0
                         have HX := Lib.hid hx
                         have HFU := Lib.hid hfu
                         have HR := Lib.hid hr1
                         clear hd1 hc1 hu1 hf1 hcr h0 hf0 hx hfu hr1)
  rcases HR.out with e0 | e0
  · subst e0
    go_wp2
    go_ret2
    obtain ⟨g1, g2, g3⟩ := H0.out (by first | rfl | trivial)
    obtain ⟨hm, hb, hsz⟩ := open_mem HD.out HX.out (fun _ => undef) (fun _ => [])
    have hE : Ext P w _ := (Ext.of_chg HC.out fun k hk => hk).trans (P2 := P) (Ext.of_below hb) fun k _ e => e
    refine .inl ⟨_, rfl, s', HFU.out, _, sinv_of (X := ⟨G, G, [], [], false, 0, s'⟩) (P := P) hm ⟨⟨by show Lst G.length s' G; rw [HG.out]; exact g3, g1, by rw [g2]; exact Nat.zero_le _, fun e => Bool.noConfusion (show false = true from e), Nat.zero_le _⟩, by show 64 ≤ G.length ∧ G.length ≤ 768; rw [HG.out]; exact H64.out, g2, fun x hx => absurd hx List.not_mem_nil, fun x hx => absurd hx List.not_mem_nil, Nat.zero_le _, Nat.zero_le _, rfl, fun i _ _ => (if_neg List.not_mem_nil).symm, fun _ => rfl, fun e => Bool.noConfusion (show false = true from e)⟩ HL.out hE.size ?_, hE.chg⟩
    intro k hk
    have hs := HC.out.size
    rcases hk with hk | rfl | rfl | rfl | ⟨x, hx, _⟩ | ⟨x, hx, _⟩
    · exact chg_new HC.out hk
    · exact .inr (by omega)
    · exact .inr (by omega)
    · exact .inr (by omega)
    · exact absurd hx List.not_mem_nil
    · exact absurd hx List.not_mem_nil
  · subst e0
    go_wp2
    go_ret2
    refine .inr ⟨?_, rfl, s', P1, HD.out, HC.out, HCR.out.1, HCR.out.2.1, fun kp => ⟨G, by simp, HCR.out.2.2 kp⟩⟩
    cases hf : ds.fu
    · exact absurd (HF0.out hf) (by decide)
    · rfl
theorem landed : Sto SInv SDead where
  plain h := by obtain ⟨_, _, _, _, _, _, _, _, _, _, _, _, _, hpl, _⟩ := h; exact hpl.ok
  ptr h := by obtain ⟨b, _, _, _, _, _, _, _, _, _, _, hp, _⟩ := h; exact ⟨b, hp⟩
  lt h := by obtain ⟨_, _, _, _, _, _, _, _, _, _, _, _, _, _, _, hl⟩ := h; exact hl
  keep h hs hk := h.keep hs hk
  disk h := by obtain ⟨_, _, _, Pd, _, _, _, _, _, _, _, _, hm, _, ho, _⟩ := h; exact ⟨Pd, fun k hk => ho k (.inl hk), hm.dk⟩
  deadLt h := by obtain ⟨_, _, _, _, _, _, hl⟩ := h; exact hl
  deadKeep h hs hk := h.keep hs hk
  deadDisk h := by obtain ⟨_, Pd, _, _, hd, ho, _⟩ := h; exact ⟨Pd, fun k hk => ho k (.inl hk), hd⟩
  begin h := sBegin_of h
  put h hv hn hj := sPut_of h hv hn hj
  getOut h _ ho := sGet_out h ho
  getIn h hn := sGet_in h hn
  endNo h hw := sEndNo_of h hw _
  endUndo h hw := sEndUndo_of h hw
  endKeep h hw := sEndKeep_of h hw
  opens h h64 h768 hU hd hJ := sOpen_of h h64 h768 hU hd hJ
end Go.Proofs.YtekeoljfdnfbgaaGreat
namespace Go.Proofs.YtekeoljfdnfbgaaGreat
set_option maxRecDepth 100000
open Go.RowKit BM
def takeNo (b l i j : Int) : Prop := frmB b = false ∨ frmB l = false ∨ b < l ∨ frmO i j = false ∨ i = 0 ∨ i = 65535
theorem spTake_no {b l g i j : Int} (hb : b ≤ 9223372036854775807) (hl : l ≤ 9223372036854775807) (hi : 0 ≤ i ∧ i ≤ 65535) (hj : 0 ≤ j ∧ j ≤ 65535) (hno : takeNo b l i j) (p : Value) (w : World) :
    Calls Tryz.prog 43 #[p, .int .i64 b, .int .i64 l, .int .i64 g, .agg #[.int .u16 i, .int .u16 j]] w fun e w' => e = .returned (.tuple #[.int .i64 0, .int .i64 1]) ∧ Below w.heap.size w w' := by
  have hb1 := below_box w (.cells #[.int .u16 i, .int .u16 j] 38)
  cases h1 : frmB b
  · have K1 := Lib.hid (fun W : World => gFormed_no b hb h1 W)
    clear hno h1
    go_enter Tryz.func43, Tryz.ntmps43
    go_wp2_with (go_at_call 82; refine (K1.out _).mono ?_; rintro e w' ⟨rfl, rfl⟩)
    go_ret2
    exact ⟨rfl, hb1⟩
  · have K1 : Hid (∀ W : World, Calls Tryz.prog 82 #[.int .i64 b] W fun e w' => e = .returned (.bool true) ∧ W = w') := Lib.hid fun W => by rw [← h1]; exact gFormed_any b hb W
    cases h2 : frmB l
    · have K2 := Lib.hid (fun W : World => gFormed_no l hl h2 W)
      clear hno h1 h2
      go_enter Tryz.func43, Tryz.ntmps43
      go_wp2_with (first
        | (go_at_call 82; (with_reducible refine (K1.out _).mono ?_); rintro e w' ⟨rfl, rfl⟩)
        | (go_at_call 82; (with_reducible refine (K2.out _).mono ?_); rintro e w' ⟨rfl, rfl⟩))
      go_ret2
      exact ⟨rfl, hb1⟩
    · have K2 : Hid (∀ W : World, Calls Tryz.prog 82 #[.int .i64 l] W fun e w' => e = .returned (.bool true) ∧ W = w') := Lib.hid fun W => by rw [← h2]; exact gFormed_any l hl W
      by_cases h3 : b < l
      · clear hno h1 h2
        go_enter Tryz.func43, Tryz.ntmps43
        go_wp2_with (first
          | (go_at_call 82; (with_reducible refine (K1.out _).mono ?_); rintro e w' ⟨rfl, rfl⟩)
          | (go_at_call 82; (with_reducible refine (K2.out _).mono ?_); rintro e w' ⟨rfl, rfl⟩))
        go_ret2
        exact ⟨rfl, hb1⟩
      · cases h4 : freeP i j
        · have K3 := Lib.hid (spFree_is i j false h4)
          cases h5 : frmO i j
          · have K4 := Lib.hid (grForm_is i j hi hj false h5)
            have HR := Lib.hid (fun (W : World) (hb : Below (w.alloc (.cells #[.int .u16 i, .int .u16 j] 38)).heap.size (w.alloc (.cells #[.int .u16 i, .int .u16 j] 38)) W) => show W.cell? ⟨w.heap.size, 0, none⟩ = some (.int .u16 i) ∧ W.cell? ⟨w.heap.size, 1, none⟩ = some (.int .u16 j) from ⟨cell_of_row _ _ _ _ _ _ (below_hold (heap_alloc_new w _) hb), cell_of_row _ _ _ _ _ _ (below_hold (heap_alloc_new w _) hb)⟩)
            have HB1 := Lib.hid hb1
            clear hno h1 h2 h4 h5 hb1
            go_enter Tryz.func43, Tryz.ntmps43
            go_wp2_with (first
              | (go_at_call 82; (with_reducible refine (K1.out _).mono ?_); rintro e w' ⟨rfl, rfl⟩)
              | (go_at_call 82; (with_reducible refine (K2.out _).mono ?_); rintro e w' ⟨rfl, rfl⟩)
              | (go_at_call 83; refine (K3.out _).mono ?_; rintro e w2 ⟨rfl, hb2⟩; obtain ⟨c0, c1⟩ := HR.out _ hb2; have hb02 := HB1.out.trans (hb2.mono HB1.out.size))
              | (go_at_call 84; refine (K4.out _).mono ?_; rintro e w3 ⟨rfl, hb3⟩))
            go_ret2
            exact ⟨rfl, hb02.trans (hb3.mono hb02.size)⟩
          · have K4 := Lib.hid (grForm_is i j hi hj true h5)
            obtain rfl : i = 65535 := by
              have e0 : i ≠ 0 := fun e => by subst e; rw [frm_zero h5] at h4; exact absurd h4 (by decide)
              rcases hno with h | h | h | h | h | h
              · rw [h1] at h; cases h
              · rw [h2] at h; cases h
              · exact absurd h h3
              · rw [h5] at h; cases h
              · exact absurd h e0
              · exact h
            have HR := Lib.hid (fun (W : World) (hb : Below (w.alloc (.cells #[.int .u16 65535, .int .u16 j] 38)).heap.size (w.alloc (.cells #[.int .u16 65535, .int .u16 j] 38)) W) => show W.cell? ⟨w.heap.size, 0, none⟩ = some (.int .u16 65535) ∧ W.cell? ⟨w.heap.size, 1, none⟩ = some (.int .u16 j) from ⟨cell_of_row _ _ _ _ _ _ (below_hold (heap_alloc_new w _) hb), cell_of_row _ _ _ _ _ _ (below_hold (heap_alloc_new w _) hb)⟩)
            have HB1 := Lib.hid hb1
            clear hno h1 h2 h4 h5 hb1
            go_enter Tryz.func43, Tryz.ntmps43
            go_wp2_with (first
              | (go_at_call 82; (with_reducible refine (K1.out _).mono ?_); rintro e w' ⟨rfl, rfl⟩)
              | (go_at_call 82; (with_reducible refine (K2.out _).mono ?_); rintro e w' ⟨rfl, rfl⟩)
              | (go_at_call 83; refine (K3.out _).mono ?_; rintro e w2 ⟨rfl, hb2⟩; obtain ⟨c0, c1⟩ := HR.out _ hb2; have hb02 := HB1.out.trans (hb2.mono HB1.out.size))
              | (go_at_call 84; refine (K4.out _).mono ?_; rintro e w3 ⟨rfl, hb3⟩; obtain ⟨c30, c31⟩ := HR.out _ (hb2.trans (hb3.mono hb2.size))))
            go_ret2
            exact ⟨rfl, hb02.trans (hb3.mono hb02.size)⟩
        · have K3 := Lib.hid (spFree_is i j true h4)
          have HB1 := Lib.hid hb1
          clear hno h1 h2 h4 hb1
          go_enter Tryz.func43, Tryz.ntmps43
          go_wp2_with (first
            | (go_at_call 82; (with_reducible refine (K1.out _).mono ?_); rintro e w' ⟨rfl, rfl⟩)
            | (go_at_call 82; (with_reducible refine (K2.out _).mono ?_); rintro e w' ⟨rfl, rfl⟩)
            | (go_at_call 83; refine (K3.out _).mono ?_; rintro e w2 ⟨rfl, hb2⟩))
          go_ret2
          exact ⟨rfl, HB1.out.trans (hb2.mono HB1.out.size)⟩
section
variable {w : World} {P : Nat → Prop} {d p : Value} {X : XSt} {O D : List (Int × Int)} {k : Nat}
structure TakeK (w : World) (p : Value) (O : List (Int × Int)) (a m : Nat) (g i j : Int) (P : Nat → Prop) : Prop where
  f1 : ∀ W : World, Calls Tryz.prog 82 #[.int .i64 (64 * (a : Int))] W fun e w' => e = .returned (.bool true) ∧ W = w'
  f2 : ∀ W : World, Calls Tryz.prog 82 #[.int .i64 (64 * (m : Int))] W fun e w' => e = .returned (.bool true) ∧ W = w'
  fr : ∀ W : World, Calls Tryz.prog 83 #[.agg #[.int .u16 i, .int .u16 j]] W fun e w' => e = .returned (.bool false) ∧ Below W.heap.size W w'
  fo : ∀ W : World, Calls Tryz.prog 84 #[.agg #[.int .u16 i, .int .u16 j]] W fun e w' => e = .returned (.bool true) ∧ Below W.heap.size W w'
  us : ∀ W : World, Below w.heap.size w W → Calls Tryz.prog 85 #[p, .int .i64 (64 * (a : Int))] W fun e w' => e = .returned (.tuple #[.int .i64 (cntU O (64 * a)), .int .i64 0]) ∧ Below W.heap.size W w'
  op : ∀ W : World, Calls Tryz.prog 86 #[.int .i64 (64 * (m : Int))] W fun e w' => e = .returned (.int .i64 (62 * (m : Int) - 42)) ∧ W = w'
  fi : ∀ W : World, Below w.heap.size w W → Calls Tryz.prog 87 #[p, .int .i64 (64 * (m : Int)), .int .i64 g] W fun e w' => e = .returned (.tuple #[.int .i64 (findS O (64 * m) (goalS (64 * m) g)), .int .i64 0]) ∧ Below W.heap.size W w'
theorem takeK (h : SInv w P d p X) (hH : Has X.cur O k) (hO : OOk O k) {a m : Nat} (hm1 : 1 ≤ m) (hma : m ≤ a) (hak : a ≤ k) (g : Int) {i j : Int} (hi : 0 ≤ i ∧ i ≤ 65535) (hj : 0 ≤ j ∧ j ≤ 65535) (hf : frmO i j = true) (h0 : i ≠ 0) : TakeK w p O a m g i j P := by
  have h12 := hO.k12
  exact ⟨fun W => gFormed_yes a (by omega) (by omega) W, fun W => gFormed_yes m hm1 (by omega) W, spFree_is i j false (by rw [freeP, show (i == 0) = false by simpa using h0]; rfl), grForm_is i j hi hj true hf,
    fun W hb => spUsed_yes (h.low hb) hH hO (by omega) hak, fun W => gOpen_yes m hm1 (by omega) W, fun W hb => spFind_yes (h.low hb) hH hO hm1 (by omega) g⟩
theorem spTake_full (h : SInv w P d p X) (hH : Has X.cur O k) (hO : OOk O k) {a m : Nat} (hm1 : 1 ≤ m) (hma : m ≤ a) (hak : a ≤ k) (g : Int) {i j : Int} (hi : 0 ≤ i ∧ i ≤ 65535) (hj : 0 ≤ j ∧ j ≤ 65535) (hf : frmO i j = true) (h0 : i ≠ 0) (h6 : i ≠ 65535) (hc : 62 * (m : Int) - 42 ≤ cntU O (64 * a)) :
    Calls Tryz.prog 43 #[p, .int .i64 (64 * (a : Int)), .int .i64 (64 * (m : Int)), .int .i64 g, .agg #[.int .u16 i, .int .u16 j]] w fun e w' => e = .returned (.tuple #[.int .i64 0, .int .i64 13]) ∧ Below w.heap.size w w' := by
  have h12 := hO.k12
  have K := Lib.hid (takeK h hH hO hm1 hma hak g hi hj hf h0)
  have HR := Lib.hid (fun (W : World) (hb : Below (w.alloc (.cells #[.int .u16 i, .int .u16 j] 38)).heap.size (w.alloc (.cells #[.int .u16 i, .int .u16 j] 38)) W) => show W.cell? ⟨w.heap.size, 0, none⟩ = some (.int .u16 i) ∧ W.cell? ⟨w.heap.size, 1, none⟩ = some (.int .u16 j) from ⟨cell_of_row _ _ _ _ _ _ (below_hold (heap_alloc_new w _) hb), cell_of_row _ _ _ _ _ _ (below_hold (heap_alloc_new w _) hb)⟩)
  have HB1 := Lib.hid (below_box w (.cells #[.int .u16 i, .int .u16 j] 38))
  have hib : (i == 65535) = false := by simpa using h6
  have hma' : ¬ (64 * (a : Int) < 64 * (m : Int)) := by omega
  obtain ⟨U, hU⟩ : ∃ U, U = cntU O (64 * a) := ⟨_, rfl⟩
  have KU : Hid (∀ W : World, Below w.heap.size w W → Calls Tryz.prog 85 #[p, .int .i64 (64 * (a : Int))] W fun e w' => e = .returned (.tuple #[.int .i64 U, .int .i64 0]) ∧ Below W.heap.size W w') := Lib.hid (by rw [hU]; exact K.out.us)
  rw [← hU] at hc
  clear h hH hO hi hj hf h0 h6 hU hm1 hak h12
  go_enter Tryz.func43, Tryz.ntmps43
  go_wp2_with (first
    | (go_at_call 82; (with_reducible refine (K.out.f1 _).mono ?_); rintro e w' ⟨rfl, rfl⟩)
    | (go_at_call 82; (with_reducible refine (K.out.f2 _).mono ?_); rintro e w' ⟨rfl, rfl⟩)
    | (go_at_call 83; refine (K.out.fr _).mono ?_; rintro e w2 ⟨rfl, hb2⟩; obtain ⟨c0, c1⟩ := HR.out _ hb2; have hb02 := HB1.out.trans (hb2.mono HB1.out.size))
    | (go_at_call 84; refine (K.out.fo _).mono ?_; rintro e w3 ⟨rfl, hb3⟩; obtain ⟨c30, c31⟩ := HR.out _ (hb2.trans (hb3.mono hb2.size)); have hb03 := hb02.trans (hb3.mono hb02.size))
    | (go_at_call 85; refine (KU.out _ hb03).mono ?_; rintro e w4 ⟨rfl, hb4⟩; have hb04 := hb03.trans (hb4.mono hb03.size))
    | (go_at_call 86; refine (K.out.op _).mono ?_; rintro e w' ⟨rfl, rfl⟩))
  go_ret2
  exact ⟨rfl, hb04⟩
end
section
variable {w : World} {P : Nat → Prop} {d p : Value} {X : XSt} {O D : List (Int × Int)} {k : Nat}
theorem spTake_yes (h : SInv w P d p X) (hw : X.wi = true) (hp0 : X.put = []) (hH : Has X.call O k) (hO : OOk O k) {a m : Nat} (hm1 : 1 ≤ m) (hma : m ≤ a) (hak : a ≤ k) (g : Int) {i j : Int} (hi : 0 ≤ i ∧ i ≤ 65535) (hj : 0 ≤ j ∧ j ≤ 65535) (hf : frmO i j = true) (h0 : i ≠ 0) (h6 : i ≠ 65535) {f : Nat}
    (hc : (cntU O (64 * a) : Int) < 62 * (m : Int) - 42) (hfm : f < 64 * m) (hfs : findS O (64 * m) (goalS (64 * m) g) = f) (hfx : fixB (f : Int) = false) :
    Calls Tryz.prog 43 #[p, .int .i64 (64 * (a : Int)), .int .i64 (64 * (m : Int)), .int .i64 g, .agg #[.int .u16 i, .int .u16 j]] w fun e w' => e = .returned (.tuple #[.int .i64 f, .int .i64 0]) ∧ ∃ P', SInv w' P' d p (putX X (f / 64) (grO (O.set f (i, j)) (f / 64))) ∧ Chg P P' w w' := by
  have h12 := hO.k12
  have hcur : X.cur = X.call := by unfold XSt.cur; rw [if_pos hw]
  have hH' : Has X.cur O k := by rw [hcur]; exact hH
  have K := Lib.hid (takeK h hH' hO hm1 hma hak g hi hj hf h0)
  have HR := Lib.hid (fun (W : World) (hb : Below (w.alloc (.cells #[.int .u16 i, .int .u16 j] 38)).heap.size (w.alloc (.cells #[.int .u16 i, .int .u16 j] 38)) W) => show W.cell? ⟨w.heap.size, 0, none⟩ = some (.int .u16 i) ∧ W.cell? ⟨w.heap.size, 1, none⟩ = some (.int .u16 j) from ⟨cell_of_row _ _ _ _ _ _ (below_hold (heap_alloc_new w _) hb), cell_of_row _ _ _ _ _ _ (below_hold (heap_alloc_new w _) hb)⟩)
  have HB1 := Lib.hid (below_box w (.cells #[.int .u16 i, .int .u16 j] 38))
  have hib : (i == 65535) = false := by simpa using h6
  have hma' : ¬ (64 * (a : Int) < 64 * (m : Int)) := by omega
  obtain ⟨U, hU⟩ : ∃ U, U = cntU O (64 * a) := ⟨_, rfl⟩
  have KU : Hid (∀ W : World, Below w.heap.size w W → Calls Tryz.prog 85 #[p, .int .i64 (64 * (a : Int))] W fun e w' => e = .returned (.tuple #[.int .i64 U, .int .i64 0]) ∧ Below W.heap.size W w') := Lib.hid (by rw [hU]; exact K.out.us)
  have KFi : Hid (∀ W : World, Below w.heap.size w W → Calls Tryz.prog 87 #[p, .int .i64 (64 * (m : Int)), .int .i64 g] W fun e w' => e = .returned (.tuple #[.int .i64 f, .int .i64 0]) ∧ Below W.heap.size W w') := Lib.hid (by rw [← hfs]; exact K.out.fi)
  have KS : Hid (∀ W : World, Below w.heap.size w W → Calls Tryz.prog 88 #[p, .int .i64 f, .agg #[.int .u16 i, .int .u16 j]] W fun e w' => e = .returned (.int .i64 0) ∧ ∃ P', SInv w' P' d p (putX X (f / 64) (grO (O.set f (i, j)) (f / 64))) ∧ Chg P P' W w') := Lib.hid fun W hb => spSet_yes (h.low hb) hw hp0 hH hO (by omega) hfx hi hj hf h6
  rw [← hU] at hc
  have hc' : ¬ (62 * (m : Int) - 42 ≤ (U : Int)) := by omega
  clear h hw hp0 hH hH' hcur hO hi hj hf h0 h6 hU hm1 hak h12 hfm hfs hfx
  go_enter Tryz.func43, Tryz.ntmps43
  go_wp2_with (first
    | (go_at_call 82; (with_reducible refine (K.out.f1 _).mono ?_); rintro e w' ⟨rfl, rfl⟩)
    | (go_at_call 82; (with_reducible refine (K.out.f2 _).mono ?_); rintro e w' ⟨rfl, rfl⟩)
    | (go_at_call 83; refine (K.out.fr _).mono ?_; rintro e w2 ⟨rfl, hb2⟩; obtain ⟨c0, c1⟩ := HR.out _ hb2; have hb02 := HB1.out.trans (hb2.mono HB1.out.size))
    | (go_at_call 84; refine (K.out.fo _).mono ?_; rintro e w3 ⟨rfl, hb3⟩; have hb13 := hb2.trans (hb3.mono hb2.size); obtain ⟨c30, c31⟩ := HR.out _ hb13; have hb03 := hb02.trans (hb3.mono hb02.size))
    | (go_at_call 85; refine (KU.out _ hb03).mono ?_; rintro e w4 ⟨rfl, hb4⟩; have hb14 := hb13.trans (hb4.mono hb13.size); have hb04 := hb03.trans (hb4.mono hb03.size))
    | (go_at_call 86; refine (K.out.op _).mono ?_; rintro e w' ⟨rfl, rfl⟩)
    | (go_at_call 87; refine (KFi.out _ hb04).mono ?_; rintro e w5 ⟨rfl, hb5⟩; have hb15 := hb14.trans (hb5.mono hb14.size); obtain ⟨c50, c51⟩ := HR.out _ hb15; have hb05 := hb04.trans (hb5.mono hb04.size))
    | (go_at_call 88; refine (KS.out _ hb05).mono ?_; rintro e w6 ⟨rfl, P6, hi6, hc6⟩))
  go_ret2
  exact ⟨rfl, P6, hi6, (Chg.of_below hb05).trans hc6⟩
end
end Go.Proofs.YtekeoljfdnfbgaaGreat
namespace Go.Proofs.YtekeoljfdnfbgaaGreat
set_option maxRecDepth 100000
open Go.RowKit
def dmg (G : List (List Int)) (n : Nat) : Nat → List (List Int)
  | 0 => List.replicate n zb
  | k + 1 => if (G.getD k []).length = 256 then (dmg G n k).set k (G.getD k []) else dmg G n k
theorem dmg_length (G : List (List Int)) (n : Nat) : ∀ k, (dmg G n k).length = n
  | 0 => List.length_replicate
  | k + 1 => by unfold dmg; split; · rw [List.length_set]; exact dmg_length G n k
                · exact dmg_length G n k
theorem dmg_get (G : List (List Int)) (n : Nat) : ∀ k i, i < n → k ≤ n → (dmg G n k).getD i [] = if i < k ∧ (G.getD i []).length = 256 then G.getD i [] else zb
  | 0, i, hi, _ => by rw [if_neg (by omega)]; unfold dmg; rw [List.getD_eq_getElem?_getD, List.getElem?_replicate, if_pos hi]; rfl
  | k + 1, i, hi, hk => by
    have ih := dmg_get G n k i hi (by omega)
    have hl := dmg_length G n k
    unfold dmg
    by_cases h : (G.getD k []).length = 256
    · rw [if_pos h, BM.getD_set _ _ _ _ _ (by omega), ih]
      by_cases e : i = k
      · rw [if_pos e, e, if_pos ⟨by omega, h⟩]
      · rw [if_neg e]
        by_cases hc : i < k ∧ (G.getD i []).length = 256
        · rw [if_pos hc, if_pos ⟨by omega, hc.2⟩]
        · rw [if_neg hc, if_neg (fun h2 => hc ⟨by omega, h2.2⟩)]
    · rw [if_neg h, ih]
      by_cases hc : i < k ∧ (G.getD i []).length = 256
      · rw [if_pos hc, if_pos ⟨by omega, hc.2⟩]
      · rw [if_neg hc, if_neg (fun h2 => ?_)]
        by_cases e : i = k
        · rw [e] at h2; exact h h2.2
        · exact hc ⟨by omega, h2.2⟩
theorem descS_len (g : Int) (L : List Bool) (h : L.length = 64) : (descS g L).length = 256 := by rw [descS]; exact sealS_length _ (by rw [descC_length _ _ h]; decide)
theorem dmg_has {G : List (List Int)} {O : List (Int × Int)} {kk : Nat} (h : P2 G O kk kk) (hO : O.length = 64 * kk) : Has (dmg G (64 * kk) (64 * kk)) O kk := by
  refine ⟨dmg_length _ _ _, fun g hg => ?_, fun g hg => ?_⟩
  · have hin := dscN_in hg
    have h1 := (h.ds g hg).1
    rw [dmg_get _ _ _ _ (by omega) (Nat.le_refl _), if_pos ⟨by omega, by rw [h1]; exact descS_len _ _ (usedK_length _ _)⟩, h1]
  · have hin := dscN_in hg
    have h1 := (h.ds g hg).2
    rw [dmg_get _ _ _ _ (by omega) (Nat.le_refl _), if_pos ⟨by omega, by rw [h1]; exact pageS_length (grO_length hO hg)⟩, h1]
theorem dmg_tab {G : List (List Int)} {kk : Nat} (h : New3 G kk) (h1 : 1 ≤ kk) (h2 : kk ≤ 12) : Tab (dmg G (64 * kk) (64 * kk)) (newS kk) newN := by
  have e : ∀ i, i < 64 → (G.getD i []).length = 256 → (dmg G (64 * kk) (64 * kk)).getD i [] = G.getD i [] := fun i hi hl => by
    rw [dmg_get _ _ _ _ (by omega) (Nat.le_refl _), if_pos ⟨by omega, hl⟩]
  refine New3.tab ⟨fun t ht => ?_, ?_, ?_⟩ h1 h2 (dmg_length _ _ _)
  · rw [e _ (by omega) (by rw [h.t t ht]; exact encT_len _)]; exact h.t t ht
  · rw [e _ (by decide) (by rw [h.g0]; exact encS_len)]; exact h.g0
  · rw [e _ (by decide) (by rw [h.g63]; exact encS_len)]; exact h.g63
theorem dmg_Jst {G : List (List Int)} {O : List (Int × Int)} {kk : Nat} (h : P2 G O kk kk) (h1 : 1 ≤ kk) : Jst (64 * kk) (dmg G (64 * kk) (64 * kk)) (dmg G (64 * kk) (64 * kk)) := by
  refine ⟨dmg_length _ _ _, dmg_length _ _ _, .inr ⟨rfl, ?_, fun _ _ _ => rfl⟩⟩
  rw [dmg_get _ _ _ _ (by omega) (Nat.le_refl _), h.jr 42 (by decide) (by decide)]
  split <;> rfl
theorem BBa.cellAt {w : World} {P : Nat → Prop} {g n cap k : Nat} {L : List (List Int)} (h : BBa w P (.slice (some ⟨g, 0, none⟩) n cap) L) (hk : k < L.length) : ∃ u, w.cell? ⟨g, k, none⟩ = some u ∧ BSl w u (L.getD k []) := by
  rcases h with ⟨e, _⟩ | ⟨a, cap', e, _, hc⟩
  · cases e
  · injection e with e1 _ _
    injection e1 with e1
    subst e1
    obtain ⟨_, _, u, h3, h4, _⟩ := hc k hk
    exact ⟨u, by simpa using h3, h4⟩
theorem laid12_tab {kk : Nat} (h1 : 1 ≤ kk) (h2 : kk ≤ 12) (w : World) : Calls Tryz.prog 8 #[.int .i64 (64 * (kk : Int)), .int .i64 (64 * (kk : Int))] w fun e w' => ∃ b P d G ds, e = .returned (.pointer (some ⟨b, 0, none⟩)) ∧ SInv w' P d (.pointer (some ⟨b, 0, none⟩)) ⟨G, G, [], [], false, 0, ds⟩ ∧ ds.fu = false ∧ Has G (newO kk) kk ∧ Tab G (newS kk) newN ∧ (∀ x, P x → w.heap.size ≤ x) ∧ Below w.heap.size w w' := by
  have KN := Lib.hid (fun (W : World) => kNew W (64 * kk) (by omega))
  rw [show ((64 * kk : Nat) : Int) = 64 * (kk : Int) by omega] at KN
  have KFr := Lib.hid (fun (W : World) => rFresh_is h1 h2 W)
  go_enter Tryz.func8, Tryz.ntmps8
  go_wp2_with (first
    | (go_at_call 21; refine (KN.out _).mono ?_; rintro e w1 ⟨d, P, rfl, hd1, hP1, hb1⟩)
    | (go_at_call 22; refine (KFr.out _).mono ?_; rintro e w2 ⟨v, G, rfl, hG, hP2, hN3, hb2⟩; have hd2 := hd1.below hb2; have hbba := hG.apart hd2; obtain ⟨gv, cv, ev, _, _⟩ := BB2.shape0 hG.bb2 (by rw [hP2.len]; omega); rw [hP2.len] at ev; subst ev))
  have HD0 : Hid (Dk w2 P d ⟨dmg G (64 * kk) 0, [], false, 0, false⟩) := Lib.hid hd2
  have HC0 : Hid (Chg P P w2 w2) := Lib.hid (Chg.refl _ _)
  have HBA := Lib.hid hbba
  have HP2 := Lib.hid hP2
  have HN3 := Lib.hid hN3
  have HPW := Lib.hid hP1
  have HB2 : Hid (Below w.heap.size w w2) := Lib.hid (hb1.trans (hb2.mono hb1.size))
  clear hd1 hP1 hb1 hG hP2 hN3 hb2 hd2 hbba KN KFr
  go_loopw [17] (fun i WI => ∃ k : Nat, k ≤ 64 * kk ∧ i = .int .i64 k ∧ Hid (Dk WI P d ⟨dmg G (64 * kk) k, [], false, 0, false⟩) ∧ Hid (Chg P P w2 WI)) (fun i _ => 64 * kk - (intOf i).toNat)
  case atStart => exact ⟨0, by omega, rfl, HD0, HC0⟩
  case round =>
    obtain ⟨k, hk, rfl, HD, HC⟩ := hrel
    clear HD0 HC0
    by_cases hlt : k < 64 * kk
    · have ekt : (k : Int) < 64 * (kk : Int) := by omega
      obtain ⟨u, hu, hs⟩ := (HBA.out.chg HC.out).cellAt (k := k) (by rw [HP2.out.len]; exact hlt)
      have KD := Lib.hid (kDamage HD.out rfl (n := k) (by show k < (dmg G (64 * kk) k).length; rw [dmg_length]; exact hlt) hs)
      clear hs
      go_wp2_with (go_at_call 23; refine KD.out.mono ?_; rintro e w3 ⟨⟨x, rfl⟩, hd3, hc3⟩)
      have HD3 : Hid (Dk w3 P d ⟨dmg G (64 * kk) (k + 1), [], false, 0, false⟩) := Lib.hid hd3
      have HC3 := Lib.hid (HC.out.trans hc3)
      clear hd3 hc3
      go_roundw
      case rel => exact ⟨k + 1, by omega, by go_num, HD3, HC3⟩
      case measure => simp [intOf]; omega
    · obtain rfl : k = 64 * kk := by omega
      have KO := Lib.hid (sOpen_of HD.out (n := 64 * kk) (G := dmg G (64 * kk) (64 * kk)) (by omega) (by omega) rfl rfl (dmg_Jst HP2.out h1))
      have hdl := HD.out.lt
      go_wp2_with (go_at_call 24; refine KO.out.mono ?_; rintro e w4 (⟨p, ds', P4, rfl, hfu, hI, hc4⟩ | ⟨hf, _⟩); rotate_left; exact absurd hf (by decide); obtain ⟨bb, rfl⟩ := landed.ptr hI)
      go_ret
      refine ⟨bb, P4, d, _, ds', rfl, hI, hfu, dmg_has HP2.out (tabN_length _ _), dmg_tab HN3.out h1 h2, fun x hx => ?_, ?_⟩
      · rcases chg_new hc4 hx with h | h
        · exact HPW.out x h
        · have h3 := HB2.out.size
          have h4 := HC.out.size
          omega
      · have hw2 := HB2.out.size
        have b1 : Below w.heap.size w2 wr := HC.out.below fun x hx => ⟨by omega, fun hp => by have := HPW.out x hp; omega⟩
        have hw3 := HC.out.size
        have b2 : Below w.heap.size wr w4 := hc4.below fun x hx => ⟨by omega, fun hp => by have := HPW.out x hp; omega⟩
        exact (HB2.out.trans b1).trans b2
def PM (P M : Nat → Prop) (k : Nat) : Prop := P k ∨ M k
theorem Chg.pm {w w' : World} {P P' : Nat → Prop} (h : Chg P P' w w') (M : Nat → Prop) : Chg (PM P M) (PM P' M) w w' := ⟨h.os, h.tape, h.output, h.size, fun k hk hn => ⟨(h.keep k hk fun e => hn (.inl e)).1, fun e => e.elim (fun e => (h.keep k hk fun e => hn (.inl e)).2 e) fun e => hn (.inr e)⟩⟩
theorem Chg.mp {w w' : World} {M : Nat → Prop} (h : Chg M M w w') (P : Nat → Prop) : Chg (PM P M) (PM P M) w w' := ⟨h.os, h.tape, h.output, h.size, fun k hk hn => ⟨(h.keep k hk fun e => hn (.inr e)).1, hn⟩⟩
def callX (X : XSt) : XSt := { X with call := X.is, put := [], wi := true }
theorem RSp.chg {w w' : World} {P P' M : Nat → Prop} {r : Value} {n : Int} {O : List (Int × Int)} (h : RSp w M r n O) (hc : Chg P P' w w') (ha : ∀ x, M x → ¬ P x) : RSp w' M r n O ∧ ∀ x, M x → ¬ P' x := by
  obtain ⟨b, v, e, hr, ho, hM⟩ := h
  have hk : ∀ x, M x → w'.heap[x]? = w.heap[x]? ∧ ¬ P' x := fun x hx => hc.keep x (RSp.lt ⟨b, v, e, hr, ho, hM⟩ hx) (ha x hx)
  exact ⟨⟨b, v, e, (hk b ((hM b).2 (.inl rfl))).1.trans hr, ⟨ho.1, ownsRow_keep ho.2 fun g hg => (hk g ((hM g).2 (.inr hg))).1⟩, hM⟩, fun x hx => (hk x hx).2⟩
structure Mid (w0 w : World) (P M : Nat → Prop) (d p r : Value) (X : XSt) (n : Int) (O O2 : List (Int × Int)) (kk : Nat) : Prop where
  inv : SInv w P d p X
  wi : X.wi = true
  fu : X.ds.fu = false
  has : Has X.is O kk
  has2 : Has X.call O2 kk
  ok : OOk O kk
  pN : ∀ x, P x → w0.heap.size ≤ x
  mN : ∀ x, M x → w0.heap.size ≤ x
  ap : ∀ x, M x → ¬ P x
  sz : w0.heap.size ≤ w.heap.size
  be : Below w0.heap.size w0 w
section
variable {w0 w : World} {P M : Nat → Prop} {d p r : Value} {X : XSt} {n : Int} {O O2 : List (Int × Int)} {kk : Nat}
theorem chg_base {P' : Nat → Prop} {w' : World} (hb : Below w0.heap.size w0 w) (hP : ∀ x, P x → w0.heap.size ≤ x) (hc : Chg P P' w w') : Below w0.heap.size w0 w' ∧ ∀ x, P' x → w0.heap.size ≤ x := by
  have hs := hb.size
  refine ⟨hb.trans (hc.below fun x hx => ⟨by omega, fun hp => by have := hP x hp; omega⟩), fun x hx => ?_⟩
  rcases chg_new hc hx with h | h
  · exact hP x h
  · omega
theorem Mid.low (h : Mid w0 w P M d p r X n O O2 kk) {w' : World} (hb : Below w.heap.size w w') : Mid w0 w' P M d p r X n O O2 kk :=
  { h with inv := h.inv.low hb, sz := Nat.le_trans h.sz hb.size, be := h.be.trans (hb.mono h.sz) }
theorem Mid.ref (h : Mid w0 w P M d p r X n O O2 kk) {w' : World} (hc : Chg M M w w') : Mid w0 w' P M d p r X n O O2 kk := by
  have hlt := h.inv.lt
  refine { h with inv := h.inv.keep hc.size fun x hx => (hc.keep x (hlt x hx) fun hm => h.ap x hm hx).1, sz := Nat.le_trans h.sz hc.size, be := h.be.trans (hc.below fun x hx => ⟨Nat.lt_of_lt_of_le hx h.sz, fun hm => by have := h.mN x hm; omega⟩) }
theorem Mid.put {X2 : XSt} {P2 : Nat → Prop} {w' : World} {O3 : List (Int × Int)} (h : Mid w0 w P M d p r X n O O2 kk) (hi : SInv w' P2 d p X2) (hc : Chg P P2 w w') (hw : X2.wi = true) (hf : X2.ds.fu = X.ds.fu) (his : X2.is = X.is) (hh : Has X2.call O3 kk) (hs : RSp w M r n O2) : Mid w0 w' P2 M d p r X2 n O O3 kk ∧ RSp w' M r n O2 := by
  obtain ⟨hs', ha⟩ := hs.chg hc h.ap
  obtain ⟨hb, hp⟩ := chg_base h.be h.pN hc
  exact ⟨⟨hi, hw, by rw [hf]; exact h.fu, by rw [his]; exact h.has, hh, h.ok, hp, h.mN, ha, hb.size, hb⟩, hs'⟩
end
end Go.Proofs.YtekeoljfdnfbgaaGreat
namespace Go.Proofs.YtekeoljfdnfbgaaGreat
set_option maxRecDepth 100000
open Go.RowKit Go.ChangeShapes Go.WideShapes
theorem owCells : Tryz.prog.cellsOf 38 = 2 := by kernel_rfl
theorem u16Cells : Tryz.prog.cellsOf 36 = 1 := by kernel_rfl
section
variable {H : Type} {enc : TypeId × Value → H} {W : World} {base : Nat} {spare : Nat → Bool} {held : Bool}
end
structure O12 where
  k : Int
  b : Int
  l : Int
  g : Int
  n : Int
  i : Int
  a : Int
instance : Inhabited O12 := ⟨⟨0, 0, 0, 0, 0, 0, 0⟩⟩
def in64 (x : Int) : Prop := -9223372036854775808 ≤ x ∧ x ≤ 9223372036854775807
theorem intCells12 : Tryz.prog.cellsOf 3 = 1 := by kernel_rfl
section
variable {H : Type} {enc : TypeId × Value → H} {W : World} {base : Nat} {spare : Nat → Bool} {held : Bool}
theorem ow2_cells {c0 c1 : Value} {m : Nat} {y : DataW H × List MemPlace} (ht : DataW.trod enc Tryz.prog W base (fun _ => true) held m 38 [c0, c1] = some y) : ∃ i a : Int, c0 = .int .u16 i ∧ c1 = .int .u16 a ∧ (0 ≤ i ∧ i ≤ 65535) ∧ (0 ≤ a ∧ a ≤ 65535) := by
  obtain ⟨xs, n, _, _, hlen, hxs, hf⟩ := DataW.trod_struct Tryz.underlying38 ht
  match xs, hxs with
  | [y0, y1], _ =>
    have g0 : DataW.trod enc Tryz.prog W base (fun _ => true) held n 36 [c0] = some y0 := by
      have h0 : DataW.trod enc Tryz.prog W base (fun _ => true) held n 36 (List.take (Tryz.prog.cellsOf 36) (List.drop 0 [c0, c1])) = some y0 := hf 0 _ rfl
      rw [u16Cells] at h0; exact h0
    have g1 : DataW.trod enc Tryz.prog W base (fun _ => true) held n 36 [c1] = some y1 := by
      have h0 : DataW.trod enc Tryz.prog W base (fun _ => true) held n 36 (List.take (Tryz.prog.cellsOf 36) (List.drop 1 [c0, c1])) = some y1 := hf 1 _ rfl
      rw [u16Cells] at h0; exact h0
    obtain ⟨k, e0, _, w0⟩ := DataW.trod_int Tryz.underlying36 g0
    obtain ⟨b, e1, _, w1⟩ := DataW.trod_int Tryz.underlying36 g1
    simp only [List.cons.injEq, and_true] at e0 e1
    exact ⟨k, b, e0, e1, bounds_u16 w0, bounds_u16 w1⟩
end
end Go.Proofs.YtekeoljfdnfbgaaGreat
namespace Go.Proofs.YtekeoljfdnfbgaaGreat
set_option maxRecDepth 100000
open Go.RowKit
def Near (G G' : List (List Int)) : Prop := G' = G ∨ ∃ g D, g < 12 ∧ G' = putG G g D
structure Both (O O2 : List (Int × Int)) (kk : Nat) (F Fr : FuncId) (xs : List Value) (e : Ending) : Prop where
  land : ∀ {w0 w P M d p r X n}, Mid w0 w P M d p r (callX X) n O O kk → RSp w M r n O → Calls Tryz.prog F (p :: xs).toArray w fun e' w' => e' = e ∧ ∃ P' X', Mid w0 w' P' M d p r X' n O O2 kk ∧ RSp w' M r n O ∧ Chg (PM P M) (PM P' M) w w' ∧ Near X.is X'.call ∧ X'.is = X.is
  refe : ∀ {w0 w P M d p r X n}, Mid w0 w P M d p r X n O O2 kk → RSp w M r n O → Calls Tryz.prog Fr (r :: xs).toArray w fun e' w' => e' = e ∧ Mid w0 w' P M d p r X n O O2 kk ∧ RSp w' M r n O2 ∧ Chg (PM P M) (PM P M) w w'
theorem callX_cur {X : XSt} {O : List (Int × Int)} {kk : Nat} (h : Has (callX X).call O kk) : Has (callX X).cur O kk := h
section
variable {O : List (Int × Int)} {kk : Nat}
theorem bothLow {F Fr : FuncId} {xs : List Value} {e : Ending} (h1 : ∀ {w0 w P M d p r X n}, Mid w0 w P M d p r (callX X) n O O kk → Calls Tryz.prog F (p :: xs).toArray w fun e' w' => e' = e ∧ Below w.heap.size w w')
    (h2 : ∀ {w M r n}, RSp w M r n O → Calls Tryz.prog Fr (r :: xs).toArray w fun e' w' => e' = e ∧ Below w.heap.size w w') : Both O O kk F Fr xs e :=
  ⟨fun hm hs => (h1 hm).mono fun e' w' ⟨he, hb⟩ => ⟨he, _, _, hm.low hb, hs.below hb, Chg.of_below hb, .inl rfl, rfl⟩, fun hm hs => (h2 hs).mono fun e' w' ⟨he, hb⟩ => ⟨he, hm.low hb, hs.below hb, Chg.of_below hb⟩⟩
theorem bothPut {F Fr : FuncId} {xs : List Value} {e : Ending} {f : Nat} {o : Int × Int} (hf : f < 64 * kk)
    (h1 : ∀ {w0 w P M d p r X n}, Mid w0 w P M d p r (callX X) n O O kk → Calls Tryz.prog F (p :: xs).toArray w fun e' w' => e' = e ∧ ∃ P', SInv w' P' d p (putX (callX X) (f / 64) (grO (O.set f o) (f / 64))) ∧ Chg P P' w w')
    (h2 : ∀ {w M r n}, RSp w M r n O → Calls Tryz.prog Fr (r :: xs).toArray w fun e' w' => e' = e ∧ RSp w' M r n (O.set f o) ∧ Chg M M w w') : Both O (O.set f o) kk F Fr xs e :=
  ⟨fun hm hs => (h1 hm).mono fun e' w' ⟨he, P', hi, hc⟩ => by
      obtain ⟨a, b⟩ := hm.put hi hc rfl rfl rfl (hm.has2.put hf o) hs
      exact ⟨he, P', _, a, b, hc.pm _, .inr ⟨f / 64, _, by have := hm.ok.k12; omega, rfl⟩, rfl⟩,
    fun hm hs => (h2 hs).mono fun e' w' ⟨he, hs', hc⟩ => ⟨he, hm.ref hc, hs', hc.mp _⟩⟩
theorem take_bad {b l g i j : Int} (hb : b ≤ 9223372036854775807) (hl : l ≤ 9223372036854775807) (hi : 0 ≤ i ∧ i ≤ 65535) (hj : 0 ≤ j ∧ j ≤ 65535) (hno : takeNo b l i j) :
    Both O O kk 43 30 [.int .i64 b, .int .i64 l, .int .i64 g, .agg #[.int .u16 i, .int .u16 j]] (.returned (.tuple #[.int .i64 0, .int .i64 1])) :=
  bothLow (fun hm => spTake_no hb hl hi hj hno _ _) (fun hs => rSpTake_no hb hl hi hj hno _ _)
theorem take_full12 (hO : OOk O kk) {a m : Nat} (hm1 : 1 ≤ m) (hma : m ≤ a) (hak : a ≤ kk) (g : Int) {i j : Int} (hi : 0 ≤ i ∧ i ≤ 65535) (hj : 0 ≤ j ∧ j ≤ 65535) (hf : frmO i j = true) (h0 : i ≠ 0) (h6 : i ≠ 65535) (hc : 62 * (m : Int) - 42 ≤ cntU O (64 * a)) :
    Both O O kk 43 30 [.int .i64 (64 * (a : Int)), .int .i64 (64 * (m : Int)), .int .i64 g, .agg #[.int .u16 i, .int .u16 j]] (.returned (.tuple #[.int .i64 0, .int .i64 13])) :=
  bothLow (fun hm => spTake_full hm.inv (callX_cur hm.has2) hO hm1 hma hak g hi hj hf h0 h6 hc) (fun hs => rSpTake_full hs hO hm1 hma hak g hi hj hf h0 h6 hc)
theorem take_yes12 (hO : OOk O kk) {a m : Nat} (hm1 : 1 ≤ m) (hma : m ≤ a) (hak : a ≤ kk) (g : Int) {i j : Int} (hi : 0 ≤ i ∧ i ≤ 65535) (hj : 0 ≤ j ∧ j ≤ 65535) (hf : frmO i j = true) (h0 : i ≠ 0) (h6 : i ≠ 65535) {f : Nat}
    (hc : (cntU O (64 * a) : Int) < 62 * (m : Int) - 42) (hfm : f < 64 * m) (hfs : findS O (64 * m) (goalS (64 * m) g) = f) (hfx : fixB (f : Int) = false) :
    Both O (O.set f (i, j)) kk 43 30 [.int .i64 (64 * (a : Int)), .int .i64 (64 * (m : Int)), .int .i64 g, .agg #[.int .u16 i, .int .u16 j]] (.returned (.tuple #[.int .i64 f, .int .i64 0])) :=
  bothPut (by omega) (fun hm => spTake_yes hm.inv rfl rfl hm.has2 hO hm1 hma hak g hi hj hf h0 h6 hc hfm hfs hfx) (fun hs => rSpTake_yes hs hO hm1 hma hak g hi hj hf h0 h6 hc hfm hfs)
theorem take12 (hO : OOk O kk) {b l g i j : Int} (hb : b ≤ 64 * (kk : Int)) (hl : l ≤ 64 * (kk : Int)) (hi : 0 ≤ i ∧ i ≤ 65535) (hj : 0 ≤ j ∧ j ≤ 65535) :
    ∃ (x E : Int) (O2 : List (Int × Int)), OOk O2 kk ∧ (E = 0 ∨ (E ≠ 0 ∧ O2 = O)) ∧ Both O O2 kk 43 30 [.int .i64 b, .int .i64 l, .int .i64 g, .agg #[.int .u16 i, .int .u16 j]] (.returned (.tuple #[.int .i64 x, .int .i64 E])) := by
  have h12 := hO.k12
  by_cases hno : takeNo b l i j
  · exact ⟨0, 1, O, hO, .inr ⟨by decide, rfl⟩, take_bad (by omega) (by omega) hi hj hno⟩
  · have h1 : frmB b = true := by cases h : frmB b; · exact absurd (.inl h) hno
                                  · rfl
    have h2 : frmB l = true := by cases h : frmB l; · exact absurd (.inr (.inl h)) hno
                                  · rfl
    have h3 : ¬ b < l := fun h => hno (.inr (.inr (.inl h)))
    have h4 : frmO i j = true := by cases h : frmO i j; · exact absurd (.inr (.inr (.inr (.inl h)))) hno
                                    · rfl
    have h5 : i ≠ 0 := fun h => hno (.inr (.inr (.inr (.inr (.inl h)))))
    have h6 : i ≠ 65535 := fun h => hno (.inr (.inr (.inr (.inr (.inr h)))))
    obtain ⟨a, a1, _, rfl⟩ := frm_yes h1
    obtain ⟨m, m1, _, rfl⟩ := frm_yes h2
    by_cases hc : 62 * (m : Int) - 42 ≤ cntU O (64 * a)
    · exact ⟨0, 13, O, hO, .inr ⟨by decide, rfl⟩, take_full12 hO m1 (by omega) (by omega) g hi hj h4 h5 h6 hc⟩
    · have hmono := cntU_mono O (show 64 * m ≤ 64 * a by omega)
      obtain ⟨f, f1, f2, f3, f4⟩ := find_free hO m1 (by omega) (g := goalS (64 * m) g) (by unfold goalS; split <;> omega) (by omega)
      exact ⟨f, 0, _, hO.set (by omega) f4 hi hj h4 h6, .inl rfl, take_yes12 hO m1 (by omega) (by omega) g hi hj h4 h5 h6 (by omega) f1 f2 f4⟩
theorem open_no {n : Int} (h : openN n = false) : n < 0 ∨ 768 ≤ n ∨ fixB n = true := by
  unfold openN at h
  by_cases h1 : 0 ≤ n ∧ n < 768
  · rw [decide_eq_true h1] at h
    exact .inr (.inr (by simpa using h))
  · omega
theorem open_yes {n : Int} (h : openN n = true) : 0 ≤ n ∧ n < 768 ∧ fixB n = false := by
  unfold openN at h
  rw [Bool.and_eq_true, decide_eq_true_eq, Bool.not_eq_true'] at h
  exact ⟨h.1.1, h.1.2, h.2⟩
theorem give12 (hO : OOk O kk) {n : Int} (hn : in64 n) (hk : n ≤ 64 * (kk : Int) - 1) :
    ∃ (E : Int) (O2 : List (Int × Int)), OOk O2 kk ∧ (E = 0 ∨ (E ≠ 0 ∧ O2 = O)) ∧ Both O O2 kk 50 32 [.int .i64 n] (.returned (.int .i64 E)) := by
  have hl := hO.len
  have h1 := hO.k1
  have h12 := hO.k12
  cases ho : openN n
  · refine ⟨1, O, hO, .inr ⟨by decide, rfl⟩, bothLow (fun hm => (spGive_far hn.2 ho _ _).mono fun e w' ⟨he, hw⟩ => ⟨he, by rw [← hw]; exact Below.refl _ _⟩) (fun hs => (rSpGive_no hs (by omega) (by omega) hn ?_).mono fun e w' ⟨he, hw⟩ => ⟨he, by rw [← hw]; exact Below.refl _ _⟩)⟩
    rcases open_no ho with h | h | h
    · exact .inl h
    · omega
    · exact .inr (.inr (.inl h))
  · obtain ⟨p1, p2, p3⟩ := open_yes ho
    obtain ⟨m, rfl⟩ : ∃ m : Nat, n = m := ⟨n.toNat, by omega⟩
    cases hf : freeJ O m
    · exact ⟨0, _, hO.set (by omega) p3 (by decide) (by decide) (by decide) (by decide), .inl rfl, bothPut (by omega) (fun hm => spGive_yes hm.inv rfl rfl hm.has2 hO (by omega) p3 hf) (fun hs => rSpGive_yes hs (by omega) (by omega) p3 hf)⟩
    · exact ⟨1, O, hO, .inr ⟨by decide, rfl⟩, bothLow (fun hm => spGive_free hm.inv (callX_cur hm.has2) hO (by omega) hf) (fun hs => (rSpGive_no hs (by omega) (by omega) hn (.inr (.inr (.inr (by rw [Int.toNat_natCast]; exact hf))))).mono fun e w' ⟨he, hw⟩ => ⟨he, by rw [← hw]; exact Below.refl _ _⟩)⟩
end
section
variable {O : List (Int × Int)} {kk : Nat}
theorem same_low {w w' : World} (h : w = w') : Below w.heap.size w w' := by rw [← h]; exact Below.refl _ _
end
end Go.Proofs.YtekeoljfdnfbgaaGreat
