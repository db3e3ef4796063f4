/- StoreCrashes: the power goes, the disk is opened anew. -/
import Derived.Test.YtigbhdgcjklhoaaGreatC17
import Derived.Test.YtigbhdgcjklhoaaGreatC18
namespace Go.Proofs.YtigbhdgcjklhoaaGreat
set_option maxRecDepth 100000
open Go.RowKit
set_option linter.unusedVariables false

/-- The fuse is set under an open store. -/
theorem SInv.fuse {w : World} {P : Nat → Prop} {d p : Value} {X : XSt} (h : SInv w P d p X) (n : Int) (hn : n ≤ 9223372036854775807) : Calls Tryz.prog 7 #[d, .int .i64 n] w fun e w' => e = .returned (.tuple #[]) ∧ SInv w' P d p { X with ds := X.ds.fuse n } ∧ Chg P P w w' := by
  obtain ⟨b, be, bp, Pd, q, ek, eg, ev, pk, pg, pv, rfl, hm, hpl, ho, hl⟩ := h
  refine (kSetFuse hm.dk n hn).mono ?_
  rintro e w' ⟨rfl, hd, hc⟩
  refine ⟨rfl, ⟨b, be, bp, Pd, q, ek, eg, ev, pk, pg, pv, rfl, hm.disk hd hc, { hpl with ok := ⟨hpl.ok.lst.fuse n, hpl.ok.pow, hpl.ok.un, hpl.ok.call, hpl.ok.dt⟩ }, ho, fun k hk => Nat.lt_of_lt_of_le (hl k hk) hc.size⟩, ?_⟩
  exact ⟨hc.os, hc.tape, hc.output, hc.size, fun k hk hn => ⟨(hc.keep k hk fun e => hn (ho k (.inl e))).1, hn⟩⟩
/-- Ahead of a crash: what it finds is one of the states LL. -/
structure Ruin (w0 : World) (d q : Value) (kl : List Bool) (W : World) (P M : Nat → Prop) (vX : Value) (LL : List (List (List Int))) (ds : DS) : Prop where
  disk : ∃ Pd, (∀ k, Pd k → P k) ∧ Dk W Pd d ds
  un : ds.U.length ≤ 1000
  jst : ∃ G, Jst 80 (ds.crash kl).F G ∧ ∃ H, H ∈ LL ∧ eqO H G
  cell : ∃ qb, q = .pointer (some ⟨qb, 0, none⟩) ∧ qb < W.heap.size ∧ ¬ P qb ∧ W.cell? ⟨qb, 3, none⟩ = some vX
  old : ROld W P M vX LL
  vP : ∀ g, vX.ownBlock = some g → ¬ P g
  lens : ∀ H, H ∈ LL → H.length = 80
  few : LL.length ≤ 1000000
  own : ∀ k, P k → w0.heap.size ≤ k
  low : Below w0.heap.size w0 W
section
variable {w0 W : World} {d p q vS : Value} {f : Bool} {N : Nat} {P M : Nat → Prop} {X : XSt} {r : RSt}
theorem Live.ruin (h : Live SInv w0 d p q f N W P M vS X r) (hN : N ≤ 1000) (kl : List Bool) : Ruin w0 d q kl W P M vS r.sts X.ds := by
  have hold := h.rso.old
  obtain ⟨b, m, vI, vC, vP, hq, hA⟩ := h.rso
  obtain ⟨Pd, hs, hdk⟩ := landed.disk h.inv
  have hok := landed.plain h.inv
  have hl := hok.lst
  rw [h.len] at hl
  have hsts := h.sts
  obtain ⟨H, hH, he⟩ := h.rel.base
  exact ⟨⟨Pd, hs, hdk⟩, hok.un, ⟨X.base, hl.crash (by omega) (kpOf kl), H, hH, he⟩, ⟨b, hq, hA.bl, hA.apart b ((hA.own b).2 (.inl rfl)), hA.c3⟩, hold, fun g hg => hA.apart g ((hA.own g).2 (.inr (.inl hg))), fun H hH => (h.rel.lens.1 H hH).trans (h.rel.len.trans h.len), by omega, fun k hk => h.own k (.inl hk), h.low⟩
end
theorem getD_mem' {L : List (List (List Int))} {j : Nat} (h : j < L.length) : L.getD j [] ∈ L := by
  rw [List.getD_eq_getElem?_getD, List.getElem?_eq_getElem h]
  exact List.getElem_mem h
theorem Ruin.again {w0 W : World} {d q v vX : Value} {kl : List Bool} {P M : Nat → Prop} {LL : List (List (List Int))} {ds : DS} (h : Ruin w0 d q kl W P M vX LL ds) (hk : KSl w0 v kl) (t : Nat) (ht : t ≤ 1000) :
    Calls Tryz.prog 13 #[d, v, .int .i64 t] W fun e W' => ∃ pb, e = .returned (.pointer (some ⟨pb, 0, none⟩)) ∧ (∀ qb, q = .pointer (some ⟨qb, 0, none⟩) → W'.cell? ⟨qb, 3, none⟩ = some vX) ∧ Below w0.heap.size w0 W' ∧
      Calls Tryz.prog 14 #[.pointer (some ⟨pb, 0, none⟩), vX] W' fun e W2 => ∃ ad c, e = .returned (.slice (some ad) 80 c) ∧ Below w0.heap.size w0 W2 ∧
        Calls Tryz.prog 8 #[.slice (some ad) 80 c] W2 fun e W3 => ∃ qb P M vS X r, e = .returned (.pointer (some ⟨qb, 0, none⟩)) ∧ Live SInv w0 d (.pointer (some ⟨pb, 0, none⟩)) (.pointer (some ⟨qb, 0, none⟩)) false 1 W3 P M vS X r := by
  obtain ⟨⟨Pd, hs, hdk⟩, hun, ⟨G, hJ, H, hH, hHG⟩, ⟨qb, hq, hql, hqP, hcell⟩, hold, hvP, hlens, hfew, hown, hlow⟩ := h
  have hG : G.length = 80 := hJ.2.1
  refine (again11_of landed (h := ⟨hdk, hun, hJ⟩) (by decide) (by decide) (hk.below hlow) (hk.apt_low (Nat.le_refl _) fun k hk => hown k (hs k hk)) t ht).mono ?_
  rintro e W' ⟨p, P1, ds1, rfl, hI, hf, hc⟩
  obtain ⟨pb, rfl⟩ := landed.ptr hI
  have hlow1 : Below w0.heap.size w0 W' := hlow.trans (hc.below fun k hk => ⟨Nat.lt_of_lt_of_le hk hlow.size, fun e => by have := hown k (hs k e); omega⟩)
  have hown1 : ∀ k, P1 k → w0.heap.size ≤ k := fun k hk => (chg_new hc hk).elim (fun e => hown k (hs k e)) fun e => Nat.le_trans hlow.size e
  obtain ⟨us, hul, hue, ho⟩ := hold
  have hgl : ∀ g, vX.ownBlock = some g → g < W.heap.size := fun g hg => (ho.lt g hg).2
  have hold1 : ROld W' P1 M vX LL := ⟨us, hul, fun j hj => ((hue j hj).sub fun x hx => hx.imp (hs x) id).chg hc.orR, ownsRow_keep ho fun g hg => (hc.keep g (hgl g hg) fun e => hvP g hg (hs g e)).1⟩
  refine ⟨pb, rfl, ?_, hlow1, ?_⟩
  · intro qb' e
    rw [hq] at e
    injection e with e; injection e with e; injection e with e
    subst e
    exact (World.cell?_of_block (a := ⟨qb, 3, none⟩) (hc.keep qb hql fun e => hqP (hs _ e)).1).trans hcell
  obtain ⟨j, hj, hjH⟩ := List.mem_iff_getElem.1 hH
  refine (state11_of landed hI (C := G) (if_neg fun e => Bool.noConfusion (show false = true from e)).symm hold1 (fun g hg => (hc.keep g (hgl g hg) fun e => hvP g hg (hs g e)).2) (by show 0 < G.length ∧ G.length ≤ 2000; omega) hfew (fun j hj => by
      show _ = G.length
      rw [hG]; exact hlens _ (getD_mem' hj)) ⟨j, hj, fun i hi ho => ?_⟩).mono ?_
  · rw [List.getD_eq_getElem?_getD (l := LL), List.getElem?_eq_getElem hj, hjH]
    exact (hHG.2 i ho hi).symm
  rintro e W2 ⟨z, L, rfl, ⟨Q, hI2, hc2, hz⟩, hL, heq⟩
  have hL80 := hlens L hL
  obtain ⟨ad, cap, us2, rfl, _⟩ := hz.cells (by omega)
  have hlow2 : Below w0.heap.size w0 W2 := hlow1.trans (hc2.below fun k hk => ⟨Nat.lt_of_lt_of_le hk hlow1.size, fun e => by have := hown1 k e; omega⟩)
  have hown2 : ∀ k, Q k → w0.heap.size ≤ k := fun k hk => (chg_new hc2 hk).elim (hown1 k) fun e => Nat.le_trans hlow1.size e
  have hLG : eqO L G := ⟨hL80.trans hG.symm, fun i ho hi => (heq i (by show i < G.length; omega) ho).symm⟩
  have KN := rNew_of hz (by omega) (landed.lt hI2)
  rw [hL80] at KN ⊢
  refine ⟨ad, cap, rfl, hlow2, KN.mono ?_⟩
  rintro e W3 ⟨q3, vS3, M3, rfl, hr3, hb3, hM3⟩
  obtain ⟨qb3, hq3⟩ : ∃ qb3, q3 = .pointer (some ⟨qb3, 0, none⟩) := by
    obtain ⟨b, _, _, _, _, e, _⟩ := hr3
    exact ⟨b, e⟩
  subst hq3
  refine ⟨qb3, Q, M3, vS3, _, _, rfl, landed.keep hI2 hb3.size fun k hk => hb3.block k (landed.lt hI2 k hk), hr3, Rel.opened hLG, hf, hG, Nat.le_refl _, ?_, hlow2.trans (hb3.mono hlow2.size)⟩
  rintro k (hk | hk)
  · exact hown2 k hk
  · exact Nat.le_trans hlow2.size (hM3 k hk)
end Go.Proofs.YtigbhdgcjklhoaaGreat
