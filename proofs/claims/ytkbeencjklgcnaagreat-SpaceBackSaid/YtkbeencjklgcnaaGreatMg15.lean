/- A disk with a journal over which changes of calls go: what a crash leaves, what Recover makes of it, whatever change was the last one (for the store). -/
import Derived.Maps.Keyed
import Derived.WideKeyEntry
import Derived.ArgAppend
import Derived.Deep.RegionLaw
import Derived.ChangeMaps5
import Derived.Test.YtkbeencjklgcnaaGreatMg12
import Derived.Test.YtkbeencjklgcnaaGreatMg14
import Derived.Test.YtkbeencjklgcnaaGreatMg3
import Derived.Test.YtkbeencjklgcnaaGreatMg6
import Derived.Test.YtkbeencjklgcnaaGreatMg7
import Derived.Test.YtkbeencjklgcnaaGreatMg8
namespace Go.Proofs.YtkbeencjklgcnaaGreat
set_option maxRecDepth 100000
open Go.RowKit
set_option linter.unusedVariables false

/-- The same, but for the journal. -/
def eqO (A B : List (List Int)) : Prop := A.length = B.length ∧ ∀ i, OutJ i → i < B.length → A.getD i [] = B.getD i []
theorem eqO.refl (A : List (List Int)) : eqO A A := ⟨rfl, fun _ _ _ => rfl⟩
theorem eqO.symm {A B : List (List Int)} (h : eqO A B) : eqO B A := ⟨h.1.symm, fun i ho hi => (h.2 i ho (by rw [← h.1]; exact hi)).symm⟩
theorem eqO.trans {A B C : List (List Int)} (h : eqO A B) (k : eqO B C) : eqO A C := ⟨h.1.trans k.1, fun i ho hi => (h.2 i ho (by rw [k.1]; exact hi)).trans (k.2 i ho hi)⟩
/-- A change that the disk takes, outside the journal. -/
def okT (n : Nat) (N : List Int) (D : List (List Int)) : Prop := frmT N D = true ∧ hasN n N = true ∧ inJS N = false
theorem okT.far {n : Nat} {N : List Int} {D : List (List Int)} (h : okT n N D) : farT n N := far_of h.1 h.2.1 h.2.2 (Nat.le_refl _)
theorem okT.takes {n : Nat} {N : List Int} {D : List (List Int)} (h : okT n N D) (h64 : 64 ≤ n) : takesT n N D = true := by
  unfold takesT
  rw [decide_eq_true h64, h.1, h.2.1]; rfl
theorem appU_eqO {N : List Int} {D A B : List (List Int)} (hF : frmT N D = true) (h : eqO A B) : eqO (appU (homeW N D) A) (appU (homeW N D) B) := by
  refine ⟨by rw [appU_length, appU_length]; exact h.1, fun i ho hi => ?_⟩
  rw [appU_length] at hi
  exact home_all hF A B h.1 i hi (.inl (h.2 i ho hi))
/-- Behind a crash, on a disk of n blocks, Recover will find G. -/
def Jst (n : Nat) (F G : List (List Int)) : Prop :=
  F.length = n ∧ G.length = n ∧ ((∃ q N D Z, okT n N D ∧ InvT F q N D Z ∧ eqO (appU (homeW N D) Z) G) ∨ InvN F G)
/-- While it works, the blocks being G (told by Read), no change on its way. -/
def Lst (n : Nat) (s : DS) (G : List (List Int)) : Prop :=
  s.F.length = n ∧ eqO s.vis G ∧ ((∃ q N D Z, okT n N D ∧ InvT s.F q N D Z ∧ (∀ x ∈ s.U, x ∈ homeW N D) ∧ eqO (appU (homeW N D) Z) G) ∨ (InvN s.F G ∧ s.U = []))
theorem InvN.toO {F G G' : List (List Int)} (h : InvN F G) (k : eqO G G') : InvN F G' := ⟨h.1.trans k.1, h.2.1, fun i ho hi => (h.2.2 i ho (by rw [k.1]; exact hi)).trans (k.2 i ho hi)⟩
theorem Jst.toO {n : Nat} {F G G' : List (List Int)} (h : Jst n F G) (k : eqO G G') : Jst n F G' := by
  obtain ⟨h1, h2, h3⟩ := h
  refine ⟨h1, k.1.symm.trans h2, h3.imp (fun ⟨q, N, D, Z, a, b, c⟩ => ⟨q, N, D, Z, a, b, c.trans k⟩) (fun h => h.toO k)⟩
theorem Lst.toO {n : Nat} {s : DS} {G G' : List (List Int)} (h : Lst n s G) (k : eqO G G') : Lst n s G' := by
  obtain ⟨h1, h2, h3⟩ := h
  exact ⟨h1, h2.trans k, h3.imp (fun ⟨q, N, D, Z, a, b, c, e⟩ => ⟨q, N, D, Z, a, b, c, e.trans k⟩) (fun h => ⟨h.1.toO k, h.2⟩)⟩
theorem Lst.glen {n : Nat} {s : DS} {G : List (List Int)} (h : Lst n s G) : G.length = n := by rw [← h.2.1.1, DS.vis_length, h.1]
theorem Lst.fuse {n : Nat} {s : DS} {G : List (List Int)} (h : Lst n s G) (k : Int) : Lst n (s.fuse k) G := h
theorem Lst.pay {n : Nat} {s : DS} {G : List (List Int)} (h : Lst n s G) : Lst n s.pay G := h
theorem InvT.glen {F Z : List (List Int)} {q : Int} {N : List Int} {D : List (List Int)} (h : InvT F q N D Z) : F.length = Z.length := h.1
/-- A crash while no change is on its way. -/
theorem Lst.crash {n : Nat} {s : DS} {G : List (List Int)} (h : Lst n s G) (h43 : 43 ≤ n) (kp : Nat → Bool) : Jst n (appU (keepU kp s.U) s.F) G := by
  have hg := h.glen
  obtain ⟨h1, h2, h3⟩ := h
  refine ⟨by rw [appU_length]; exact h1, hg, ?_⟩
  rcases h3 with ⟨q, N, D, Z, a, b, c, e⟩ | ⟨a, b⟩
  · have hz : Z.length = n := b.1.symm.trans h1
    exact .inl ⟨q, N, D, Z, a, b.home a.1 (by rw [hz]; exact a.far) (by omega) fun x hx => c x (keepU_mem hx), e⟩
  · rw [b]
    exact .inr a
/-- Where a change is laid down and the power goes, behind a journal without one. -/
theorem layN_crash {q2 : Int} {N2 : List Int} {D2 G : List (List Int)} (hG : 43 ≤ G.length) {W : List (Nat × List Int)} (hW : layW q2 N2 D2 W) (hF2 : frmT N2 D2 = true) (hq2 : 0 ≤ q2 ∧ q2 < 4294967296) (s : DS) (hs : InvN s.F G) (hU : s.U = []) (kp : Nat → Bool) :
    let r := runA (layA q2 W) s
    (InvN (appU (keepU kp r.2.U) r.2.F) G ∧ r.1 = 2 ∨ InvT (appU (keepU kp r.2.U) r.2.F) q2 N2 D2 G) ∧
      (r.1 = 0 → r.2.U = [] ∧ InvT r.2.F q2 N2 D2 G ∧ ∀ i, OutJ i → i < G.length → r.2.F.getD i [] = G.getD i []) := by
  intro r
  obtain ⟨k, hk, hfu, hr⟩ := runA_pre (layA q2 W) s
  have hrF : r.2.F = (foldA ((layA q2 W).take k) s.fuP).1 := congrArg Prod.fst hfu
  have hrU : r.2.U = (foldA ((layA q2 W).take k) s.fuP).2 := congrArg Prod.snd hfu
  have hlen : (layA q2 W).length = 6 + W.length := by simp [layA]; omega
  have hfl := hs.1
  obtain ⟨V0, hV0⟩ : ∃ V0, V0 = s.F := ⟨_, rfl⟩
  have hfu0 : s.fuP = (V0, []) := by rw [hV0, ← hU]; rfl
  have hN0 : InvN V0 G := by rw [hV0]; exact hs
  rw [hfu0] at hrF hrU
  obtain ⟨V1, hV1⟩ : ∃ V1, V1 = V0.set 42 z256 := ⟨_, rfl⟩
  have hV0l : V0.length = G.length := hN0.1
  have hV1l : V1.length = G.length := by rw [hV1, List.length_set, hV0l]
  have out42 : ∀ i, OutJ i → 42 ≠ i := fun i hi e => by rcases hi with h | h <;> omega
  have hN1 : InvN V1 G := ⟨hV1l, by rw [hV1]; exact set_same _ _ _ (by omega), fun i hi hl => by rw [hV1, set_other _ _ _ _ (out42 i hi)]; exact hN0.2.2 i hi hl⟩
  have hWN : ∀ X, (∀ x ∈ X, x ∈ W) → InvN (appU X V1) G := fun X hX => by
    refine ⟨by rw [appU_length, hV1l], ?_, fun i hi hl => ?_⟩
    · rw [appU_other X V1 42 fun x hx e => by have := (hW.1 x (hX x hx)).2; omega]; exact hN1.2.1
    · rw [appU_other X V1 i fun x hx e => by have := hW.1 x (hX x hx); rcases hi with h | h <;> omega]
      exact hN1.2.2 i hi hl
  obtain ⟨V2, hV2⟩ : ∃ V2, V2 = appU W V1 := ⟨_, rfl⟩
  have hV2l : V2.length = G.length := by rw [hV2, appU_length, hV1l]
  have hN2 : InvN V2 G := by rw [hV2]; exact hWN W fun x hx => hx
  obtain ⟨V3, hV3⟩ : ∃ V3, V3 = V2.set 42 (sealS (endL q2)) := ⟨_, rfl⟩
  have hV3l : V3.length = G.length := by rw [hV3, List.length_set, hV2l]
  obtain ⟨hd, hbl⟩ := hW.2 V1 (by omega)
  have h37 := (frmT_of hF2).1
  have hT3 : isTxn (jour V3) q2 N2 D2 := by
    refine jour_txn (by omega) hF2 hq2 ?_ (fun j hj => ?_) ?_
    · rw [hV3, set_other _ _ _ _ (by omega), hV2]; exact hd
    · rw [hV3, set_other _ _ _ _ (by omega), hV2]; exact hbl j hj
    · rw [hV3]; exact set_same _ _ _ (by omega)
  have hV3o : ∀ i, OutJ i → i < G.length → V3.getD i [] = G.getD i [] := fun i hi hl => by rw [hV3, set_other _ _ _ _ (out42 i hi)]; exact hN2.2.2 i hi hl
  have hI3 : InvT V3 q2 N2 D2 G := ⟨hV3l, hT3, fun i hi hl => .inl (hV3o i hi hl)⟩
  have a1 : foldA [.f, .w 42 z256, .f] (V0, []) = (V1, []) := by
    show (appU ([] ++ [(42, z256)]) (appU [] V0), ([] : List (Nat × List Int))) = (V1, [])
    rw [hV1]; rfl
  have full : k = (layA q2 W).length → r.2.F = V3 ∧ r.2.U = [] := fun e => by
    rw [hrF, hrU, e, List.take_length]
    unfold layA
    rw [foldA_append, foldA_append, foldA_ws, a1]
    show (appU ([] ++ [(42, sealS (endL q2))]) (appU ([] ++ W) V1)) = V3 ∧ _
    rw [hV3, hV2]
    exact ⟨rfl, rfl⟩
  refine ⟨?_, fun h0 => ?_⟩
  · have hcase : k = 0 ∨ k = 1 ∨ k = 2 ∨ (3 ≤ k ∧ k ≤ 3 + W.length) ∨ k = 4 + W.length ∨ k = 5 + W.length ∨ k = 6 + W.length := by omega
    have h2 : k ≠ (layA q2 W).length → r.1 = 2 := fun hne => by
      rcases hr with ⟨_, h⟩ | h
      · exact absurd h hne
      · exact h
    have step : ∀ j, (layA q2 W).take (3 + j) = ([PA.f, PA.w 42 z256, PA.f] : List PA) ++ ((W.map fun y : Nat × List Int => PA.w y.1 y.2) ++ [PA.f, PA.w 42 (sealS (endL q2)), PA.f]).take j := fun j => by
      unfold layA
      rw [List.append_assoc]
      exact List.take_length_add_append (l₁ := ([PA.f, PA.w 42 z256, PA.f] : List PA)) j
    rcases hcase with rfl | rfl | rfl | ⟨ha, hb⟩ | rfl | rfl | rfl
    · have e1 : r.2.F = V0 := hrF
      have e2 : r.2.U = [] := hrU
      rw [e1, e2]
      exact .inl ⟨hN0, h2 (by omega)⟩
    · have e1 : r.2.F = V0 := hrF
      have e2 : r.2.U = [] := hrU
      rw [e1, e2]
      exact .inl ⟨hN0, h2 (by omega)⟩
    · have e1 : r.2.F = V0 := hrF
      have e2 : r.2.U = [(42, z256)] := hrU
      rw [e1, e2]
      rcases keepU_one kp (42, z256) with e | e
      · rw [e]; exact .inl ⟨hN0, h2 (by omega)⟩
      · rw [e]
        refine .inl ⟨?_, h2 (by omega)⟩
        show InvN (V0.set 42 z256) G
        rw [← hV1]; exact hN1
    · obtain ⟨j, rfl⟩ : ∃ j, k = 3 + j := ⟨k - 3, by omega⟩
      have hj : j ≤ W.length := by omega
      rw [step, List.take_append_of_le_length (by simpa using hj), ← List.map_take, foldA_append, a1, foldA_ws] at hrF hrU
      rw [hrF, hrU]
      refine .inl ⟨hWN _ fun x hx => ?_, h2 (by omega)⟩
      have := keepU_mem hx
      rw [List.nil_append] at this
      exact List.mem_of_mem_take this
    · have e0 : (layA q2 W).take (4 + W.length) = [.f, .w 42 z256, .f] ++ ((W.map fun y => PA.w y.1 y.2) ++ [.f]) := by
        rw [show 4 + W.length = 3 + (W.length + 1) by omega, step]
        congr 1
        rw [show W.length + 1 = (W.map fun y => PA.w y.1 y.2).length + 1 by simp, List.take_length_add_append]; rfl
      rw [e0, foldA_append, foldA_append, a1, foldA_ws] at hrF hrU
      have e1 : r.2.F = V2 := by rw [hV2]; exact hrF
      have e2 : r.2.U = [] := hrU
      rw [e1, e2]
      exact .inl ⟨hN2, h2 (by omega)⟩
    · have e0 : (layA q2 W).take (5 + W.length) = [.f, .w 42 z256, .f] ++ ((W.map fun y => PA.w y.1 y.2) ++ [.f, .w 42 (sealS (endL q2))]) := by
        rw [show 5 + W.length = 3 + (W.length + 2) by omega, step]
        congr 1
        rw [show W.length + 2 = (W.map fun y => PA.w y.1 y.2).length + 2 by simp, List.take_length_add_append]; rfl
      rw [e0, foldA_append, foldA_append, a1, foldA_ws] at hrF hrU
      have e1 : r.2.F = V2 := by rw [hV2]; exact hrF
      have e2 : r.2.U = [(42, sealS (endL q2))] := hrU
      rw [e1, e2]
      rcases keepU_one kp (42, sealS (endL q2)) with e | e
      · rw [e]; exact .inl ⟨hN2, h2 (by omega)⟩
      · rw [e]
        refine .inr ?_
        show InvT (V2.set 42 (sealS (endL q2))) q2 N2 D2 G
        rw [← hV3]; exact hI3
    · obtain ⟨e1, e2⟩ := full (by omega)
      rw [e1, e2]
      exact .inr hI3
  · have hkk : k = (layA q2 W).length := by
      rcases hr with ⟨_, h⟩ | h
      · exact h
      · have h0' : (runA (layA q2 W) s).1 = 0 := h0
        rw [h0'] at h; cases h
    obtain ⟨e1, e2⟩ := full hkk
    rw [e1, e2]
    exact ⟨rfl, hI3, hV3o⟩
/-- Behind Write that said OK, ahead of Home. -/
def Mst (n : Nat) (s : DS) (q : Int) (N : List Int) (D G : List (List Int)) : Prop := s.U = [] ∧ s.F.length = n ∧ InvT s.F q N D G ∧ eqO s.F G
/-- Write: where its power goes Recover finds what was, or what the change makes; where it says OK, what it makes. -/
theorem Lst.write {n : Nat} {s : DS} {G : List (List Int)} (h : Lst n s G) (h43 : 43 ≤ n) {q : Int} {N : List Int} {D : List (List Int)} (hT : okT n N D) (hq : 0 ≤ q ∧ q < 4294967296) :
    let r := runA (layA q (layWs q N D)) s
    (∀ kp, r.1 = 2 → Jst n (appU (keepU kp r.2.U) r.2.F) G ∨ Jst n (appU (keepU kp r.2.U) r.2.F) (appU (homeW N D) G)) ∧ (r.1 = 0 → Mst n r.2 q N D G) := by
  intro r
  have hg := h.glen
  obtain ⟨h1, h2, h3⟩ := h
  have hl : r.2.F.length = n := (runA_len _ s).1.trans h1
  have hal : ∀ kp, (appU (keepU kp r.2.U) r.2.F).length = n := fun kp => by rw [appU_length, hl]
  have hGn : (appU (homeW N D) G).length = n := by rw [appU_length, hg]
  rcases h3 with ⟨q1, N1, D1, Z, a, b, c, e⟩ | ⟨a, b⟩
  · have hz : Z.length = n := b.1.symm.trans h1
    have hvis : ∀ i, OutJ i → i < Z.length → s.vis.getD i [] = (appU (homeW N1 D1) Z).getD i [] := fun i ho hi => by
      rw [hz] at hi
      exact (h2.2 i ho (by omega)).trans (e.2 i ho (by omega)).symm
    have key := fun kp => lay_crash (q1 := q1) (q2 := q) (by omega) (layW_of hT.1) a.1 (by rw [hz]; exact a.far) hT.1 hq s b c hvis kp
    refine ⟨fun kp h2' => ?_, fun h0 => ?_⟩
    · rcases (key kp).1 with ⟨k1, _⟩ | ⟨k1, _⟩ | k1
      · exact .inl ⟨hal kp, hg, .inl ⟨q1, N1, D1, Z, a, k1, e⟩⟩
      · exact .inl ⟨hal kp, hg, .inr (k1.toO e)⟩
      · exact .inr ⟨hal kp, hGn, .inl ⟨q, N, D, _, hT, k1, appU_eqO hT.1 e⟩⟩
    · obtain ⟨k1, k2, k3⟩ := (key fun _ => true).2 h0
      have hge : eqO r.2.F G := ⟨by rw [hl, hg], fun i ho hi => (k3 i ho (by omega)).trans (e.2 i ho hi)⟩
      refine ⟨k1, hl, ⟨by rw [hl, hg], k2.2.1, fun i ho hi => .inl (hge.2 i ho hi)⟩, hge⟩
  · have key := fun kp => layN_crash (q2 := q) (by omega) (layW_of hT.1) hT.1 hq s a b kp
    refine ⟨fun kp h2' => ?_, fun h0 => ?_⟩
    · rcases (key kp).1 with ⟨k1, _⟩ | k1
      · exact .inl ⟨hal kp, hg, .inr k1⟩
      · exact .inr ⟨hal kp, hGn, .inl ⟨q, N, D, _, hT, k1, eqO.refl _⟩⟩
    · obtain ⟨k1, k2, k3⟩ := (key fun _ => true).2 h0
      exact ⟨k1, hl, k2, ⟨by rw [hl, hg], fun i ho hi => k3 i ho hi⟩⟩
/-- Home behind it. -/
theorem Mst.home {n : Nat} {s : DS} {q : Int} {N : List Int} {D G : List (List Int)} (h : Mst n s q N D G) (h43 : 43 ≤ n) (hT : okT n N D) :
    let r := runA (homeA N D) s
    (∀ kp, Jst n (appU (keepU kp r.2.U) r.2.F) (appU (homeW N D) G)) ∧ (r.1 = 0 → Lst n r.2 (appU (homeW N D) G)) := by
  intro r
  obtain ⟨h1, h2, h3, h4⟩ := h
  have hg : G.length = n := h4.1.symm.trans h2
  have hl : r.2.F.length = n := (runA_len _ s).1.trans h2
  have key : ∀ kp, InvT (appU (keepU kp r.2.U) r.2.F) q N D G := fun kp => by
    have := (home_crash hT.1 (by rw [hg]; exact hT.far) (by omega) s h3 (by rw [h1]; intro x hx; cases hx) false kp).1
    rw [show (if (false : Bool) = true then [PA.f] else []) = [] from rfl, List.append_nil] at this
    exact this
  refine ⟨fun kp => ⟨by rw [appU_length, hl], by rw [appU_length, hg], .inl ⟨q, N, D, G, hT, key kp, eqO.refl _⟩⟩, fun h0 => ?_⟩
  obtain ⟨k, hk, hfu, hr⟩ := runA_pre (homeA N D) s
  have hkk : k = (homeA N D).length := by
    rcases hr with ⟨_, h⟩ | h
    · exact h
    · have h0' : (runA (homeA N D) s).1 = 0 := h0
      rw [h0'] at h; cases h
  have hrF : r.2.F = (foldA ((homeA N D).take k) s.fuP).1 := congrArg Prod.fst hfu
  have hrU : r.2.U = (foldA ((homeA N D).take k) s.fuP).2 := congrArg Prod.snd hfu
  rw [hkk, foldA_home] at hrF hrU
  have e3 : (homeW N D).take (homeA N D).length = homeW N D := List.take_of_length_le (by simp [homeA])
  rw [e3] at hrU
  have e1 : r.2.F = s.F := hrF
  have e2 : r.2.U = homeW N D := by rw [hrU]; show s.U ++ _ = _; rw [h1, List.nil_append]
  refine ⟨hl, ?_, .inl ⟨q, N, D, G, hT, by rw [e1]; exact h3, (fun x hx => by rw [e2] at hx; exact hx), eqO.refl _⟩⟩
  show eqO (appU r.2.U r.2.F) _
  rw [e1, e2]
  exact appU_eqO hT.1 h4
theorem run_fu (a : PA) (s : DS) : (a.run s).fu = s.fu := by cases a <;> rfl
theorem runA_fu : ∀ (A : List PA) (s : DS), (runA A s).2.fu = s.fu
  | [], s => rfl
  | a :: A, s => by
    rw [runA_cons]
    split
    · exact (runA_fu A _).trans (run_fu a s)
    · rfl
/-- Recover, wherever its power goes. -/
theorem recover_any {w : World} {P : Nat → Prop} {p : Value} {s : DS} (h : Dk w P p s) {n : Nat} {G : List (List Int)} (h64 : 64 ≤ n) (hU : s.U = []) (hd : s.dn = false) (hJ : Jst n s.F G) :
    Calls Tryz.prog 64 #[p] w fun e w' => ∃ x r s' P', e = .returned (.tuple #[.int .u32 x, .int .i64 r]) ∧ Dk w' P' p s' ∧ Chg P P' w w' ∧ s'.U.length ≤ 1000 ∧ s'.F.length = n ∧ (r = 0 ∨ r = 2) ∧ (∀ k, Jst n (s'.crash k).F G) ∧ (r = 0 → s'.dn = false ∧ s'.U = [] ∧ Lst n s' G) ∧ (s.fu = false → r = 0) ∧ (0 ≤ x ∧ x < 4294967296) ∧ s'.fu = s.fu := by
  have hJ' := hJ
  obtain ⟨hFl, hg, hI⟩ := hJ
  have hv := vis_empty hU
  have hU0 : s.U.length ≤ 900000 := by rw [hU]; show 0 ≤ 900000; omega
  -- a run that said OK has its power still
  have hpw : ∀ (A : List PA) (t : DS), (runA A t).1 = 0 → t.dn = false → (runA A t).2.dn = false := by
    intro A
    induction A with
    | nil => intro t _ h; exact h
    | cons a A ih =>
      intro t h0 hdn
      rw [runA_cons] at h0 ⊢
      cases hok : t.ok
      · rw [hok, if_neg Bool.false_ne_true] at h0
        exact absurd (show (2 : Int) = 0 from h0) (by decide)
      · rw [hok, if_pos rfl] at h0
        rw [if_pos rfl]
        refine ih _ h0 ?_
        have : pDn t.fu t.le t.dn = false := by
          unfold DS.ok pOk at hok
          unfold pDn
          revert hok
          rw [hdn]
          cases t.fu <;> simp
        cases a <;> exact this
  rcases hI with ⟨q, N, D, Z, hT, hI, he⟩ | hN
  · have hz : Z.length = n := hI.1.symm.trans hFl
    have l37 := (frmT_of hT.1).1
    have hc : ∀ kp, InvT (appU (keepU kp (runA (homeA N D ++ [.f]) s).2.U) (runA (homeA N D ++ [.f]) s).2.F) q N D Z ∧ InvT (runA (homeA N D ++ [.f]) s).2.F q N D Z ∧ (∀ x ∈ (runA (homeA N D ++ [.f]) s).2.U, x ∈ homeW N D) := fun kp => home_crash hT.1 (by rw [hz]; exact hT.far) (by omega) s hI (by rw [hU]; intro x hx; cases hx) true kp
    have hlen := runA_len (homeA N D ++ [.f]) s
    rw [List.length_append, homeA_length, hU] at hlen
    have hfree := fun h1 => runA_free (homeA N D ++ [.f]) s h1 hd
    refine (gRecover_yes h (by omega) hd hU0 (q := q) (N := N) (D := D) ⟨by rw [hv]; exact hI.2.1, by rw [hFl]; exact hT.2.1⟩).mono ?_
    rintro e w' ⟨x, rfl, ⟨P', hk, hcg⟩, _, hx2⟩
    refine ⟨x, _, _, P', rfl, hk, hcg, by have := hlen.2; simp at this; omega, hlen.1.trans hFl, runA_two _ _, fun k => ⟨by show (appU _ _).length = n; rw [appU_length, hlen.1, hFl], hg, .inl ⟨q, N, D, Z, hT, (hc (kpOf k)).1, he⟩⟩, fun h0 => ?_, fun h1 => (hfree h1).1, hx2, runA_fu _ _⟩
    obtain ⟨k, hk', hfu, hr⟩ := runA_pre (homeA N D ++ [.f]) s
    have hkk : k = (homeA N D ++ [PA.f]).length := by
      rcases hr with ⟨_, h⟩ | h
      · exact h
      · rw [h0] at h; cases h
    rw [hkk, List.take_length, foldA_append] at hfu
    have e2 := foldA_home N D (homeA N D).length s.fuP
    rw [List.take_length] at e2
    have e3 : (homeW N D).take (homeA N D).length = homeW N D := List.take_of_length_le (by simp [homeA])
    rw [e3] at e2
    rw [e2] at hfu
    have a1 : (runA (homeA N D ++ [.f]) s).2.F = appU (s.U ++ homeW N D) s.F := congrArg Prod.fst hfu
    have a2 : (runA (homeA N D ++ [.f]) s).2.U = [] := congrArg Prod.snd hfu
    rw [hU, List.nil_append] at a1
    refine ⟨hpw _ _ h0 hd, a2, hlen.1.trans hFl, ?_, .inl ⟨q, N, D, Z, hT, (hc fun _ => true).2.1, (fun x hx => by rw [a2] at hx; cases hx), he⟩⟩
    rw [vis_empty a2, a1]
    exact eqO.trans ⟨by rw [appU_length, appU_length, hFl, hz], fun i ho hi => hI.done hT.1 i ho (by rw [appU_length] at hi; exact hi)⟩ he
  · have hno : ∀ q N D, ¬ holdsT s.F.length (jour s.vis) q N D := fun q N D ht => jour_zero (by rw [DS.vis_length]; omega) (by rw [hv]; exact hN.2.1) q N D ht.1
    have hst : (runA ([] ++ [.f]) s).2.F = s.F ∧ (runA ([] ++ [.f]) s).2.U = [] := by
      rw [List.nil_append, runA_cons]
      cases hok : s.ok
      · rw [if_neg Bool.false_ne_true]
        exact ⟨rfl, hU⟩
      · rw [if_pos rfl]
        exact ⟨hv, rfl⟩
    have hfree := fun h1 => runA_free ([] ++ [.f]) s h1 hd
    refine (gRecover_no h (by omega) hd hU0 hno).mono ?_
    rintro e w' ⟨x, rfl, ⟨P', hk, hcg⟩, _, hx2⟩
    refine ⟨x, _, _, P', rfl, hk, hcg, by rw [hst.2]; show 0 ≤ 1000; omega, by rw [hst.1]; exact hFl, runA_two _ _, fun k => ?_, fun h0 => ?_, fun h1 => (hfree h1).1, hx2, runA_fu _ _⟩
    · show Jst n (appU (keepU (kpOf k) _) _) G
      rw [hst.1, hst.2]
      exact ⟨hFl, hg, .inr hN⟩
    · refine ⟨hpw _ _ h0 hd, hst.2, by rw [hst.1]; exact hFl, ?_, .inr ⟨by rw [hst.1]; exact hN, hst.2⟩⟩
      rw [vis_empty hst.2, hst.1]
      exact ⟨by rw [hFl, hg], hN.2.2⟩
/-- A new disk. -/
theorem new_Jst (n : Nat) (h : 43 ≤ n) : Jst n (DS.new n).F (List.replicate n zb) := ⟨List.length_replicate, List.length_replicate, .inr ⟨rfl, new_get n 42 (by omega), fun _ _ _ => rfl⟩⟩
end Go.Proofs.YtkbeencjklgcnaaGreat

/- Whose each block is, and the blocks that say so: plainly. -/
namespace Go.Proofs.YtkbeencjklgcnaaGreat
set_option maxRecDepth 100000
open Go.RowKit BM
set_option linter.unusedVariables false

theorem pageK_split (O : List (Int × Int)) : ∀ k j, j < k → ∃ R, pageK O k = pageK O j ++ (lowB (O.getD j (0, 0)).1 2 ++ (lowB (O.getD j (0, 0)).2 2 ++ R))
  | 0, j, h => absurd h (Nat.not_lt_zero _)
  | k + 1, j, h => by
    rw [pageK]
    rcases Nat.lt_succ_iff_lt_or_eq.1 h with h | rfl
    · obtain ⟨R, e⟩ := pageK_split O k j h
      exact ⟨R ++ (lowB (O.getD k (0, 0)).1 2 ++ lowB (O.getD k (0, 0)).2 2), by rw [e]; simp [List.append_assoc]⟩
    · exact ⟨[], by simp [List.append_assoc]⟩
theorem ownJ_page {O : List (Int × Int)} (hB : OwB O) {k j : Nat} (hj : j < k) : ownJ (pageK O k) j = O.getD j (0, 0) := by
  obtain ⟨R, e⟩ := pageK_split O k j hj
  have b := hB j
  have e0 : (256 : Int) ^ 2 = 65536 := rfl
  have e1 : getV (pageK O k) (4 * j) 2 = (O.getD j (0, 0)).1 := by
    rw [e, getV_midst _ _ _ 2 b.1.1 (4 * j) (pageK_length O j)]; omega
  have e2 : getV (pageK O k) (4 * j + 2) 2 = (O.getD j (0, 0)).2 := by
    rw [e, ← List.append_assoc, getV_midst _ _ _ 2 b.2.1 (4 * j + 2) (by rw [List.length_append, pageK_length, lowB_length])]; omega
  exact Prod.ext e1 e2
theorem ownK_page {O : List (Int × Int)} (hB : OwB O) (h : O.length = 64) : ownK (pageS O) 64 = O := by
  apply List.ext_getElem (by rw [ownK_length, h])
  intro i h1 h2
  have h3 : i < 64 := by rwa [ownK_length] at h1
  have e := ownJ_page hB (k := 64) h3
  simp only [ownK, List.getElem_map, List.getElem_range, pageS, h]
  rw [e, List.getD_eq_getElem?_getD, List.getElem?_eq_getElem h2]; rfl

/-- Group g's owners. -/
def grO (O : List (Int × Int)) (g : Nat) : List (Int × Int) := (O.drop (64 * g)).take 64
theorem grO_length {O : List (Int × Int)} {k g : Nat} (h : O.length = 64 * k) (hg : g < k) : (grO O g).length = 64 := by
  unfold grO; rw [List.length_take, List.length_drop]; omega
theorem grO_getD (O : List (Int × Int)) (g : Nat) {j : Nat} (hj : j < 64) : (grO O g).getD j (0, 0) = O.getD (64 * g + j) (0, 0) := by
  unfold grO
  rw [List.getD_eq_getElem?_getD, List.getElem?_take, if_pos hj, List.getElem?_drop, List.getD_eq_getElem?_getD]
theorem grO_set (O : List (Int × Int)) {n g : Nat} (o : Int × Int) (hg : n / 64 ≠ g) : grO (O.set n o) g = grO O g := by
  apply List.ext_getElem?
  intro i
  unfold grO
  rw [List.getElem?_take, List.getElem?_take]
  split
  · rw [List.getElem?_drop, List.getElem?_drop, List.getElem?_set_ne (by omega)]
  · rfl
theorem grO_set_self (O : List (Int × Int)) (n : Nat) (o : Int × Int) : grO (O.set n o) (n / 64) = (grO O (n / 64)).set (n % 64) o := by
  apply List.ext_getElem?
  intro i
  unfold grO
  rw [List.getElem?_take]
  by_cases hi : i < 64
  · rw [if_pos hi, List.getElem?_drop]
    by_cases he : n % 64 = i
    · have e1 : 64 * (n / 64) + i = n := by omega
      rw [e1]
      by_cases hn : n < O.length
      · rw [List.getElem?_set_self hn, he, List.getElem?_set_self (by rw [List.length_take, List.length_drop]; omega)]
      · rw [List.getElem?_eq_none (by rw [List.length_set]; omega), List.getElem?_eq_none (by rw [List.length_set, List.length_take, List.length_drop]; omega)]
    · rw [List.getElem?_set_ne (by omega), List.getElem?_set_ne he, List.getElem?_take, if_pos hi, List.getElem?_drop]
  · rw [if_neg hi, List.getElem?_eq_none]
    rw [List.length_set, List.length_take]; omega
/-- Well formed owners of 64 * k blocks: just the fixed ones are Fixed. -/
structure OOk (O : List (Int × Int)) (k : Nat) : Prop where
  len : O.length = 64 * k
  k1 : 1 ≤ k
  k12 : k ≤ 12
  bd : OwB O
  frm : ∀ j, j < 64 * k → frmJ O j = true
  fx : ∀ j, j < 64 * k → decide ((O.getD j (0, 0)).1 = 65535) = fixB (j : Int)
theorem OwB.set {O : List (Int × Int)} (h : OwB O) (n : Nat) {i j : Int} (hi : 0 ≤ i ∧ i ≤ 65535) (hj : 0 ≤ j ∧ j ≤ 65535) : OwB (O.set n (i, j)) := fun m => by
  rw [List.getD_eq_getElem?_getD]
  by_cases hm : m = n
  · subst hm
    by_cases hl : m < O.length
    · rw [List.getElem?_set_self hl]; exact ⟨hi, hj⟩
    · rw [List.getElem?_eq_none (by rw [List.length_set]; omega)]; decide
  · rw [List.getElem?_set_ne (Ne.symm hm), ← List.getD_eq_getElem?_getD]; exact h m
theorem OOk.set {O : List (Int × Int)} {k n : Nat} (h : OOk O k) (hn : n < 64 * k) (hx : fixB (n : Int) = false) {i j : Int} (hi : 0 ≤ i ∧ i ≤ 65535) (hj : 0 ≤ j ∧ j ≤ 65535) (hf : frmO i j = true) (hne : i ≠ 65535) : OOk (O.set n (i, j)) k := by
  have hl := h.len
  have e : ∀ m, (O.set n (i, j)).getD m (0, 0) = if m = n then (i, j) else O.getD m (0, 0) := fun m => getD_set O n m (i, j) (0, 0) (by omega)
  refine ⟨by rw [List.length_set]; exact hl, h.k1, h.k12, h.bd.set n hi hj, fun m hm => ?_, fun m hm => ?_⟩
  · unfold frmJ; rw [e]; split
    · exact hf
    · exact h.frm m hm
  · rw [e]; split
    · next hmn => rw [hmn, hx]; exact decide_eq_false hne
    · exact h.fx m hm
theorem OOk.gr {O : List (Int × Int)} {k g : Nat} (h : OOk O k) (hg : g < k) : OwB (grO O g) ∧ allO (grO O g) = true ∧ ∀ j, j < 64 → decide (((grO O g).getD j (0, 0)).1 = 65535) = fixB (64 * (g : Int) + j) := by
  have hl := grO_length h.len hg
  refine ⟨owB_of fun j hj => ?_, ?_, fun j hj => ?_⟩
  · rw [grO_getD O g (by omega)]; exact h.bd _
  · rw [allO, hl, (frmK_iff _ 64).2 fun j hj => ?_]; · rfl
    have := h.frm (64 * g + j) (by omega)
    unfold frmJ at this ⊢
    rw [grO_getD O g hj]; exact this
  · rw [grO_getD O g hj, h.fx _ (by omega)]; congr 1
def dscN (g : Nat) : Nat := if g = 0 then 1 else 64 * g
theorem dscN_I {g : Nat} (hg : g < 12) : dscI (g : Int) = (dscN g : Int) := by
  unfold dscI dscN
  rw [if_pos (by omega)]
  by_cases h : g = 0
  · subst h; rfl
  · rw [if_neg (by omega), if_neg h]; omega
theorem ownN_I {g : Nat} (hg : g < 12) : ownI (g : Int) = (dscN g : Int) + 1 := by
  unfold ownI; rw [if_pos (by omega), dscN_I hg]
theorem dscN_in {g k : Nat} (hg : g < k) : dscN g + 1 < 64 * k ∧ OutJ (dscN g) ∧ OutJ (dscN g + 1) := by
  unfold dscN OutJ; split <;> omega
theorem dscN_ne {g m : Nat} (h : g ≠ m) : dscN g ≠ dscN m ∧ dscN g + 1 ≠ dscN m ∧ dscN g ≠ dscN m + 1 := by
  unfold dscN; split <;> split <;> omega
/-- These blocks bear these owners. -/
structure Has (G : List (List Int)) (O : List (Int × Int)) (k : Nat) : Prop where
  len : G.length = 64 * k
  ds : ∀ g, g < k → G.getD (dscN g) [] = descS (g : Int) (usedK (grO O g) 64)
  ow : ∀ g, g < k → G.getD (dscN g + 1) [] = pageS (grO O g)
/-- .. behind a change of one owner. -/
def putG (G : List (List Int)) (g : Nat) (D : List (Int × Int)) : List (List Int) := (G.set (dscN g + 1) (pageS D)).set (dscN g) (descS (g : Int) (usedK D 64))
theorem Has.put {G : List (List Int)} {O : List (Int × Int)} {k n : Nat} (h : Has G O k) (hn : n < 64 * k) (o : Int × Int) : Has (putG G (n / 64) (grO (O.set n o) (n / 64))) (O.set n o) k := by
  have hg : n / 64 < k := by omega
  have hl := h.len
  have hi := dscN_in hg
  have e : ∀ m, (putG G (n / 64) (grO (O.set n o) (n / 64))).getD m [] = if m = dscN (n / 64) then descS ((n / 64 : Nat) : Int) (usedK (grO (O.set n o) (n / 64)) 64) else if m = dscN (n / 64) + 1 then pageS (grO (O.set n o) (n / 64)) else G.getD m [] := fun m => by
    unfold putG
    rw [getD_set _ _ _ _ _ (by rw [List.length_set]; omega), getD_set _ _ _ _ _ (by omega)]
  refine ⟨by unfold putG; rw [List.length_set, List.length_set]; exact hl, fun g hgk => ?_, fun g hgk => ?_⟩
  · by_cases he : g = n / 64
    · subst he; rw [e, if_pos rfl]
    · have hne := dscN_ne he
      rw [e, if_neg hne.1, if_neg hne.2.2, grO_set O o (Ne.symm he)]; exact h.ds g hgk
  · by_cases he : g = n / 64
    · subst he; rw [e, if_neg (by omega), if_pos rfl]
    · have hne := dscN_ne he
      rw [e, if_neg hne.2.1, if_neg (by omega), grO_set O o (Ne.symm he)]; exact h.ow g hgk

theorem countB_snoc (L : List Bool) (b : Bool) : countB (L ++ [b]) = countB L + if b then 1 else 0 := by
  unfold countB; rw [List.filter_append]; cases b <;> simp
theorem used_free (O : List (Int × Int)) (j : Nat) : usedJ O j = !freeJ O j := by
  unfold usedJ freeJ; by_cases h : (O.getD j (0, 0)).1 = 0 <;> simp [h]
theorem count_used {O : List (Int × Int)} {k : Nat} (h : OOk O k) : ∀ L, L ≤ 64 * k → countB (usedK O L) = cntU O L + cntF L
  | 0, _ => rfl
  | L + 1, hL => by
    have ih := count_used h L (by omega)
    have hf := h.fx L (by omega)
    rw [usedK_succ, countB_snoc, ih, cntU, cntF, used_free]
    cases hx : fixB (L : Int)
    · cases hr : freeJ O L <;> simp <;> omega
    · rw [hx] at hf
      have hr : freeJ O L = false := by
        have := of_decide_eq_true hf
        unfold freeJ; exact decide_eq_false (by omega)
      rw [hr]; simp; omega
theorem find_is {O : List (Int × Int)} {L : Nat} (h0 : 0 < L) (goal : Int) : firstS (usedK O L) goal = findS O L (goalS L goal) := by
  have hl := usedK_length O L
  obtain ⟨g, hg⟩ : ∃ g, g = goalS L goal := ⟨_, rfl⟩
  have hgL : g < L := by rw [hg]; unfold goalS; split <;> omega
  have hu : ∀ j, j < L → (usedK O L).getD j false = !freeJ O j := fun j hj => by rw [usedK_getD O L j hj, used_free]
  have hu1 : ∀ j, j < L → (usedK O L).getD j false = true → freeJ O j = false := fun j hj h => by rw [hu j hj] at h; simpa using h
  have hu0 : ∀ j, j < L → (usedK O L).getD j false = false → freeJ O j = true := fun j hj h => by rw [hu j hj] at h; simpa using h
  have e : firstS (usedK O L) goal = if 0 ≤ firstZ (usedK O L) g then firstZ (usedK O L) g else firstZ (usedK O L) 0 := by
    unfold firstS
    rw [hl]
    unfold goalS at hg
    by_cases hin : 0 ≤ goal ∧ goal < L
    · rw [if_neg (show ¬ (goal < 0 ∨ (L : Int) ≤ goal) by omega)] at hg
      rw [if_pos hin, hg]
    · rw [if_pos (show goal < 0 ∨ (L : Int) ≤ goal by omega)] at hg
      rw [if_neg hin, hg]; split <;> rfl
  rw [e, ← hg]
  clear e hg
  rcases firstZ_cases (usedK O L) g with ⟨e1, a1⟩ | ⟨j, gj, jl, e1, z1, a1⟩
  · rw [e1, if_neg (by omega)]
    rcases firstZ_cases (usedK O L) 0 with ⟨e2, a2⟩ | ⟨j, gj, jl, e2, z2, a2⟩
    · rw [e2, findS_none fun i hi => ?_]
      have hm : (g + i) % L < L := Nat.mod_lt _ h0
      exact hu1 _ hm (a2 _ (Nat.zero_le _) (by omega))
    · rw [hl] at jl a1
      have hjg : j < g := by
        apply Classical.byContradiction; intro hn
        have := a1 j (by omega) jl
        rw [z2] at this; cases this
      have em : (g + (L - g + j)) % L = j := by
        rw [show g + (L - g + j) = j + L by omega, Nat.add_mod_right, Nat.mod_eq_of_lt jl]
      rw [e2, findS_hit (k := L - g + j) (by omega) (by rw [em]; exact hu0 j jl z2) fun i hi => ?_, em]
      by_cases hi2 : g + i < L
      · rw [Nat.mod_eq_of_lt hi2]; exact hu1 _ hi2 (a1 _ (by omega) hi2)
      · rw [show g + i = (g + i - L) + L by omega, Nat.add_mod_right, Nat.mod_eq_of_lt (by omega)]
        exact hu1 _ (by omega) (a2 _ (Nat.zero_le _) (by omega))
  · rw [hl] at jl
    have em : (g + (j - g)) % L = j := by rw [show g + (j - g) = j by omega, Nat.mod_eq_of_lt jl]
    rw [e1, if_pos (by omega), findS_hit (k := j - g) (by omega) (by rw [em]; exact hu0 j jl z1) fun i hi => ?_, em]
    rw [Nat.mod_eq_of_lt (by omega)]
    exact hu1 _ (by omega) (a1 _ (by omega) (by omega))
theorem runF_spec (O : List (Int × Int)) : ∀ i, (∀ t, i - runF O i ≤ t → t < i → freeJ O t = true) ∧ (runF O i < i → freeJ O (i - runF O i - 1) = false)
  | 0 => ⟨fun t _ h => absurd h (Nat.not_lt_zero _), fun h => absurd h (Nat.not_lt_zero _)⟩
  | i + 1 => by
    obtain ⟨a, b⟩ := runF_spec O i
    have hle := runF_le O i
    unfold runF
    cases hf : freeJ O i
    · rw [if_neg (by decide)]
      exact ⟨fun t h1 h2 => absurd h1 (by omega), fun _ => by simpa using hf⟩
    · rw [if_pos rfl]
      refine ⟨fun t h1 h2 => ?_, fun h => ?_⟩
      · by_cases ht : t = i
        · rw [ht]; exact hf
        · exact a t (by omega) (by omega)
      · have := b (by omega)
        rw [show i + 1 - (runF O i + 1) - 1 = i - runF O i - 1 by omega]; exact this
theorem run_is {O : List (Int × Int)} {L : Nat} {q : Int} (hq : 1 ≤ q) : runS (usedK O L) q = findR O L q := by
  obtain ⟨n, rfl⟩ : ∃ n : Nat, q = n := ⟨q.toNat, by omega⟩
  have hl := usedK_length O L
  have hu : ∀ j, j < L → (usedK O L).getD j false = !freeJ O j := fun j hj => by rw [usedK_getD O L j hj, used_free]
  have hu0 : ∀ j, j < L → (usedK O L).getD j false = false → freeJ O j = true := fun j hj h => by rw [hu j hj] at h; simpa using h
  have back : ∀ j, j < L → (runF O (j + 1) : Int) = n → isRun (usedK O L) n (j + 1 - n) := fun j hj he => by
    have he' : runF O (j + 1) = n := by omega
    have a := (runF_spec O (j + 1)).1
    have hle := runF_le O (j + 1)
    rw [he'] at a hle
    refine ⟨by rw [hl]; omega, fun t h1 h2 => ?_⟩
    rw [hu t (by omega), a t h1 (by omega)]; rfl
  rcases runS_spec (usedK O L) n (by omega) with ⟨e, hn⟩ | ⟨s, e, ⟨r1, r2⟩, hn⟩
  · rw [e, findR_none fun j hj he => hn _ (back j hj he)]
  · rw [hl] at r1
    have hf : ∀ t, s ≤ t → t < s + n → freeJ O t = true := fun t h1 h2 => hu0 t (by omega) (r2 t h1 h2)
    have hr : runF O (s + n) = n := by
      obtain ⟨a, b⟩ := runF_spec O (s + n)
      have hle := runF_le O (s + n)
      rcases Nat.lt_trichotomy (runF O (s + n)) n with h | h | h
      · have := b (by omega)
        rw [hf _ (by omega) (by omega)] at this; cases this
      · exact h
      · refine absurd ?_ (hn (s - 1) (by omega))
        refine ⟨by rw [hl]; omega, fun t h1 h2 => ?_⟩
        rw [hu t (by omega), a t (by omega) (by omega)]; rfl
    have e1 : s + n - 1 + 1 = s + n := by omega
    rw [e, findR_hit (k := s + n - 1) (by omega) (by rw [e1, hr]) fun j hj he => hn _ (by
      have hle := runF_le O (j + 1)
      omega) (back j (by omega) he)]
    omega
end Go.Proofs.YtkbeencjklgcnaaGreat

/- A map[int]bool as a set (all its values true): look-up, length, the two steps of an assignment in a tuple. -/
namespace Go.Proofs.YtkbeencjklgcnaaGreat
set_option maxRecDepth 100000
open Go.RowKit Go.ChangeMaps
set_option linter.unusedVariables false

/-- Block b is a map whose keys are S's, all true. -/
def MSet (w : World) (b : Nat) (S : List Int) : Prop :=
  ∃ es clock, w.heap[b]? = some (.map es clock) ∧ es.toList.map (·.key) = S.map (Value.int .i64) ∧ (∀ e ∈ es.toList, e.val = .bool true) ∧ (es.toList.map (·.born)).Nodup ∧ (∀ e ∈ es.toList, e.born < clock) ∧ ∀ n ∈ S, (Lit.int .i64 n).wf = true
def addS (S : List Int) (n : Int) : List Int := if n ∈ S then S else S ++ [n]
theorem iKeyed : Maps.Keyed Tryz.prog 3 := Maps.int_keyed Tryz.underlying3
theorem i64wf {n : Int} (h : -9223372036854775808 ≤ n ∧ n ≤ 9223372036854775807) : (Lit.int .i64 n).wf = true := by
  simp only [Lit.wf, Bool.and_eq_true, decide_eq_true_eq]
  exact h
theorem infoBool : (Tryz.prog.info? 4).map (fun i => (i.zero, i.size, i.bytes)) = some (some (.bool false), 1, 1) := by kernel_rfl
theorem zeroBool (w : World) : (zeroValue 4).run Tryz.prog w = .ok (.bool false) w := by
  obtain ⟨t, h2, h3, _⟩ := info_parts infoBool
  simp [zeroValue, typeInfo, h2, h3, Result.andThen]
theorem ikey {n : Int} (h : (Lit.int .i64 n).wf = true) : keyOf Tryz.prog 3 (.int .i64 n) = some (.int .i64 n) := Maps.keyOf_int_mk Tryz.underlying3 h
section
variable {w : World} {b : Nat} {S : List Int}
theorem MSet.keys {es : Array MapEntry} (hk : es.toList.map (·.key) = S.map (Value.int .i64)) (hw : ∀ n ∈ S, (Lit.int .i64 n).wf = true) : ∀ e ∈ es.toList, ∃ l, keyOf Tryz.prog 3 e.key = some l := fun e he => by
  have hm : e.key ∈ es.toList.map (·.key) := List.mem_map.2 ⟨e, he, rfl⟩
  rw [hk] at hm
  obtain ⟨n, hn, hx⟩ := List.mem_map.1 hm
  rw [← hx]
  exact ⟨_, ikey (hw n hn)⟩
theorem MSet.mem {es : Array MapEntry} (hk : es.toList.map (·.key) = S.map (Value.int .i64)) {n : Int} : n ∈ S ↔ ∃ e ∈ es.toList, e.key = .int .i64 n := by
  constructor
  · intro h
    have : Value.int .i64 n ∈ S.map (Value.int .i64) := List.mem_map.2 ⟨n, h, rfl⟩
    rw [← hk] at this
    obtain ⟨e, he, hx⟩ := List.mem_map.1 this
    exact ⟨e, he, hx⟩
  · rintro ⟨e, he, hx⟩
    have hm : e.key ∈ es.toList.map (·.key) := List.mem_map.2 ⟨e, he, rfl⟩
    rw [hk, hx] at hm
    obtain ⟨m, hm, e1⟩ := List.mem_map.1 hm
    cases e1
    exact hm
theorem MSet.below {w' : World} (h : MSet w b S) (hk : w'.heap[b]? = w.heap[b]?) : MSet w' b S := by
  obtain ⟨es, clock, hb, r⟩ := h
  exact ⟨es, clock, by rw [hk]; exact hb, r⟩
end
end Go.Proofs.YtkbeencjklgcnaaGreat

/- The reference's store in memory: its own blocks, what it only reads; its calls. -/
namespace Go.Proofs.YtkbeencjklgcnaaGreat
set_option maxRecDepth 100000
open Go.RowKit
set_option linter.unusedVariables false

/-- The reference's state. -/
structure RSt where
  is : List (List Int)
  call : List (List Int)
  put : List Int
  sts : List (List (List Int))
  wi : Bool
/-- Its own blocks. -/
def ROwn (b m : Nat) (vC vS : Value) (wi : Bool) (k : Nat) : Prop := k = b ∨ vS.ownBlock = some k ∨ (wi = true ∧ (vC.ownBlock = some k ∨ k = m))
/-- A [][][]byte that reads as LL, apart from P's and M's blocks but for its own row. -/
def ROld (w : World) (P M : Nat → Prop) (v : Value) (LL : List (List (List Int))) : Prop :=
  ∃ us : List Value, us.length = LL.length ∧ (∀ j, j < LL.length → BBa w (fun k => P k ∨ M k) (us.getD j undef) (LL.getD j [])) ∧ w.ownsRow 0 59 1 v LL.length us

theorem Apt.or {P Q : Nat → Prop} {v : Value} (h : Apt P v) (k : Apt Q v) : Apt (fun x => P x ∨ Q x) v := fun ad n cap e hn hh => hh.elim (h ad n cap e hn) (k ad n cap e hn)
theorem Apt.sub {P Q : Nat → Prop} {v : Value} (h : Apt P v) (k : ∀ x, Q x → P x) : Apt Q v := fun ad n cap e hn hh => h ad n cap e hn (k _ hh)
theorem BBa.sub {w : World} {P Q : Nat → Prop} {v : Value} {L : List (List Int)} (h : BBa w P v L) (k : ∀ x, Q x → P x) : BBa w Q v L := by
  rcases h with h | ⟨a, cap, hv, hcap, hc⟩
  · exact .inl h
  · refine .inr ⟨a, cap, hv, hcap, fun j hj => ?_⟩
    obtain ⟨⟨h1, h1'⟩, h2, u, h3, h4, h5⟩ := hc j hj
    exact ⟨⟨h1, fun hq => h1' (k _ hq)⟩, h2, u, h3, h4, h5.sub k⟩
/-- Another's change, seen by who owns M. -/
theorem Chg.orR {P P' M : Nat → Prop} {w w' : World} (h : Chg P P' w w') : Chg (fun k => P k ∨ M k) (fun k => P' k ∨ M k) w w' :=
  ⟨h.os, h.tape, h.output, h.size, fun k hk hn => by
    obtain ⟨h1, h2⟩ := h.keep k hk fun e => hn (.inl e)
    exact ⟨h1, fun e => e.elim h2 fun e => hn (.inr e)⟩⟩
/-- One's own change, where others own P. -/
theorem Chg.orL {P M M' : Nat → Prop} {w w' : World} (h : Chg M M' w w') : Chg (fun k => P k ∨ M k) (fun k => P k ∨ M' k) w w' :=
  ⟨h.os, h.tape, h.output, h.size, fun k hk hn => by
    obtain ⟨h1, h2⟩ := h.keep k hk fun e => hn (.inr e)
    exact ⟨h1, fun e => e.elim (fun e => hn (.inl e)) h2⟩⟩
theorem ownsRow_keep {w w' : World} {B n size : Nat} {T : TypeId} {v : Value} {us : List Value} (h : w.ownsRow B T size v n us) (hk : ∀ g, v.ownBlock = some g → w'.heap[g]? = w.heap[g]?) : w'.ownsRow B T size v n us := by
  refine ⟨h.1, h.2.imp id ?_⟩
  rintro ⟨g, cap, cur, rfl, hB, hh, r⟩
  exact ⟨g, cap, cur, rfl, hB, by rw [hk g rfl]; exact hh, r⟩
section
variable {w : World} {P M : Nat → Prop} {b m : Nat} {vI vC vP vS : Value} {s : RSt}
end
end Go.Proofs.YtkbeencjklgcnaaGreat

/- The reference's store: Begin. -/
namespace Go.Proofs.YtkbeencjklgcnaaGreat
set_option maxRecDepth 100000
open Go.RowKit
set_option linter.unusedVariables false

/-- append of whatever one-cell values to an empty slice that was made just before. -/
theorem run_append_copy (S T : TypeId) (hS : Tryz.prog.underlying S = some (.slice T)) (hT : (Tryz.prog.info? T).map (fun i => (i.zero, i.size, i.bytes)) = some (some (.slice none 0 0), 1, 24)) (w : World) (ty : TypeId)
    (ad : Addr) (n cap : Nat) (us : List Value) (hl : us.length = n) (hc : ∀ j u, us[j]? = some u → w.cell? (ad.add j) = some u ∧ (ad.add j).block < w.heap.size) (h1 : ∀ u ∈ us, u.oneCell' = true) (hn : n ≤ 1000000) :
    ∃ v' w', (Builtin.append_ #[S, S] ty #[.slice (some ⟨w.heap.size, 0, none⟩) 0 0, .slice (some ad) n cap]).run Tryz.prog (w.alloc (.cells #[] T)) = .ok v' w' ∧ w'.ownsRow w.heap.size T 1 v' n us ∧ Below w.heap.size w w' ∧ w.heap.size < w'.heap.size := by
  obtain ⟨t, h2, h3, h4, h5⟩ := info_parts hT
  have how : (w.alloc (.cells #[] T)).ownsRow w.heap.size T 1 (.slice (some ⟨w.heap.size, 0, none⟩) 0 0) 0 [] := World.ownsRow_made w #[] 0 (Nat.le_refl _) (Nat.zero_le _) rfl
  have hbel : Below w.heap.size w (w.alloc (.cells #[] T)) := below_box _ _
  have hsz : (w.alloc (.cells #[] T)).heap.size = w.heap.size + 1 := by simp
  obtain ⟨v', w', hrun, h6, h7, _, h8⟩ := run_append_own_at (P := Tryz.prog) (w.alloc (.cells #[] T)) w.heap.size S ty T t _ 1 24 hS h2 h3 h4 h5 rfl (by decide) _ 0 [] how ad n cap us (by omega) (fun j u hj => by
    have hk := hc j u hj
    rw [World.cell?_of_block (w := w) (hbel.block _ (by exact hk.2)), hk.1]) h1 (by simp only [maxLen]; omega) (by omega) (by omega)
  rw [Nat.zero_add, List.nil_append] at h6
  refine ⟨v', w', hrun, h6, hbel.grown h7 (by omega) fun k hk => ?_, by have := h7.size; omega⟩
  simp [Value.ownBlock] at hk
  omega
theorem wpList_append_copy (S T : TypeId) (hS : Tryz.prog.underlying S = some (.slice T)) (hT : (Tryz.prog.info? T).map (fun i => (i.zero, i.size, i.bytes)) = some (some (.slice none 0 0), 1, 24)) (w : World) {ops : Array Oper} {rest : List Oper} {o : Oper} {a : Act} {Q : Exit → Act → World → Prop} (hgd : o.guard = none) (s y : Operand)
    (ho : o.op = .call { callee := .builtin .append, args := #[s, y], argTypes := #[S, S] }) (hs : a.eval s = .slice (some ⟨w.heap.size, 0, none⟩) 0 0)
    (ad : Addr) (n cap : Nat) (us : List Value) (hy : a.eval y = .slice (some ad) n cap) (hl : us.length = n) (hc : ∀ j u, us[j]? = some u → w.cell? (ad.add j) = some u ∧ (ad.add j).block < w.heap.size) (h1 : ∀ u ∈ us, u.oneCell' = true) (hn : n ≤ 1000000)
    (h : ∀ v' w', w'.ownsRow w.heap.size T 1 v' n us → Below w.heap.size w w' → w.heap.size < w'.heap.size → wpList Tryz.prog ops Q rest (a.put o.dst v') w') : wpList Tryz.prog ops Q (o :: rest) a (w.alloc (.cells #[] T)) := by
  obtain ⟨v', w', hr, h2, h3, h4⟩ := run_append_copy S T hS hT w o.type ad n cap us hl hc h1 hn
  refine wpList_plain hgd fun K hK => ?_
  unfold Oper.wp execOp
  simp only [ho, resolve, invoke, builtin, Sem.run_bind, Sem.run_pure, Result.andThen_ok, List.map_toArray, List.map_cons, List.map_nil, hs, hy, hr]
  exact hK _ _ (h v' w' h2 h3 h4)
theorem box_cell {w : World} {b i : Nat} {cs : Array Value} {T : TypeId} {u : Value} (h : w.heap[b]? = some (.cells cs T (0, 0))) (hi : cs[i]? = some u) : w.cell? ⟨b, i, none⟩ = some u ∧ w.frozen? ⟨b, i, none⟩ = false :=
  ⟨by rw [cell_of_row _ _ _ _ _ _ h]; exact hi, by simp [World.frozen?, h]⟩
theorem ownsRow_shape {w : World} {B n size : Nat} {T : TypeId} {v : Value} {us : List Value} (h : w.ownsRow B T size v n us) : ∃ ao cap, v = .slice ao n cap := by
  rcases h.2 with ⟨hv, h0⟩ | ⟨g, cap, cur, hv, _⟩
  · exact ⟨none, 0, by rw [hv, h0]⟩
  · exact ⟨_, cap, hv⟩
/-- The cells of a [][]byte. -/
theorem BBa.cells {w : World} {P : Nat → Prop} {v : Value} {L : List (List Int)} (h : BBa w P v L) (h0 : 0 < L.length) :
    ∃ (ad : Addr) (cap : Nat) (us : List Value), v = .slice (some ad) L.length cap ∧ us.length = L.length ∧ (∀ j u, us[j]? = some u → w.cell? (ad.add j) = some u ∧ (ad.add j).block < w.heap.size) ∧ ∀ j, j < L.length → BSl w (us.getD j undef) (L.getD j []) ∧ Apt P (us.getD j undef) := by
  rcases h with ⟨_, rfl⟩ | ⟨⟨b, off, spot⟩, cap, rfl, hcap, hc⟩
  · exact absurd h0 (Nat.not_lt_zero _)
  · have hex : ∀ j, j < L.length → ∃ x, w.cell? ⟨b, off + j, none⟩ = some x ∧ BSl w x (L.getD j []) ∧ Apt P x := fun j hj => (hc j hj).2.2
    obtain ⟨f, hf⟩ : ∃ f : Nat → Value, ∀ j, j < L.length → w.cell? ⟨b, off + j, none⟩ = some (f j) ∧ BSl w (f j) (L.getD j []) ∧ Apt P (f j) := by
      refine ⟨fun j => if hj : j < L.length then (hex j hj).choose else undef, fun j hj => ?_⟩
      simp only [hj, dif_pos]
      exact (hex j hj).choose_spec
    have hsp : spot = none := (hc 0 h0).2.1
    subst hsp
    refine ⟨_, cap, (List.range L.length).map f, rfl, by simp, fun j u hj => ?_, fun j hj => ?_⟩
    · have hjl : j < L.length := by simpa using (List.getElem?_eq_some_iff.1 hj).1
      rw [Addr.add_lit, (hf j hjl).1, ← hj]
      exact ⟨by simp [hjl], (hc 0 h0).1.1⟩
    · rw [List.getD_eq_getElem?_getD, List.getElem?_map, List.getElem?_range hj]
      exact (hf j hj).2
theorem infoBB : (Tryz.prog.info? 59).map (fun i => (i.zero, i.size, i.bytes)) = some (some (.slice none 0 0), 1, 24) := by kernel_rfl
section
variable {w : World} {P M : Nat → Prop} {p vS : Value} {s : RSt}
end
end Go.Proofs.YtkbeencjklgcnaaGreat

/- The reference's store: Sync and End. -/
namespace Go.Proofs.YtkbeencjklgcnaaGreat
set_option maxRecDepth 100000
open Go.RowKit
set_option linter.unusedVariables false

section
variable {w : World} {P M : Nat → Prop} {p vS : Value} {s : RSt}
theorem BBa.len1 {w : World} {P : Nat → Prop} {v : Value} {L : List (List Int)} (h : BBa w P v L) : v.oneCell' = true := by
  rcases h with ⟨rfl, _⟩ | ⟨a, cap, rfl, _⟩ <;> rfl
end
end Go.Proofs.YtkbeencjklgcnaaGreat

/- The reference's store: End. -/
namespace Go.Proofs.YtkbeencjklgcnaaGreat
set_option maxRecDepth 100000
open Go.RowKit
set_option linter.unusedVariables false

section
variable {w : World} {P M : Nat → Prop} {p vS : Value} {s : RSt}
end
end Go.Proofs.YtkbeencjklgcnaaGreat

/- The reference's store: PutBlock. -/
namespace Go.Proofs.YtkbeencjklgcnaaGreat
set_option maxRecDepth 100000
open Go.RowKit Go.ChangeMaps
set_option linter.unusedVariables false

theorem step_append_bytes11 {ops : Array Oper} {o : Oper} {a : Act} {w : World} {K : Act → World → Prop} {Q : Exit → Act → World → Prop} {E : Prop} (hgd : o.guard = none) (s x : Operand)
    (ho : o.op = .call { callee := .builtin .append, args := #[s, x], argTypes := #[62, 62] })
    (B : Nat) (v : Value) (l : List Int) (hs : a.eval s = v) (hown : OB w B v l) (u : Value) (m : List Int) (hx : a.eval x = u) (hr : BSl w u m) (hm : 0 < m.length)
    (hlen : l.length + m.length ≤ 140737488355328) (hB : B ≤ w.heap.size)
    (h : ∀ v' w', OB w' B v' (l ++ m) → Below B w w' → w.grownBy w' v.ownBlock → K (a.put o.dst v') w') :
    if Region.wanted o (yielded ops a.tmps) = true then Oper.wp Tryz.prog o a w K Q else E := by
  have hw : Region.wanted o (yielded ops a.tmps) = true := by simp [Region.wanted, hgd]
  rw [if_pos hw]
  obtain ⟨i, h2, h3, h4, h5⟩ := info_parts infoU8
  obtain ⟨ao, cap, rfl, hcap⟩ := hr.shape
  have hby := byt_append hown.1 hr.1
  have e1 : (l ++ m).length = l.length + m.length := List.length_append
  have e2 : (l ++ m).map (Value.int .u8) = l.map (Value.int .u8) ++ m.map (Value.int .u8) := List.map_append
  cases ao with
  | none =>
    rcases hr.2 with ⟨_, hl⟩ | ⟨_, _, hv, _⟩
    · rw [hl] at hm; simp at hm
    · simp at hv
  | some ad =>
    have hcells : ∀ j v, (m.map (Value.int .u8))[j]? = some v → w.cell? (ad.add j) = some v := by
      intro j v hj
      have hjl : j < m.length := by simpa using (List.getElem?_eq_some_iff.1 hj).1
      obtain ⟨ad', he, hc⟩ := src_cells hr (fun _ _ => rfl) m.length (by simp; omega)
      obtain rfl : ad = ad' := by simpa using he
      exact hc j v (by simpa using hj)
    refine wp_append_own w s x 62 ho B 5 i (.int .u8 0) 1 1 Tryz.underlying62 h2 h3 h4 h5 rfl (by decide) v l.length _ hs hown.2 ad m.length cap _ hx (by simp) hcells (ints_oneCell _ _) (by simp only [maxLen]; omega) (by omega) hB fun v' w' h6 h7 _ => ?_
    exact h v' w' ⟨hby, by rw [e1, e2]; exact h6⟩ ((Below.refl _ _).grown h7 hB fun k hk => (hown.2.lt k hk).1) h7
section
variable {w : World} {P M : Nat → Prop} {p vS : Value} {s : RSt}
end
end Go.Proofs.YtkbeencjklgcnaaGreat

/- The reference's store: PutBlock that changes a block. -/
namespace Go.Proofs.YtkbeencjklgcnaaGreat
set_option maxRecDepth 100000
open Go.RowKit Go.ChangeMaps
set_option linter.unusedVariables false

section
variable {w : World} {P M : Nat → Prop} {p vS : Value} {s : RSt}
end
end Go.Proofs.YtkbeencjklgcnaaGreat

/- The reference's store: NewStore. -/
namespace Go.Proofs.YtkbeencjklgcnaaGreat
set_option maxRecDepth 100000
open Go.RowKit
set_option linter.unusedVariables false

section
variable {w : World} {P : Nat → Prop}
theorem BSl.apt_ge {w : World} {v : Value} {l : List Int} (h : BSl w v l) {Q : Nat → Prop} (hQ : ∀ k, Q k → w.heap.size ≤ k) : Apt Q v := Apt.of_lt h hQ
/-- A row of slices of bytes that are apart from P, in a block of its own. -/
theorem BBa.of_row {w : World} {P : Nat → Prop} {v : Value} {L : List (List Int)} {us : List Value} {B : Nat} (ho : w.ownsRow B 62 1 v L.length us) (hul : us.length = L.length) (he : ∀ j, j < L.length → BSl w (us.getD j undef) (L.getD j []) ∧ Apt P (us.getD j undef)) (hv : ∀ k, v.ownBlock = some k → ¬ P k) : BBa w P v L := by
  rcases ho.2 with ⟨rfl, h0⟩ | ⟨g, cap, cur, rfl, _, hh, hnc, _, hcs, ht⟩
  · exact .inl ⟨rfl, List.eq_nil_of_length_eq_zero h0⟩
  · refine .inr ⟨_, cap, rfl, hnc, fun j hj => ⟨⟨(Array.getElem?_eq_some_iff.1 hh).1, hv g rfl⟩, rfl, us.getD j undef, ?_, he j hj⟩⟩
    show w.cell? ⟨g, 0 + j, none⟩ = _
    rw [Nat.zero_add, cell_of_row _ _ _ _ _ _ hh]
    have : (cur.toList.take (L.length * 1))[j]? = us[j]? := by rw [ht]
    rw [List.getElem?_take, if_pos (by omega)] at this
    simpa [List.getD_eq_getElem?_getD, show j < us.length by omega] using this
end
end Go.Proofs.YtkbeencjklgcnaaGreat

/- The reference's store: each call by one contract. -/
namespace Go.Proofs.YtkbeencjklgcnaaGreat
set_option maxRecDepth 100000
open Go.RowKit
set_option linter.unusedVariables false

def rBegin (s : RSt) : Int × RSt := if s.wi = true then (17, s) else (0, { s with call := s.is, put := [], wi := true })
def rEnd (s : RSt) (keep : Bool) : Int × RSt := if s.wi = false then (17, s) else if keep = true then (0, { s with is := s.call, sts := s.sts ++ [s.call], wi := false }) else (0, { s with wi := false })
def rSync (s : RSt) : Int × RSt := if s.wi = true then (17, s) else (0, { s with sts := [s.is], wi := false })
def rPut (s : RSt) (n : Int) (l : List Int) : Int × RSt :=
  if s.wi = false then (17, s) else if n < 0 ∨ (s.is.length : Int) ≤ n ∨ l.length ≠ 256 then (1, s) else if n ∉ s.put ∧ 37 ≤ s.put.length then (13, s) else (0, { s with call := s.call.set n.toNat l, put := addS s.put n })
section
variable {w : World} {P M : Nat → Prop} {p vS : Value} {s : RSt}
end
end Go.Proofs.YtkbeencjklgcnaaGreat

/- The law's own parts that do not touch the store: so many blocks of noughts; is a block of the journal put; the block of an op. -/
namespace Go.Proofs.YtkbeencjklgcnaaGreat
set_option maxRecDepth 100000
open Go.RowKit
set_option linter.unusedVariables false

/-- An op. -/
def opV (k n x : Int) (keep short : Bool) : Value := .agg #[.int .i64 k, .int .i64 n, .int .u8 x, .bool keep, .bool short]
def inJo (k n : Int) : Bool := decide (k = 2) && (decide (3 ≤ n) && decide (n < 43))
/-- The bytes of an op's block, i of them laid. -/
def blkB (L : Nat) (x : Int) (i : Nat) : List Int := List.replicate i x ++ List.replicate (L - i) 0
def blkL (x : Int) (short : Bool) : List Int := List.replicate (if short = true then 255 else 256) x
theorem blkB_len (L : Nat) (x : Int) (i : Nat) (h : i ≤ L) : (blkB L x i).length = L := by simp [blkB]; omega
theorem blkB_byt (L : Nat) (x : Int) (i : Nat) (h : 0 ≤ x ∧ x ≤ 255) : Byt (blkB L x i) := byt_append (byt_of_mem fun y hy => by rw [List.eq_of_mem_replicate hy]; exact h) (byt_replicate _)
theorem blkB_set (L : Nat) (x : Int) (i : Nat) (h : i < L) : (blkB L x i).set i x = blkB L x (i + 1) := by
  unfold blkB
  rw [List.set_append, List.length_replicate, if_neg (Nat.lt_irrefl i), Nat.sub_self, show L - i = (L - (i + 1)) + 1 by omega, List.replicate_succ, List.set_cons_zero, List.replicate_succ', List.append_assoc]
  rfl
theorem blkB_zero (L : Nat) (x : Int) : blkB L x 0 = List.replicate L 0 := by simp [blkB]
theorem blkB_full (L : Nat) (x : Int) : blkB L x L = List.replicate L x := by simp [blkB]
/-- A row of L bytes with room for 256, one of them set. -/
theorem OB.setOne {w : World} {B g L : Nat} {l : List Int} (h : OB w B (.slice (some ⟨g, 0, none⟩) L 256) l) (hl : l.length = L) (h0 : 0 < L) {i : Nat} (hi : i < L) {x : Int} (hx : 0 ≤ x ∧ x ≤ 255) :
    OB (w.setCell ⟨g, i, none⟩ (.int .u8 x)) B (.slice (some ⟨g, 0, none⟩) L 256) (l.set i x) ∧ w.cell? ⟨g, i, none⟩ = some (.int .u8 (l.getD i 0)) ∧ w.frozen? ⟨g, i, none⟩ = false := by
  obtain ⟨hb, h1, h2⟩ := h
  rcases h2 with ⟨e, _⟩ | ⟨g', cap, cur, e, hB, hh, hnc, hcm, hcs, ht⟩
  · cases e
  · injection e with a1 a2 a3
    injection a1 with a1
    injection a1 with a1
    subst a1
    subst a3
    have hil : i < l.length := by omega
    refine ⟨⟨fun j => ?_, by simp, .inr ⟨g, 256, _, by simp [hl], hB, heap_setCell_same w g i _ _ (.int .u8 x) hh, by simp; omega, hcm, by simp [hcs], ?_⟩⟩, ?_, by simp [World.frozen?, hh]⟩
    · by_cases e : i = j
      · subst e
        rw [List.getD_eq_getElem?_getD, List.getElem?_set_self hil]; exact hx
      · rw [List.getD_eq_getElem?_getD, List.getElem?_set_ne e, ← List.getD_eq_getElem?_getD]; exact hb j
    · rw [Array.toList_setIfInBounds, List.take_set, List.map_set]
      rw [List.length_set, ht]
    · rw [cell_of_row _ _ _ _ _ _ hh]
      have : (cur.toList.take (l.length * 1))[i]? = (l.map (Value.int .u8))[i]? := by rw [ht]
      rw [List.getElem?_take, if_pos (by omega)] at this
      simpa [List.getD_eq_getElem?_getD, hil] using this
theorem ob_row {w : World} {g M L : Nat} (hL : L ≤ M) (hM : M ≤ maxLen) (hh : w.heap[g]? = some (.cells (Array.replicate M (.int .u8 0)) 5 (0, 0))) : OB w g (.slice (some ⟨g, 0, none⟩) L M) (List.replicate L 0) :=
  ⟨byt_replicate _, by simp, .inr ⟨g, M, _, by simp, Nat.le_refl _, hh, by simpa using hL, hM, by simp, by simp [List.take_replicate, Nat.min_eq_left hL]⟩⟩
end Go.Proofs.YtkbeencjklgcnaaGreat
