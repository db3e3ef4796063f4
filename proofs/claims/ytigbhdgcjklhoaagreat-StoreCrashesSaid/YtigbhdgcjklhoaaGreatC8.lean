/- What a crash leaves of a transaction that is laid down, of one that is written home: plain facts. -/
import Derived.Maps.Keyed
import Derived.WideKeyEntry
import Derived.ArgAppend
import Derived.Deep.RegionLaw
import Derived.Test.YtigbhdgcjklhoaaGreatC7
namespace Go.Proofs.YtigbhdgcjklhoaaGreat
set_option maxRecDepth 100000
open Go.RowKit
set_option linter.unusedVariables false

/-- Blocks that are not the journal's. -/
def OutJ (i : Nat) : Prop := i < 3 ∨ 43 ≤ i
/-- The Writes of a transaction's blocks at their numbers; the blocks with them done. -/
def homeW (N : List Int) (D : List (List Int)) : List (Nat × List Int) := (List.range N.length).map fun j => ((N.getD j 0).toNat, D.getD j [])
theorem homeW_mem {N : List Int} {D : List (List Int)} {x : Nat × List Int} (h : x ∈ homeW N D) : ∃ j, j < N.length ∧ x = ((N.getD j 0).toNat, D.getD j []) := by
  obtain ⟨j, hj, rfl⟩ := List.mem_map.1 h
  exact ⟨j, List.mem_range.1 hj, rfl⟩
theorem homeW_get {N : List Int} {D : List (List Int)} {j : Nat} (hj : j < N.length) : ((N.getD j 0).toNat, D.getD j []) ∈ homeW N D := List.mem_map.2 ⟨j, List.mem_range.2 hj, rfl⟩
/-- All numbers of a transaction lie outside the journal, on a disk of n blocks. -/
def farT (n : Nat) (N : List Int) : Prop := ∀ j, j < N.length → OutJ (N.getD j 0).toNat ∧ (N.getD j 0).toNat < n
theorem homeW_one {N : List Int} {D : List (List Int)} (hF : frmT N D = true) {x y : Nat × List Int} (hx : x ∈ homeW N D) (hy : y ∈ homeW N D) (h : x.1 = y.1) : x.2 = y.2 := by
  obtain ⟨_, _, hall⟩ := frmT_of hF
  obtain ⟨i, hi, rfl⟩ := homeW_mem hx
  obtain ⟨j, hj, rfl⟩ := homeW_mem hy
  have hi' := hall i hi
  have hj' := hall j hj
  have e : N.getD i 0 = N.getD j 0 := by
    have : (N.getD i 0).toNat = (N.getD j 0).toNat := h
    omega
  have eij : i = j := by
    rcases Nat.lt_trichotomy i j with hlt | hlt | hlt
    · exact absurd e ((newT_iff N j hj).1 hj'.2.2 i hlt)
    · exact hlt
    · exact absurd e.symm ((newT_iff N i hi).1 hi'.2.2 j hlt)
  rw [eij]
/-- Some Writes of a transaction's blocks: each block is as it was, or as the transaction makes it. -/
theorem home_some {N : List Int} {D : List (List Int)} (hF : frmT N D = true) {W : List (Nat × List Int)} (hW : ∀ x ∈ W, x ∈ homeW N D) (F G : List (List Int)) (i : Nat) (hi : i < G.length) (h0 : F.getD i [] = G.getD i [] ∨ F.getD i [] = (appU (homeW N D) G).getD i []) :
    (appU W F).getD i [] = G.getD i [] ∨ (appU W F).getD i [] = (appU (homeW N D) G).getD i [] := by
  by_cases hex : ∃ x ∈ homeW N D, x.1 = i
  · obtain ⟨x, hx, hxi⟩ := hex
    have hall : ∀ z ∈ homeW N D, z.1 = i → z.2 = x.2 := fun z hz hzi => homeW_one hF hz hx (hzi.trans hxi.symm)
    have h1 := appU_hit (homeW N D) G i x.2 hi hall ⟨x, hx, hxi⟩
    rw [h1]
    rcases appU_or W F i x.2 (fun z hz hzi => hall z (hW z hz) hzi) with h | h
    · rw [h]; rw [h1] at h0; exact h0
    · exact .inr h
  · have hno : ∀ z ∈ homeW N D, z.1 ≠ i := fun z hz hzi => hex ⟨z, hz, hzi⟩
    rw [appU_other W F i fun z hz => hno z (hW z hz)]
    exact h0
/-- All of them: as the transaction makes it. -/
theorem home_all {N : List Int} {D : List (List Int)} (hF : frmT N D = true) (F G : List (List Int)) (hl : F.length = G.length) (i : Nat) (hi : i < G.length) (h0 : F.getD i [] = G.getD i [] ∨ F.getD i [] = (appU (homeW N D) G).getD i []) :
    (appU (homeW N D) F).getD i [] = (appU (homeW N D) G).getD i [] := by
  by_cases hex : ∃ x ∈ homeW N D, x.1 = i
  · obtain ⟨x, hx, hxi⟩ := hex
    have hall : ∀ z ∈ homeW N D, z.1 = i → z.2 = x.2 := fun z hz hzi => homeW_one hF hz hx (hzi.trans hxi.symm)
    rw [appU_hit (homeW N D) G i x.2 hi hall ⟨x, hx, hxi⟩, appU_hit (homeW N D) F i x.2 (by omega) hall ⟨x, hx, hxi⟩]
  · have hno : ∀ z ∈ homeW N D, z.1 ≠ i := fun z hz hzi => hex ⟨z, hz, hzi⟩
    have e := appU_other (homeW N D) G i hno
    rw [appU_other _ F i hno, e]
    rcases h0 with h0 | h0
    · exact h0
    · rw [h0, e]
theorem home_jour {N : List Int} {D : List (List Int)} {n : Nat} (hf : farT n N) {W : List (Nat × List Int)} (hW : ∀ x ∈ W, x ∈ homeW N D) (F : List (List Int)) (h : 43 ≤ F.length) : jour (appU W F) = jour F := by
  refine jour_congr (by rw [appU_length]; exact h) h fun i h1 h2 => appU_other W F i fun x hx e => ?_
  obtain ⟨j, hj, rfl⟩ := homeW_mem (hW x hx)
  have := (hf j hj).1
  have e : (N.getD j 0).toNat = i := e
  rw [e] at this
  rcases this with h | h <;> omega

/-- The disk's flushed blocks hold this transaction in the journal; each other block is G's, or as the transaction makes it. -/
def InvT (F : List (List Int)) (q : Int) (N : List Int) (D G : List (List Int)) : Prop :=
  F.length = G.length ∧ isTxn (jour F) q N D ∧ ∀ i, OutJ i → i < G.length → F.getD i [] = G.getD i [] ∨ F.getD i [] = (appU (homeW N D) G).getD i []
/-- No transaction is in the journal; the other blocks are G's. -/
def InvN (F G : List (List Int)) : Prop := F.length = G.length ∧ F.getD 42 [] = z256 ∧ ∀ i, OutJ i → i < G.length → F.getD i [] = G.getD i []
theorem InvT.home {F : List (List Int)} {q : Int} {N : List Int} {D G : List (List Int)} (h : InvT F q N D G) (hF : frmT N D = true) (hf : farT G.length N) (hG : 43 ≤ G.length) {W : List (Nat × List Int)} (hW : ∀ x ∈ W, x ∈ homeW N D) : InvT (appU W F) q N D G :=
  ⟨by rw [appU_length]; exact h.1, by rw [home_jour hf hW F (by rw [h.1]; exact hG)]; exact h.2.1, fun i hi hl => home_some hF hW F G i hl (h.2.2 i hi hl)⟩
theorem InvT.done {F : List (List Int)} {q : Int} {N : List Int} {D G : List (List Int)} (h : InvT F q N D G) (hF : frmT N D = true) (i : Nat) (hi : OutJ i) (hl : i < G.length) : (appU (homeW N D) F).getD i [] = (appU (homeW N D) G).getD i [] :=
  home_all hF F G h.1 i hl (h.2.2 i hi hl)

/-- The steps of laying a transaction down; W: the Writes of its head and blocks. -/
def layA (q : Int) (W : List (Nat × List Int)) : List PA := [.f, .w 42 z256, .f] ++ (W.map fun y => .w y.1 y.2) ++ [.f, .w 42 (sealS (endL q)), .f]
/-- W lays head and blocks down, within the journal ahead of its last block. -/
def layW (q : Int) (N : List Int) (D : List (List Int)) (W : List (Nat × List Int)) : Prop :=
  (∀ x ∈ W, 3 ≤ x.1 ∧ x.1 < 42) ∧ ∀ F : List (List Int), 43 ≤ F.length → (appU W F).getD 3 [] = sealS (headL q N) ∧ ∀ j, j < N.length → (appU W F).getD (4 + j) [] = D.getD j []
theorem set_other (F : List (List Int)) (k i : Nat) (x : List Int) (h : k ≠ i) : (F.set k x).getD i [] = F.getD i [] := by
  rw [List.getD_eq_getElem?_getD, List.getElem?_set_ne h, ← List.getD_eq_getElem?_getD]
theorem set_same (F : List (List Int)) (k : Nat) (x : List Int) (h : k < F.length) : (F.set k x).getD k [] = x := by
  simp [List.getD_eq_getElem?_getD, h]
theorem keepU_one (kp : Nat → Bool) (x : Nat × List Int) : keepU kp [x] = [] ∨ keepU kp [x] = [x] := by
  unfold keepU
  cases h : kp 0
  · left; simp [h]
  · right; simp [h]
/-- Behind the power's going while a transaction is laid down, whatever Writes are kept: what was in the journal stays (and what was unflushed is there in part), or there is none, and all of the other blocks is there, or the new one is. -/
theorem lay_crash {q1 q2 : Int} {N1 N2 : List Int} {D1 D2 Z : List (List Int)} (hZ : 43 ≤ Z.length) {W : List (Nat × List Int)} (hW : layW q2 N2 D2 W) (hF1 : frmT N1 D1 = true) (hf1 : farT Z.length N1) (hF2 : frmT N2 D2 = true) (hq2 : 0 ≤ q2 ∧ q2 < 4294967296)
    (s : DS) (hs : InvT s.F q1 N1 D1 Z) (hU : ∀ x ∈ s.U, x ∈ homeW N1 D1) (hv : ∀ i, OutJ i → i < Z.length → s.vis.getD i [] = (appU (homeW N1 D1) Z).getD i []) (kp : Nat → Bool) :
    let r := runA (layA q2 W) s
    let G := appU (homeW N1 D1) Z
    (InvT (appU (keepU kp r.2.U) r.2.F) q1 N1 D1 Z ∧ r.1 = 2 ∨ InvN (appU (keepU kp r.2.U) r.2.F) G ∧ r.1 = 2 ∨ InvT (appU (keepU kp r.2.U) r.2.F) q2 N2 D2 G) ∧
      (r.1 = 0 → r.2.U = [] ∧ InvT r.2.F q2 N2 D2 G ∧ ∀ i, OutJ i → i < Z.length → r.2.F.getD i [] = G.getD i []) := by
  intro r G
  have hGl : G.length = Z.length := appU_length _ _
  obtain ⟨k, hk, hfu, hr⟩ := runA_pre (layA q2 W) s
  have hrF : r.2.F = (foldA ((layA q2 W).take k) s.fuP).1 := congrArg Prod.fst hfu
  have hrU : r.2.U = (foldA ((layA q2 W).take k) s.fuP).2 := congrArg Prod.snd hfu
  have hlen : (layA q2 W).length = 6 + W.length := by simp [layA]; omega
  -- the blocks at each stage
  obtain ⟨V0, hV0⟩ : ∃ V0, V0 = s.vis := ⟨_, rfl⟩
  have hV0l : V0.length = Z.length := by rw [hV0, DS.vis_length, hs.1]
  have hV0j : jour V0 = jour s.F := by rw [hV0]; exact home_jour hf1 hU s.F (by rw [hs.1]; exact hZ)
  have hV0o : ∀ i, OutJ i → i < Z.length → V0.getD i [] = G.getD i [] := by rw [hV0]; exact hv
  have hI0 : InvT V0 q1 N1 D1 Z := ⟨hV0l, by rw [hV0j]; exact hs.2.1, fun i hi hl => .inr (hV0o i hi hl)⟩
  obtain ⟨V1, hV1⟩ : ∃ V1, V1 = V0.set 42 z256 := ⟨_, rfl⟩
  have hV1l : V1.length = Z.length := by rw [hV1, List.length_set, hV0l]
  have out42 : ∀ i, OutJ i → 42 ≠ i := fun i hi e => by rcases hi with h | h <;> omega
  have hV1o : ∀ i, OutJ i → i < Z.length → V1.getD i [] = G.getD i [] := fun i hi hl => by rw [hV1, set_other _ _ _ _ (out42 i hi)]; exact hV0o i hi hl
  have hV1z : V1.getD 42 [] = z256 := by rw [hV1]; exact set_same _ _ _ (by omega)
  have hN1 : InvN V1 G := ⟨by rw [hV1l, hGl], hV1z, fun i hi hl => hV1o i hi (by rw [hGl] at hl; exact hl)⟩
  have hWN : ∀ X, (∀ x ∈ X, x ∈ W) → InvN (appU X V1) G := fun X hX => by
    refine ⟨by rw [appU_length, hV1l, hGl], ?_, fun i hi hl => ?_⟩
    · rw [appU_other X V1 42 fun x hx e => by have := (hW.1 x (hX x hx)).2; omega]; exact hV1z
    · rw [appU_other X V1 i fun x hx e => by have := hW.1 x (hX x hx); rcases hi with h | h <;> omega]
      exact hV1o i hi (by rw [hGl] at hl; exact hl)
  obtain ⟨V2, hV2⟩ : ∃ V2, V2 = appU W V1 := ⟨_, rfl⟩
  have hV2l : V2.length = Z.length := by rw [hV2, appU_length, hV1l]
  have hN2 : InvN V2 G := by rw [hV2]; exact hWN W fun x hx => hx
  obtain ⟨V3, hV3⟩ : ∃ V3, V3 = V2.set 42 (sealS (endL q2)) := ⟨_, rfl⟩
  have hV3l : V3.length = Z.length := by rw [hV3, List.length_set, hV2l]
  obtain ⟨hd, hbl⟩ := hW.2 V1 (by omega)
  have h37 := (frmT_of hF2).1
  have hT3 : isTxn (jour V3) q2 N2 D2 := by
    refine jour_txn (by omega) hF2 hq2 ?_ (fun j hj => ?_) ?_
    · rw [hV3, set_other _ _ _ _ (by omega), hV2]; exact hd
    · rw [hV3, set_other _ _ _ _ (by omega), hV2]; exact hbl j hj
    · rw [hV3]; exact set_same _ _ _ (by omega)
  have hV3o : ∀ i, OutJ i → i < Z.length → V3.getD i [] = G.getD i [] := fun i hi hl => by rw [hV3, set_other _ _ _ _ (out42 i hi)]; exact hN2.2.2 i hi (by rw [hGl]; exact hl)
  have hI3 : InvT V3 q2 N2 D2 G := ⟨by rw [hV3l, hGl], hT3, fun i hi hl => .inl (hV3o i hi (by rw [hGl] at hl; exact hl))⟩
  have full : k = (layA q2 W).length → r.2.F = V3 ∧ r.2.U = [] := fun e => by
    rw [hrF, hrU, e, List.take_length]
    unfold layA
    rw [foldA_append, foldA_append, foldA_ws]
    have a1 : foldA [.f, .w 42 z256, .f] s.fuP = (V1, []) := by
      show (appU ([] ++ [(42, z256)]) (appU s.U s.F), ([] : List (Nat × List Int))) = (V1, [])
      rw [hV1, hV0]; rfl
    rw [a1]
    show (appU ([] ++ [(42, sealS (endL q2))]) (appU ([] ++ W) V1)) = V3 ∧ _
    rw [hV3, hV2]
    exact ⟨rfl, rfl⟩
  refine ⟨?_, fun h0 => ?_⟩
  · have hcase : k = 0 ∨ k = 1 ∨ k = 2 ∨ (3 ≤ k ∧ k ≤ 3 + W.length) ∨ k = 4 + W.length ∨ k = 5 + W.length ∨ k = 6 + W.length := by omega
    have h2 : k ≠ (layA q2 W).length → r.1 = 2 := fun hne => by
      rcases hr with ⟨_, h⟩ | h
      · exact absurd h hne
      · exact h
    have step : ∀ j, (layA q2 W).take (3 + j) = ([PA.f, PA.w 42 z256, PA.f] : List PA) ++ ((W.map fun y : Nat × List Int => PA.w y.1 y.2) ++ [PA.f, PA.w 42 (sealS (endL q2)), PA.f]).take j := fun j => by
      unfold layA
      rw [List.append_assoc]
      exact List.take_length_add_append (l₁ := ([PA.f, PA.w 42 z256, PA.f] : List PA)) j
    have a1 : foldA [.f, .w 42 z256, .f] s.fuP = (V1, []) := by
      show (appU ([] ++ [(42, z256)]) (appU s.U s.F), ([] : List (Nat × List Int))) = (V1, [])
      rw [hV1, hV0]; rfl
    rcases hcase with rfl | rfl | rfl | ⟨ha, hb⟩ | rfl | rfl | rfl
    · refine .inl ⟨?_, h2 (by omega)⟩
      have e1 : r.2.F = s.F := hrF
      have e2 : r.2.U = s.U := hrU
      rw [e1, e2]
      exact hs.home hF1 hf1 hZ fun x hx => hU x (keepU_mem hx)
    · refine .inl ⟨?_, h2 (by omega)⟩
      have e1 : r.2.F = V0 := by rw [hV0]; exact hrF
      have e2 : r.2.U = [] := hrU
      rw [e1, e2]
      exact hI0
    · have e1 : r.2.F = V0 := by rw [hV0]; exact hrF
      have e2 : r.2.U = [(42, z256)] := hrU
      rw [e1, e2]
      rcases keepU_one kp (42, z256) with e | e
      · rw [e]; exact .inl ⟨hI0, h2 (by omega)⟩
      · rw [e]
        refine .inr (.inl ⟨?_, h2 (by omega)⟩)
        show InvN (V0.set 42 z256) G
        rw [← hV1]; exact hN1
    · obtain ⟨j, rfl⟩ : ∃ j, k = 3 + j := ⟨k - 3, by omega⟩
      have hj : j ≤ W.length := by omega
      rw [step, List.take_append_of_le_length (by simpa using hj), ← List.map_take, foldA_append, a1, foldA_ws] at hrF hrU
      rw [hrF, hrU]
      refine .inr (.inl ⟨hWN _ fun x hx => ?_, h2 (by omega)⟩)
      have := keepU_mem hx
      rw [List.nil_append] at this
      exact List.mem_of_mem_take this
    · have e0 : (layA q2 W).take (4 + W.length) = [.f, .w 42 z256, .f] ++ ((W.map fun y => PA.w y.1 y.2) ++ [.f]) := by
        rw [show 4 + W.length = 3 + (W.length + 1) by omega, step]
        congr 1
        rw [show W.length + 1 = (W.map fun y => PA.w y.1 y.2).length + 1 by simp, List.take_length_add_append]; rfl
      rw [e0, foldA_append, foldA_append, a1, foldA_ws] at hrF hrU
      have e1 : r.2.F = V2 := by rw [hV2]; exact hrF
      have e2 : r.2.U = [] := hrU
      rw [e1, e2]
      exact .inr (.inl ⟨hN2, h2 (by omega)⟩)
    · have e0 : (layA q2 W).take (5 + W.length) = [.f, .w 42 z256, .f] ++ ((W.map fun y => PA.w y.1 y.2) ++ [.f, .w 42 (sealS (endL q2))]) := by
        rw [show 5 + W.length = 3 + (W.length + 2) by omega, step]
        congr 1
        rw [show W.length + 2 = (W.map fun y => PA.w y.1 y.2).length + 2 by simp, List.take_length_add_append]; rfl
      rw [e0, foldA_append, foldA_append, a1, foldA_ws] at hrF hrU
      have e1 : r.2.F = V2 := by rw [hV2]; exact hrF
      have e2 : r.2.U = [(42, sealS (endL q2))] := hrU
      rw [e1, e2]
      rcases keepU_one kp (42, sealS (endL q2)) with e | e
      · rw [e]; exact .inr (.inl ⟨hN2, h2 (by omega)⟩)
      · rw [e]
        refine .inr (.inr ?_)
        show InvT (V2.set 42 (sealS (endL q2))) q2 N2 D2 G
        rw [← hV3]; exact hI3
    · obtain ⟨e1, e2⟩ := full (by omega)
      rw [e1, e2]
      exact .inr (.inr hI3)
  · have hkk : k = (layA q2 W).length := by
      rcases hr with ⟨_, h⟩ | h
      · exact h
      · have h0' : (runA (layA q2 W) s).1 = 0 := h0
        rw [h0'] at h; cases h
    obtain ⟨e1, e2⟩ := full hkk
    rw [e1, e2]
    exact ⟨rfl, hI3, hV3o⟩
/-- The steps of writing a transaction home, and of recovering it. -/
def homeA (N : List Int) (D : List (List Int)) : List PA := (homeW N D).map fun y => .w y.1 y.2
theorem foldA_home (N : List Int) (D : List (List Int)) (k : Nat) (x : List (List Int) × List (Nat × List Int)) : foldA ((homeA N D).take k) x = (x.1, x.2 ++ (homeW N D).take k) := by
  unfold homeA
  rw [← List.map_take, foldA_ws]
theorem homeA_length (N : List Int) (D : List (List Int)) : (homeA N D).length = N.length := by simp [homeA, homeW]
/-- Behind the power's going while a transaction is written home (and flushed), whatever Writes are kept, it is in the journal still, each block as it was or as it makes it. -/
theorem home_crash {q : Int} {N : List Int} {D G : List (List Int)} (hF : frmT N D = true) (hf : farT G.length N) (hG : 43 ≤ G.length) (s : DS) (hs : InvT s.F q N D G) (hU : ∀ x ∈ s.U, x ∈ homeW N D) (fl : Bool) (kp : Nat → Bool) :
    let r := runA (homeA N D ++ (if fl then [.f] else [])) s
    InvT (appU (keepU kp r.2.U) r.2.F) q N D G ∧ InvT r.2.F q N D G ∧ (∀ x ∈ r.2.U, x ∈ homeW N D) := by
  intro r
  obtain ⟨k, hk, hfu, _⟩ := runA_pre (homeA N D ++ (if fl then [PA.f] else [])) s
  have hrF : r.2.F = (foldA ((homeA N D ++ (if fl then [PA.f] else [])).take k) s.fuP).1 := congrArg Prod.fst hfu
  have hrU : r.2.U = (foldA ((homeA N D ++ (if fl then [PA.f] else [])).take k) s.fuP).2 := congrArg Prod.snd hfu
  have key : InvT r.2.F q N D G ∧ ∀ x ∈ r.2.U, x ∈ homeW N D := by
    by_cases hkl : k ≤ (homeA N D).length
    · rw [List.take_append_of_le_length hkl, foldA_home] at hrF hrU
      rw [hrF, hrU]
      refine ⟨hs, fun x hx => ?_⟩
      rcases List.mem_append.1 hx with h | h
      · exact hU x h
      · exact List.mem_of_mem_take h
    · cases fl
      · rw [List.length_append] at hk
        simp at hk
        omega
      · have e : (homeA N D ++ (if true then [PA.f] else [])).take k = homeA N D ++ [PA.f] := by
          apply List.take_of_length_le
          simp
          omega
        rw [e, foldA_append] at hrF hrU
        have e2 := foldA_home N D (homeA N D).length s.fuP
        rw [List.take_length] at e2
        rw [e2] at hrF hrU
        have e3 : (homeW N D).take (homeA N D).length = homeW N D := by
          apply List.take_of_length_le
          simp [homeA]
        rw [e3] at hrF hrU
        have e4 : r.2.F = appU (s.U ++ homeW N D) s.F := hrF
        have e5 : r.2.U = [] := hrU
        rw [e4, e5]
        refine ⟨hs.home hF hf hG fun x hx => ?_, fun x hx => by cases hx⟩
        rcases List.mem_append.1 hx with h | h
        · exact hU x h
        · exact h
  exact ⟨key.1.home hF hf hG fun x hx => key.2 x (keepU_mem hx), key.1, key.2⟩
/-- With power, and no fuse, all of it is there. -/
theorem home_done {q : Int} {N : List Int} {D G : List (List Int)} (hF : frmT N D = true) (hf : farT G.length N) (hG : 43 ≤ G.length) (s : DS) (hs : InvT s.F q N D G) (hU : ∀ x ∈ s.U, x ∈ homeW N D) (h1 : s.fu = false) (h2 : s.dn = false) (fl : Bool) :
    let r := runA (homeA N D ++ (if fl then [.f] else [])) s
    r.1 = 0 ∧ r.2.fu = false ∧ r.2.dn = false ∧ (∀ i, OutJ i → i < G.length → r.2.vis.getD i [] = (appU (homeW N D) G).getD i []) ∧ jour r.2.vis = jour s.F ∧ (fl = true → r.2.U = []) := by
  intro r
  obtain ⟨g1, g2, g3, g4, _⟩ := runA_free (homeA N D ++ (if fl then [PA.f] else [])) s h1 h2
  have e3 : (homeW N D).take (homeA N D).length = homeW N D := by
    apply List.take_of_length_le
    simp [homeA]
  have e2 := foldA_home N D (homeA N D).length s.fuP
  rw [List.take_length, e3] at e2
  have hv : r.2.vis = appU (homeW N D) (appU s.U s.F) ∧ (fl = true → r.2.U = []) := by
    rw [foldA_append, e2] at g2
    cases fl
    · have a1 : r.2.F = s.F := congrArg Prod.fst g2
      have a2 : r.2.U = s.U ++ homeW N D := congrArg Prod.snd g2
      refine ⟨?_, fun h => by cases h⟩
      show appU r.2.U r.2.F = _
      rw [a1, a2, appU_append]
    · have a1 : r.2.F = appU (s.U ++ homeW N D) s.F := congrArg Prod.fst g2
      have a2 : r.2.U = [] := congrArg Prod.snd g2
      refine ⟨?_, fun _ => a2⟩
      show appU r.2.U r.2.F = _
      rw [a1, a2, appU_append]; rfl
  have hI := hs.home hF hf hG hU
  refine ⟨g1, g3, g4, fun i hi hl => ?_, ?_, hv.2⟩
  · rw [hv.1]; exact hI.done hF i hi hl
  · rw [hv.1, home_jour hf (fun x hx => hx) _ (by rw [appU_length, hs.1]; exact hG), home_jour hf hU _ (by rw [hs.1]; exact hG)]
end Go.Proofs.YtigbhdgcjklhoaaGreat

/- A map[int]bool as a set (all its values true): look-up, length, the two steps of an assignment in a tuple. -/
namespace Go.Proofs.YtigbhdgcjklhoaaGreat
set_option maxRecDepth 100000
open Go.RowKit Go.ChangeMaps
set_option linter.unusedVariables false

/-- Block b is a map whose keys are S's, all true. -/
def MSet (w : World) (b : Nat) (S : List Int) : Prop :=
  ∃ es clock, w.heap[b]? = some (.map es clock) ∧ es.toList.map (·.key) = S.map (Value.int .i64) ∧ (∀ e ∈ es.toList, e.val = .bool true) ∧ (es.toList.map (·.born)).Nodup ∧ (∀ e ∈ es.toList, e.born < clock) ∧ ∀ n ∈ S, (Lit.int .i64 n).wf = true
def addS (S : List Int) (n : Int) : List Int := if n ∈ S then S else S ++ [n]
theorem iKeyed : Maps.Keyed Tryz.prog 3 := Maps.int_keyed Tryz.underlying3
theorem i64wf {n : Int} (h : -9223372036854775808 ≤ n ∧ n ≤ 9223372036854775807) : (Lit.int .i64 n).wf = true := by
  simp only [Lit.wf, Bool.and_eq_true, decide_eq_true_eq]
  exact h
theorem infoBool : (Tryz.prog.info? 4).map (fun i => (i.zero, i.size, i.bytes)) = some (some (.bool false), 1, 1) := by kernel_rfl
theorem zeroBool (w : World) : (zeroValue 4).run Tryz.prog w = .ok (.bool false) w := by
  obtain ⟨t, h2, h3, _⟩ := info_parts infoBool
  simp [zeroValue, typeInfo, h2, h3, Result.andThen]
theorem ikey {n : Int} (h : (Lit.int .i64 n).wf = true) : keyOf Tryz.prog 3 (.int .i64 n) = some (.int .i64 n) := Maps.keyOf_int_mk Tryz.underlying3 h
section
variable {w : World} {b : Nat} {S : List Int}
theorem MSet.keys {es : Array MapEntry} (hk : es.toList.map (·.key) = S.map (Value.int .i64)) (hw : ∀ n ∈ S, (Lit.int .i64 n).wf = true) : ∀ e ∈ es.toList, ∃ l, keyOf Tryz.prog 3 e.key = some l := fun e he => by
  have hm : e.key ∈ es.toList.map (·.key) := List.mem_map.2 ⟨e, he, rfl⟩
  rw [hk] at hm
  obtain ⟨n, hn, hx⟩ := List.mem_map.1 hm
  rw [← hx]
  exact ⟨_, ikey (hw n hn)⟩
theorem MSet.mem {es : Array MapEntry} (hk : es.toList.map (·.key) = S.map (Value.int .i64)) {n : Int} : n ∈ S ↔ ∃ e ∈ es.toList, e.key = .int .i64 n := by
  constructor
  · intro h
    have : Value.int .i64 n ∈ S.map (Value.int .i64) := List.mem_map.2 ⟨n, h, rfl⟩
    rw [← hk] at this
    obtain ⟨e, he, hx⟩ := List.mem_map.1 this
    exact ⟨e, he, hx⟩
  · rintro ⟨e, he, hx⟩
    have hm : e.key ∈ es.toList.map (·.key) := List.mem_map.2 ⟨e, he, rfl⟩
    rw [hk, hx] at hm
    obtain ⟨m, hm, e1⟩ := List.mem_map.1 hm
    cases e1
    exact hm
theorem MSet.lookup (h : MSet w b S) {n : Int} (hn : (Lit.int .i64 n).wf = true) : (Instr.lookup 39 (.map (some b)) (.int .i64 n) false).run Tryz.prog w = .ok (.bool (decide (n ∈ S))) w := by
  obtain ⟨es, clock, hb, hk, hv, _, _, hw⟩ := h
  have hz : (zeroValue 4).run Tryz.prog w = .ok (.bool false) w := zeroBool w
  rcases iKeyed.find w (ikey hn) es.toList (MSet.keys hk hw) with ⟨h1, h2⟩ | ⟨j, e0, h1, h2, h3⟩
  · have hne : decide (n ∈ S) = false := by
      rw [decide_eq_false_iff_not, MSet.mem hk]
      rintro ⟨e, he, hx⟩
      exact h2 e he hx
    rw [hne]
    simp [Instr.lookup, run_underlying Tryz.underlying39, MapKept.run_getObj_map hb, iKeyed.check w _ (ikey hn), h1, hz, Result.andThen]
  · have hm0 : e0 ∈ es.toList := List.mem_of_getElem? h2
    have hne : decide (n ∈ S) = true := by
      rw [decide_eq_true_eq, MSet.mem hk]
      exact ⟨e0, hm0, h3⟩
    rw [hne]
    simp [Instr.lookup, run_underlying Tryz.underlying39, MapKept.run_getObj_map hb, iKeyed.check w _ (ikey hn), h1, hv e0 hm0, Result.andThen]
theorem MSet.len (h : MSet w b S) (ty : TypeId) : (Builtin.len_ #[39] ty #[.map (some b)]).run Tryz.prog w = .ok (.int .i64 S.length) w := by
  obtain ⟨es, clock, hb, hk, _⟩ := h
  have hl : es.size = S.length := by
    have := congrArg List.length hk
    simpa using this
  simp [Builtin.len_, run_underlying Tryz.underlying39, MapKept.run_getObj_map hb, goInt, Result.andThen, hl]
theorem MSet.below {w' : World} (h : MSet w b S) (hk : w'.heap[b]? = w.heap[b]?) : MSet w' b S := by
  obtain ⟨es, clock, hb, r⟩ := h
  exact ⟨es, clock, by rw [hk]; exact hb, r⟩
/-- m[n] of the left side, then the store. -/
theorem MSet.entry (h : MSet w b S) {n : Int} (hn : (Lit.int .i64 n).wf = true) :
    ∃ (x : Bool) (st : Nat) (es1 : Array MapEntry) (clock1 : Nat), (Instr.mapEntry 39 (.map (some b)) (.int .i64 n)).run Tryz.prog w = .ok (.tuple #[.bool x, .int .i64 st]) (setBlock w b (.map es1 clock1)) ∧
      ∀ w2 : World, w2.heap[b]? = some (.map es1 clock1) → ∃ es' clock', (Instr.entryStore 39 (.map (some b)) (.int .i64 st) (.bool true)).run Tryz.prog w2 = .ok () (setBlock w2 b (.map es' clock')) ∧
        ∀ w3 : World, w3.heap[b]? = some (.map es' clock') → MSet w3 b (addS S n) := by
  obtain ⟨es, clock, hb, hk, hv, s2, s1, hw⟩ := h
  have hz : (zeroValue 4).run Tryz.prog w = .ok (.bool false) w := zeroBool w
  rcases iKeyed.find w (ikey hn) es.toList (MSet.keys hk hw) with ⟨h1, h2⟩ | ⟨j, e0, h1, h2, h3⟩
  · have hne : n ∉ S := by
      rw [MSet.mem hk]
      rintro ⟨e, he, hx⟩
      exact h2 e he hx
    refine ⟨false, clock, es.push ⟨.int .i64 n, .bool false, clock⟩, clock + 1, ?_, fun w2 hw2 => ⟨es.push ⟨.int .i64 n, .bool true, clock⟩, clock + 1, ?_, fun w3 hw3 => ⟨_, _, hw3, ?_, ?_, ?_, ?_, ?_⟩⟩⟩
    · simp [Instr.mapEntry, run_underlying Tryz.underlying39, MapKept.run_getObj_map hb, iKeyed.check w false (ikey hn), h1, hz, MapKept.run_setObj_map _ hb, Result.andThen, setBlock, goInt]
    · have hidx : (es.push ⟨.int .i64 n, .bool false, clock⟩).findIdx? (fun e => ((e.born : Nat) : Int) == ((clock : Nat) : Int)) = some es.size := by
        rw [WideElems.findIdx_arr]
        exact WideElems.findIdx_born (l := (es.push ⟨.int .i64 n, .bool false, clock⟩).toList) (j := es.size) (e0 := ⟨.int .i64 n, .bool false, clock⟩) (by
          simp only [Array.toList_push, List.map_append, List.map_cons, List.map_nil]
          refine List.nodup_append.2 ⟨s2, by simp, fun a ha c hc e1 => ?_⟩
          simp only [List.mem_singleton] at hc
          obtain ⟨x, hx, rfl⟩ := List.mem_map.1 ha
          have := s1 x hx
          omega) (by simp)
      have hmod : (es.push ⟨.int .i64 n, .bool false, clock⟩).modify es.size (fun e => { e with val := .bool true }) = es.push ⟨.int .i64 n, .bool true, clock⟩ := by
        apply Array.ext'
        rw [Array.toList_modify, Array.toList_push, Array.toList_push, ← Array.length_toList, WideElems.modify_last]
      simp [Instr.entryStore, MapKept.run_getObj_map hw2, asInt, asIntOf, hidx, hmod, MapKept.run_setObj_map _ hw2, Result.andThen, setBlock]
    · rw [addS, if_neg hne, Array.toList_push, List.map_append, List.map_append, hk]; rfl
    · intro e he
      rw [Array.toList_push] at he
      rcases List.mem_append.1 he with he | he
      · exact hv e he
      · simp at he; subst he; rfl
    · rw [Array.toList_push, List.map_append]
      refine List.nodup_append.2 ⟨s2, by simp, fun a ha c hc e1 => ?_⟩
      simp at hc
      obtain ⟨x, hx, rfl⟩ := List.mem_map.1 ha
      have := s1 x hx
      omega
    · intro e he
      rw [Array.toList_push] at he
      rcases List.mem_append.1 he with he | he
      · have := s1 e he; omega
      · simp at he; subst he; simp
    · intro m hm
      rw [addS, if_neg hne] at hm
      rcases List.mem_append.1 hm with hm | hm
      · exact hw m hm
      · simp at hm; subst hm; exact hn
  · have hj : es[j]? = some e0 := by simpa using h2
    have hm0 : e0 ∈ es.toList := List.mem_of_getElem? h2
    have hin : n ∈ S := (MSet.mem hk).2 ⟨e0, hm0, h3⟩
    have hsame : es.modify j (fun e => { e with key := .int .i64 n }) = es := by
      apply Array.ext'
      rw [Array.toList_modify, modify_eq_set _ _ _ _ h2]
      have : ({ e0 with key := .int .i64 n } : MapEntry) = e0 := by rw [← h3]
      rw [this]
      exact WideElems.set_self _ _ _ h2
    refine ⟨true, e0.born, es, clock, ?_, fun w2 hw2 => ⟨es, clock, ?_, fun w3 hw3 => ⟨es, clock, hw3, by rw [addS, if_pos hin]; exact hk, hv, s2, s1, by rw [addS, if_pos hin]; exact hw⟩⟩⟩
    · simp [Instr.mapEntry, run_underlying Tryz.underlying39, MapKept.run_getObj_map hb, iKeyed.check w false (ikey hn), h1, hj, h3, hv e0 hm0, iKeyed.stays w (ikey hn), hsame, MapKept.run_setObj_map _ hb, Result.andThen, setBlock, goInt]
    · have hidx : es.findIdx? (fun e => ((e.born : Nat) : Int) == ((e0.born : Nat) : Int)) = some j := by
        rw [WideElems.findIdx_arr]
        exact WideElems.findIdx_born s2 h2
      have hmod : es.modify j (fun e => { e with val := .bool true }) = es := by
        apply Array.ext'
        rw [Array.toList_modify, modify_eq_set _ _ _ _ h2]
        have : ({ e0 with val := .bool true } : MapEntry) = e0 := by
          have := hv e0 hm0
          cases e0
          simp at this
          simp [this]
        rw [this]
        exact WideElems.set_self _ _ _ h2
      simp [Instr.entryStore, MapKept.run_getObj_map hw2, asInt, asIntOf, hidx, hmod, MapKept.run_setObj_map _ hw2, Result.andThen, setBlock]
end
end Go.Proofs.YtigbhdgcjklhoaaGreat

/- The reference's store in memory: its own blocks, what it only reads; its calls. -/
namespace Go.Proofs.YtigbhdgcjklhoaaGreat
set_option maxRecDepth 100000
open Go.RowKit
set_option linter.unusedVariables false

/-- The reference's state. -/
structure RSt where
  is : List (List Int)
  call : List (List Int)
  put : List Int
  sts : List (List (List Int))
  wi : Bool
/-- Its own blocks. -/
def ROwn (b m : Nat) (vC vS : Value) (wi : Bool) (k : Nat) : Prop := k = b ∨ vS.ownBlock = some k ∨ (wi = true ∧ (vC.ownBlock = some k ∨ k = m))
/-- In the world w; P: blocks that others may turn; M: its own. -/
structure RAt (w : World) (P M : Nat → Prop) (b m : Nat) (vI vC vP vS : Value) (s : RSt) : Prop where
  hb : w.heap[b]? = some (.cells #[vI, vC, vP, vS, .bool s.wi] 42 (0, 0))
  hI : BBa w (fun k => P k ∨ M k) vI s.is
  hS : ∃ us : List Value, us.length = s.sts.length ∧ (∀ j, j < s.sts.length → BBa w (fun k => P k ∨ M k) (us.getD j undef) (s.sts.getD j [])) ∧ w.ownsRow 0 34 1 vS s.sts.length us
  hC : s.wi = true → vP = .map (some m) ∧ MSet w m s.put ∧ s.call.length = s.is.length ∧ ∃ vs : List Value, vs.length = s.call.length ∧ (∀ j, j < s.call.length → BSl w (vs.getD j undef) (s.call.getD j []) ∧ Apt (fun k => P k ∨ M k) (vs.getD j undef)) ∧ w.ownsRow 0 59 1 vC s.call.length vs
  neS : vS.ownBlock ≠ some b
  neC : s.wi = true → vC.ownBlock ≠ some b ∧ ∀ k, vC.ownBlock = some k → vS.ownBlock ≠ some k
  apart : ∀ k, M k → ¬ P k
  own : ∀ k, M k ↔ ROwn b m vC vS s.wi k
  len : 0 < s.is.length ∧ s.is.length ≤ 2000 ∧ 0 < s.sts.length
/-- A store in memory, its field States being vS. -/
def RSo (w : World) (P M : Nat → Prop) (p vS : Value) (s : RSt) : Prop :=
  ∃ b m vI vC vP, p = .pointer (some ⟨b, 0, none⟩) ∧ RAt w P M b m vI vC vP vS s
def RS (w : World) (P M : Nat → Prop) (p : Value) (s : RSt) : Prop := ∃ vS, RSo w P M p vS s
/-- A [][][]byte that reads as LL, apart from P's and M's blocks but for its own row. -/
def ROld (w : World) (P M : Nat → Prop) (v : Value) (LL : List (List (List Int))) : Prop :=
  ∃ us : List Value, us.length = LL.length ∧ (∀ j, j < LL.length → BBa w (fun k => P k ∨ M k) (us.getD j undef) (LL.getD j [])) ∧ w.ownsRow 0 34 1 v LL.length us

theorem Apt.or {P Q : Nat → Prop} {v : Value} (h : Apt P v) (k : Apt Q v) : Apt (fun x => P x ∨ Q x) v := fun ad n cap e hn hh => hh.elim (h ad n cap e hn) (k ad n cap e hn)
theorem Apt.sub {P Q : Nat → Prop} {v : Value} (h : Apt P v) (k : ∀ x, Q x → P x) : Apt Q v := fun ad n cap e hn hh => h ad n cap e hn (k _ hh)
theorem BBa.sub {w : World} {P Q : Nat → Prop} {v : Value} {L : List (List Int)} (h : BBa w P v L) (k : ∀ x, Q x → P x) : BBa w Q v L := by
  rcases h with h | ⟨a, cap, hv, hcap, hc⟩
  · exact .inl h
  · refine .inr ⟨a, cap, hv, hcap, fun j hj => ?_⟩
    obtain ⟨⟨h1, h1'⟩, h2, u, h3, h4, h5⟩ := hc j hj
    exact ⟨⟨h1, fun hq => h1' (k _ hq)⟩, h2, u, h3, h4, h5.sub k⟩
/-- Another's change, seen by who owns M. -/
theorem Chg.orR {P P' M : Nat → Prop} {w w' : World} (h : Chg P P' w w') : Chg (fun k => P k ∨ M k) (fun k => P' k ∨ M k) w w' :=
  ⟨h.os, h.tape, h.output, h.size, fun k hk hn => by
    obtain ⟨h1, h2⟩ := h.keep k hk fun e => hn (.inl e)
    exact ⟨h1, fun e => e.elim h2 fun e => hn (.inr e)⟩⟩
/-- One's own change, where others own P. -/
theorem Chg.orL {P M M' : Nat → Prop} {w w' : World} (h : Chg M M' w w') : Chg (fun k => P k ∨ M k) (fun k => P k ∨ M' k) w w' :=
  ⟨h.os, h.tape, h.output, h.size, fun k hk hn => by
    obtain ⟨h1, h2⟩ := h.keep k hk fun e => hn (.inr e)
    exact ⟨h1, fun e => e.elim (fun e => hn (.inl e)) h2⟩⟩
theorem ownsRow_keep {w w' : World} {B n size : Nat} {T : TypeId} {v : Value} {us : List Value} (h : w.ownsRow B T size v n us) (hk : ∀ g, v.ownBlock = some g → w'.heap[g]? = w.heap[g]?) : w'.ownsRow B T size v n us := by
  refine ⟨h.1, h.2.imp id ?_⟩
  rintro ⟨g, cap, cur, rfl, hB, hh, r⟩
  exact ⟨g, cap, cur, rfl, hB, by rw [hk g rfl]; exact hh, r⟩
section
variable {w : World} {P M : Nat → Prop} {b m : Nat} {vI vC vP vS : Value} {s : RSt}
theorem RAt.mb (h : RAt w P M b m vI vC vP vS s) : M b := (h.own b).2 (.inl rfl)
theorem RAt.bl (h : RAt w P M b m vI vC vP vS s) : b < w.heap.size := (Array.getElem?_eq_some_iff.1 h.hb).1
theorem RAt.mS (h : RAt w P M b m vI vC vP vS s) {k : Nat} (hk : vS.ownBlock = some k) : M k := (h.own k).2 (.inr (.inl hk))
theorem RAt.lt (h : RAt w P M b m vI vC vP vS s) {k : Nat} (hk : M k) : k < w.heap.size := by
  rcases (h.own k).1 hk with rfl | hk | ⟨hw, hk | rfl⟩
  · exact h.bl
  · obtain ⟨us, _, _, ho⟩ := h.hS
    exact (ho.lt k hk).2
  · obtain ⟨_, _, _, vs, _, _, ho⟩ := h.hC hw
    exact (ho.lt k hk).2
  · obtain ⟨_, ⟨es, cl, hh, _⟩, _⟩ := h.hC hw
    exact (Array.getElem?_eq_some_iff.1 hh).1
/-- Another's change. -/
theorem RAt.chg (h : RAt w P M b m vI vC vP vS s) {P' : Nat → Prop} {w' : World} (hc : Chg P P' w w') : RAt w' P' M b m vI vC vP vS s := by
  have key : ∀ k, M k → w'.heap[k]? = w.heap[k]? ∧ ¬ P' k := fun k hk => hc.keep k (h.lt hk) (h.apart k hk)
  refine ⟨by rw [(key b h.mb).1]; exact h.hb, h.hI.chg hc.orR, ?_, fun hw => ?_, h.neS, h.neC, fun k hk => (key k hk).2, h.own, h.len⟩
  · obtain ⟨us, hl, he, ho⟩ := h.hS
    exact ⟨us, hl, fun j hj => (he j hj).chg hc.orR, ownsRow_keep ho fun g hg => (key g (h.mS hg)).1⟩
  · obtain ⟨hp, hm, hcl, vs, hl, he, ho⟩ := h.hC hw
    refine ⟨hp, hm.below (key m ((h.own m).2 (.inr (.inr ⟨hw, .inr rfl⟩)))).1, hcl, vs, hl, fun j hj => ?_, ownsRow_keep ho fun g hg => (key g ((h.own g).2 (.inr (.inr ⟨hw, .inl hg⟩)))).1⟩
    exact (he j hj).1.chg (he j hj).2 hc.orR
theorem RAt.ci (h : RAt w P M b m vI vC vP vS s) (i : Nat) : w.cell? ⟨b, i, none⟩ = (#[vI, vC, vP, vS, .bool s.wi] : Array Value)[i]? := cell_of_row _ _ _ _ _ _ h.hb
theorem RAt.fr (h : RAt w P M b m vI vC vP vS s) (i : Nat) : w.frozen? ⟨b, i, none⟩ = false := by simp [World.frozen?, h.hb]
theorem RAt.c0 (h : RAt w P M b m vI vC vP vS s) : w.cell? ⟨b, 0, none⟩ = some vI := h.ci 0
theorem RAt.c1 (h : RAt w P M b m vI vC vP vS s) : w.cell? ⟨b, 1, none⟩ = some vC := h.ci 1
theorem RAt.c2 (h : RAt w P M b m vI vC vP vS s) : w.cell? ⟨b, 2, none⟩ = some vP := h.ci 2
theorem RAt.c3 (h : RAt w P M b m vI vC vP vS s) : w.cell? ⟨b, 3, none⟩ = some vS := h.ci 3
theorem RAt.c4 (h : RAt w P M b m vI vC vP vS s) : w.cell? ⟨b, 4, none⟩ = some (.bool s.wi) := h.ci 4
/-- The row of the present call, as a [][]byte. -/
theorem RAt.call (h : RAt w P M b m vI vC vP vS s) (hw : s.wi = true) : ∃ g cap, vC = .slice (some ⟨g, 0, none⟩) s.call.length cap ∧ s.call.length ≤ cap ∧ M g ∧ g ≠ b ∧ ∀ j, j < s.call.length → ∃ u, w.cell? ⟨g, j, none⟩ = some u ∧ BSl w u (s.call.getD j []) ∧ Apt (fun k => P k ∨ M k) u := by
  obtain ⟨_, _, hcl, vs, hl, he, ho⟩ := h.hC hw
  rcases ho.2 with ⟨_, h0⟩ | ⟨g, cap, cur, rfl, _, hh, hnc, _, hcs, ht⟩
  · have := h.len.1; omega
  · refine ⟨g, cap, rfl, hnc, (h.own g).2 (.inr (.inr ⟨hw, .inl rfl⟩)), fun e => (h.neC hw).1 (by rw [← e]; rfl), fun j hj => ⟨vs.getD j undef, ?_, he j hj⟩⟩
    rw [cell_of_row _ _ _ _ _ _ hh]
    have : (cur.toList.take (s.call.length * 1))[j]? = vs[j]? := by rw [ht]
    rw [List.getElem?_take, if_pos (by omega)] at this
    simpa [List.getD_eq_getElem?_getD, show j < vs.length by omega] using this
end
theorem RSo.chg {w : World} {P P' M : Nat → Prop} {p vS : Value} {s : RSt} (h : RSo w P M p vS s) {w' : World} (hc : Chg P P' w w') : RSo w' P' M p vS s := by
  obtain ⟨b, m, vI, vC, vP, hp, h⟩ := h
  exact ⟨b, m, vI, vC, vP, hp, h.chg hc⟩
theorem RSo.below {w : World} {P M : Nat → Prop} {p vS : Value} {s : RSt} (h : RSo w P M p vS s) {w' : World} (hb : Below w.heap.size w w') : RSo w' P M p vS s := h.chg (Chg.of_below hb)
theorem RSo.lt {w : World} {P M : Nat → Prop} {p vS : Value} {s : RSt} (h : RSo w P M p vS s) {k : Nat} (hk : M k) : k < w.heap.size := by
  obtain ⟨b, m, vI, vC, vP, hp, h⟩ := h
  exact h.lt hk
theorem RSo.old {w : World} {P M : Nat → Prop} {p vS : Value} {s : RSt} (h : RSo w P M p vS s) : ROld w P M vS s.sts := by
  obtain ⟨b, m, vI, vC, vP, hp, h⟩ := h
  exact h.hS

/-- Get of a number that is not that of a block. -/
theorem rsGet_out {w : World} {P M : Nat → Prop} {p vS : Value} {s : RSt} (h : RSo w P M p vS s) {n : Int} (hn : n < 0 ∨ (s.is.length : Int) ≤ n) (hb : -9223372036854775808 ≤ n ∧ n ≤ 9223372036854775807) :
    Calls Tryz.prog 27 #[p, .int .i64 n] w fun e w' => e = .returned (.tuple #[.slice none 0 0, .int .i64 1]) ∧ w = w' := by
  obtain ⟨b, m, vI, vC, vP, rfl, h⟩ := h
  have c0 := h.c0
  obtain ⟨ao, cap, rfl, _⟩ := h.hI.sl.shape
  have hl := h.len
  obtain ⟨L, hL⟩ : ∃ L, L = s.is.length := ⟨_, rfl⟩
  rw [← hL] at hn c0 hl
  clear hL h
  by_cases h0 : n < 0
  · go_enter Tryz.func27, Tryz.ntmps27
    go_wp2
    go_ret2
    exact ⟨rfl, rfl⟩
  · have hn' : (L : Int) ≤ n := by omega
    go_enter Tryz.func27, Tryz.ntmps27
    go_wp2
    go_ret2
    exact ⟨rfl, rfl⟩
/-- Get of a block. -/
theorem rsGet_in {w : World} {P M : Nat → Prop} {p vS : Value} {s : RSt} (h : RSo w P M p vS s) {n : Nat} (hn : n < s.is.length) :
    Calls Tryz.prog 27 #[p, .int .i64 n] w fun e w' => ∃ v, e = .returned (.tuple #[v, .int .i64 0]) ∧ w = w' ∧ BSl w v ((if s.wi = true then s.call else s.is).getD n []) ∧ Apt (fun k => P k ∨ M k) v := by
  obtain ⟨b, m, vI, vC, vP, rfl, h⟩ := h
  have c0 := h.c0
  have c1 := h.c1
  have c4 := h.c4
  have hl := h.len
  rcases h.hI with ⟨_, h0⟩ | ⟨a, cap, rfl, hcap, hc⟩
  · rw [h0] at hn; exact absurd hn (Nat.not_lt_zero _)
  · obtain ⟨h1, h2, u, h3, h4, h5⟩ := hc n hn
    obtain ⟨bI, oI, sp⟩ := a
    obtain rfl : sp = none := h2
    have hcall := h.call
    have hcl := fun hw => (h.hC hw).2.2.1
    obtain ⟨L, hL⟩ : ∃ L, L = s.is.length := ⟨_, rfl⟩
    rw [← hL] at hn c0 hl
    have hLL := Lib.hid hL
    clear hL h hc hcap h1
    cases hw : s.wi
    · rw [hw] at c4
      have H := Lib.hid (And.intro h4 h5)
      clear h4 h5 hcall hcl hw
      go_enter Tryz.func27, Tryz.ntmps27
      go_wp2
      go_ret2
      exact ⟨_, rfl, rfl, H.out⟩
    · rw [hw] at c4
      obtain ⟨g, cC, rfl, hcC, _, _, hx⟩ := hcall hw
      have hcn := hcl hw
      rw [← hLL.out] at hcn
      obtain ⟨u', k1, k2⟩ := hx n (by omega)
      rw [hcn] at c1 hcC
      have H := Lib.hid k2
      clear h4 h5 hcall hcl hw hx k2 hcn h3
      go_enter Tryz.func27, Tryz.ntmps27
      go_wp2
      go_ret2
      exact ⟨_, rfl, rfl, H.out⟩
end Go.Proofs.YtigbhdgcjklhoaaGreat

/- The reference's store: Begin. -/
namespace Go.Proofs.YtigbhdgcjklhoaaGreat
set_option maxRecDepth 100000
open Go.RowKit
set_option linter.unusedVariables false

/-- append of whatever one-cell values to an empty slice that was made just before. -/
theorem run_append_copy (S T : TypeId) (hS : Tryz.prog.underlying S = some (.slice T)) (hT : (Tryz.prog.info? T).map (fun i => (i.zero, i.size, i.bytes)) = some (some (.slice none 0 0), 1, 24)) (w : World) (ty : TypeId)
    (ad : Addr) (n cap : Nat) (us : List Value) (hl : us.length = n) (hc : ∀ j u, us[j]? = some u → w.cell? (ad.add j) = some u ∧ (ad.add j).block < w.heap.size) (h1 : ∀ u ∈ us, u.oneCell' = true) (hn : n ≤ 1000000) :
    ∃ v' w', (Builtin.append_ #[S, S] ty #[.slice (some ⟨w.heap.size, 0, none⟩) 0 0, .slice (some ad) n cap]).run Tryz.prog (w.alloc (.cells #[] T)) = .ok v' w' ∧ w'.ownsRow w.heap.size T 1 v' n us ∧ Below w.heap.size w w' ∧ w.heap.size < w'.heap.size := by
  obtain ⟨t, h2, h3, h4, h5⟩ := info_parts hT
  have how : (w.alloc (.cells #[] T)).ownsRow w.heap.size T 1 (.slice (some ⟨w.heap.size, 0, none⟩) 0 0) 0 [] := World.ownsRow_made w #[] 0 (Nat.le_refl _) (Nat.zero_le _) rfl
  have hbel : Below w.heap.size w (w.alloc (.cells #[] T)) := below_box _ _
  have hsz : (w.alloc (.cells #[] T)).heap.size = w.heap.size + 1 := by simp
  obtain ⟨v', w', hrun, h6, h7, _, h8⟩ := run_append_own_at (P := Tryz.prog) (w.alloc (.cells #[] T)) w.heap.size S ty T t _ 1 24 hS h2 h3 h4 h5 rfl (by decide) _ 0 [] how ad n cap us (by omega) (fun j u hj => by
    have hk := hc j u hj
    rw [World.cell?_of_block (w := w) (hbel.block _ (by exact hk.2)), hk.1]) h1 (by simp only [maxLen]; omega) (by omega) (by omega)
  rw [Nat.zero_add, List.nil_append] at h6
  refine ⟨v', w', hrun, h6, hbel.grown h7 (by omega) fun k hk => ?_, by have := h7.size; omega⟩
  simp [Value.ownBlock] at hk
  omega
theorem wpList_append_copy (S T : TypeId) (hS : Tryz.prog.underlying S = some (.slice T)) (hT : (Tryz.prog.info? T).map (fun i => (i.zero, i.size, i.bytes)) = some (some (.slice none 0 0), 1, 24)) (w : World) {ops : Array Oper} {rest : List Oper} {o : Oper} {a : Act} {Q : Exit → Act → World → Prop} (hgd : o.guard = none) (s y : Operand)
    (ho : o.op = .call { callee := .builtin .append, args := #[s, y], argTypes := #[S, S] }) (hs : a.eval s = .slice (some ⟨w.heap.size, 0, none⟩) 0 0)
    (ad : Addr) (n cap : Nat) (us : List Value) (hy : a.eval y = .slice (some ad) n cap) (hl : us.length = n) (hc : ∀ j u, us[j]? = some u → w.cell? (ad.add j) = some u ∧ (ad.add j).block < w.heap.size) (h1 : ∀ u ∈ us, u.oneCell' = true) (hn : n ≤ 1000000)
    (h : ∀ v' w', w'.ownsRow w.heap.size T 1 v' n us → Below w.heap.size w w' → w.heap.size < w'.heap.size → wpList Tryz.prog ops Q rest (a.put o.dst v') w') : wpList Tryz.prog ops Q (o :: rest) a (w.alloc (.cells #[] T)) := by
  obtain ⟨v', w', hr, h2, h3, h4⟩ := run_append_copy S T hS hT w o.type ad n cap us hl hc h1 hn
  refine wpList_plain hgd fun K hK => ?_
  unfold Oper.wp execOp
  simp only [ho, resolve, invoke, builtin, Sem.run_bind, Sem.run_pure, Result.andThen_ok, List.map_toArray, List.map_cons, List.map_nil, hs, hy, hr]
  exact hK _ _ (h v' w' h2 h3 h4)
theorem box_cell {w : World} {b i : Nat} {cs : Array Value} {T : TypeId} {u : Value} (h : w.heap[b]? = some (.cells cs T (0, 0))) (hi : cs[i]? = some u) : w.cell? ⟨b, i, none⟩ = some u ∧ w.frozen? ⟨b, i, none⟩ = false :=
  ⟨by rw [cell_of_row _ _ _ _ _ _ h]; exact hi, by simp [World.frozen?, h]⟩
theorem ownsRow_shape {w : World} {B n size : Nat} {T : TypeId} {v : Value} {us : List Value} (h : w.ownsRow B T size v n us) : ∃ ao cap, v = .slice ao n cap := by
  rcases h.2 with ⟨hv, h0⟩ | ⟨g, cap, cur, hv, _⟩
  · exact ⟨none, 0, by rw [hv, h0]⟩
  · exact ⟨_, cap, hv⟩
/-- The cells of a [][]byte. -/
theorem BBa.cells {w : World} {P : Nat → Prop} {v : Value} {L : List (List Int)} (h : BBa w P v L) (h0 : 0 < L.length) :
    ∃ (ad : Addr) (cap : Nat) (us : List Value), v = .slice (some ad) L.length cap ∧ us.length = L.length ∧ (∀ j u, us[j]? = some u → w.cell? (ad.add j) = some u ∧ (ad.add j).block < w.heap.size) ∧ ∀ j, j < L.length → BSl w (us.getD j undef) (L.getD j []) ∧ Apt P (us.getD j undef) := by
  rcases h with ⟨_, rfl⟩ | ⟨⟨b, off, spot⟩, cap, rfl, hcap, hc⟩
  · exact absurd h0 (Nat.not_lt_zero _)
  · have hex : ∀ j, j < L.length → ∃ x, w.cell? ⟨b, off + j, none⟩ = some x ∧ BSl w x (L.getD j []) ∧ Apt P x := fun j hj => (hc j hj).2.2
    obtain ⟨f, hf⟩ : ∃ f : Nat → Value, ∀ j, j < L.length → w.cell? ⟨b, off + j, none⟩ = some (f j) ∧ BSl w (f j) (L.getD j []) ∧ Apt P (f j) := by
      refine ⟨fun j => if hj : j < L.length then (hex j hj).choose else undef, fun j hj => ?_⟩
      simp only [hj, dif_pos]
      exact (hex j hj).choose_spec
    have hsp : spot = none := (hc 0 h0).2.1
    subst hsp
    refine ⟨_, cap, (List.range L.length).map f, rfl, by simp, fun j u hj => ?_, fun j hj => ?_⟩
    · have hjl : j < L.length := by simpa using (List.getElem?_eq_some_iff.1 hj).1
      rw [Addr.add_lit, (hf j hjl).1, ← hj]
      exact ⟨by simp [hjl], (hc 0 h0).1.1⟩
    · rw [List.getD_eq_getElem?_getD, List.getElem?_map, List.getElem?_range hj]
      exact (hf j hj).2
theorem infoBB : (Tryz.prog.info? 34).map (fun i => (i.zero, i.size, i.bytes)) = some (some (.slice none 0 0), 1, 24) := by kernel_rfl
section
variable {w : World} {P M : Nat → Prop} {p vS : Value} {s : RSt}
theorem rsBegin_busy (h : RSo w P M p vS s) (hw : s.wi = true) : Calls Tryz.prog 18 #[p] w fun e w' => e = .returned (.int .i64 17) ∧ w = w' := by
  obtain ⟨b, m, vI, vC, vP, rfl, h⟩ := h
  have c4 := h.c4
  rw [hw] at c4
  clear h
  go_enter Tryz.func18, Tryz.ntmps18
  go_wp2
  go_ret
  exact ⟨rfl, rfl⟩
/-- What Begin leaves. -/
theorem RAt.begun {b m : Nat} {vI vC vP : Value} (h : RAt w P M b m vI vC vP vS s) (hw : s.wi = false) (hP : ∀ k, P k → k < w.heap.size) {us : List Value} (hul : us.length = s.is.length) (hue : ∀ j, j < s.is.length → BSl w (us.getD j undef) (s.is.getD j []) ∧ Apt (fun k => P k ∨ M k) (us.getD j undef))
    {w2 : World} {v' : Value} (ho : w2.ownsRow w.heap.size 59 1 v' s.is.length us) (hb2 : Below w.heap.size w w2) (hsz : w.heap.size < w2.heap.size) :
    let w' := (((w2.alloc (.map #[] 0)).setCell ⟨b, 4, none⟩ (.bool true)).setCell ⟨b, 1, none⟩ v').setCell ⟨b, 2, none⟩ (.map (some w2.heap.size))
    RAt w' P (ROwn b w2.heap.size v' vS true) b w2.heap.size vI v' (.map (some w2.heap.size)) vS { s with call := s.is, put := [], wi := true } ∧ Chg M (ROwn b w2.heap.size v' vS true) w w' := by
  intro w'
  have hbl := h.bl
  have oth : ∀ k, k ≠ b → w'.heap[k]? = (w2.alloc (.map #[] 0)).heap[k]? := fun k hk => by
    show ((((w2.alloc (.map #[] 0)).setCell ⟨b, 4, none⟩ (.bool true)).setCell ⟨b, 1, none⟩ v').setCell ⟨b, 2, none⟩ _).heap[k]? = _
    rw [heap_setCell_other _ _ _ _ hk, heap_setCell_other _ _ _ _ hk, heap_setCell_other _ _ _ _ hk]
  have old : ∀ k, k ≠ b → k < w.heap.size → w'.heap[k]? = w.heap[k]? := fun k hk hl => by
    rw [oth k hk, heap_alloc_old _ _ (by omega), hb2.block k hl]
  have hb' : (w2.alloc (.map #[] 0)).heap[b]? = some (.cells #[vI, vC, vP, vS, .bool s.wi] 42 (0, 0)) := by
    rw [heap_alloc_old _ _ (by omega), hb2.block b hbl]; exact h.hb
  have hvl : ∀ k, v'.ownBlock = some k → w.heap.size ≤ k ∧ k < w2.heap.size := fun k hk => ho.lt k hk
  have hM : ∀ k, M k ↔ k = b ∨ vS.ownBlock = some k := fun k => by
    rw [h.own k, ROwn, hw]
    simp
  have hSl : ∀ k, vS.ownBlock = some k → k < w.heap.size := fun k hk => h.lt (h.mS hk)
  have hsz' : w'.heap.size = w2.heap.size + 1 := by
    show ((((w2.alloc (.map #[] 0)).setCell ⟨b, 4, none⟩ (.bool true)).setCell ⟨b, 1, none⟩ v').setCell ⟨b, 2, none⟩ _).heap.size = _
    simp [World.setCell]
  have hchg : Chg M (ROwn b w2.heap.size v' vS true) w w' := by
    refine ⟨hb2.os, hb2.tape, hb2.output, by omega, fun k hk hn => ⟨old k (fun e => hn ((hM k).2 (.inl e))) hk, ?_⟩⟩
    rintro (e | e | ⟨_, e | e⟩)
    · exact hn ((hM k).2 (.inl e))
    · exact hn ((hM k).2 (.inr e))
    · have := hvl k e; omega
    · omega
  refine ⟨⟨?_, h.hI.chg hchg.orL, ?_, fun _ => ⟨rfl, ?_, rfl, us, hul, fun j hj => ?_, ?_⟩, h.neS, fun _ => ⟨fun e => by have := hvl b e; omega, fun k e1 e2 => by have := hvl k e1; have := hSl k e2; omega⟩, ?_, fun k => Iff.rfl, h.len⟩, hchg⟩
  · have e1 := heap_setCell_same _ b 4 _ _ (.bool true) hb'
    have e2 := heap_setCell_same _ b 1 _ _ v' e1
    have e3 := heap_setCell_same _ b 2 _ _ (.map (some w2.heap.size)) e2
    exact e3
  · obtain ⟨xs, hl, he, hr⟩ := h.hS
    exact ⟨xs, hl, fun j hj => (he j hj).chg hchg.orL, ownsRow_keep hr fun g hg => old g (fun e => h.neS (by rw [← e]; exact hg)) (hSl g hg)⟩
  · refine ⟨#[], 0, ?_, rfl, by simp, by simp, by simp, by simp⟩
    rw [oth _ (by omega)]
    exact heap_alloc_new w2 _
  · exact (hue j hj).1.chg (hue j hj).2 hchg.orL
  · have := ownsRow_keep (w' := w') ho fun g hg => by
      have := hvl g hg
      rw [oth g (by omega), heap_alloc_old _ _ (by omega)]
    exact ⟨this.1, this.2.imp id fun ⟨g, cap, cur, hv, _, r⟩ => ⟨g, cap, cur, hv, Nat.zero_le _, r⟩⟩
  · intro k hk hp
    have := hP k hp
    rcases hk with e | e | ⟨_, e | e⟩
    · exact h.apart k ((hM k).2 (.inl e)) hp
    · exact h.apart k ((hM k).2 (.inr e)) hp
    · have := hvl k e; omega
    · omega
set_option maxHeartbeats 1000000 in
theorem rsBegin_ok (h : RSo w P M p vS s) (hw : s.wi = false) (hP : ∀ k, P k → k < w.heap.size) :
    Calls Tryz.prog 18 #[p] w fun e w' => e = .returned (.int .i64 0) ∧ ∃ M', RSo w' P M' p vS { s with call := s.is, put := [], wi := true } ∧ Chg M M' w w' := by
  obtain ⟨b, m, vI, vC, vP, rfl, h⟩ := h
  have c0 := h.c0
  have c4 := h.c4
  rw [hw] at c4
  have f1 := h.fr 1
  have f2 := h.fr 2
  have f4 := h.fr 4
  have c1 := h.c1
  have c2 := h.c2
  have hbl := h.bl
  have hbb := h.hb
  rw [hw] at hbb
  have hlen := h.len
  obtain ⟨ad, cap, us, rfl, hul, huc, hue⟩ := h.hI.cells hlen.1
  have huo : ∀ u ∈ us, u.oneCell' = true := fun u hu => by
    obtain ⟨j, hj, rfl⟩ := List.mem_iff_getElem.1 hu
    have := (hue j (by omega)).1.one
    rw [List.getD_eq_getElem?_getD, List.getElem?_eq_getElem hj] at this
    exact this
  have key := fun (w2 : World) (v' : Value) => h.begun hw hP hul hue (w2 := w2) (v' := v')
  have K := Lib.hid key
  have hn : s.is.length ≤ 1000000 := by omega
  obtain ⟨L, hL⟩ : ∃ L, L = s.is.length := ⟨_, rfl⟩
  rw [← hL] at hul c0 hn hbb
  have HBB := Lib.hid hbb
  clear hbb
  have HL := Lib.hid hL
  have hmm := @run_makeMap Tryz.prog
  clear h hue key hL hlen
  go_enter Tryz.func18, Tryz.ntmps18
  go_wp2_with (first
    | (at_builtin; refine wpList_append_copy 34 59 Tryz.underlying34 infoBy w rfl (.tmp 10) (.tmp 14) rfl rfl ad L cap us rfl hul huc huo hn ?_
       intro v' w2 ho2 hb2 hs2
       obtain ⟨ao2, cap2, rfl⟩ := ownsRow_shape ho2
       have HO2 := Lib.hid ho2
       have e3 : (w2.alloc (.map #[] 0)).heap[b]? = some (.cells #[.slice (some ad) L cap, vC, vP, vS, .bool false] 42 (0, 0)) := by rw [heap_alloc_old _ _ (by omega), hb2.block b hbl]; exact HBB.out
       have e4 := heap_setCell_same _ b 4 _ _ (.bool true) e3
       have e5 := heap_setCell_same _ b 1 _ _ (.slice ao2 L cap2) e4
       obtain ⟨k3, g3⟩ := box_cell (i := 4) e3 rfl
       obtain ⟨k4, g4⟩ := box_cell (i := 1) e4 rfl
       obtain ⟨k5, g5⟩ := box_cell (i := 2) e5 rfl
       clear e3 e4 e5
       have HB2 := Lib.hid hb2
       clear ho2 hb2))
  go_ret
  have hk := K.out
  rw [← HL.out] at hk
  obtain ⟨x1, x2⟩ := hk w2 _ HO2.out HB2.out hs2
  exact ⟨rfl, _, ⟨b, _, _, _, _, rfl, x1⟩, x2⟩
end
end Go.Proofs.YtigbhdgcjklhoaaGreat

/- The reference's store: Sync and End. -/
namespace Go.Proofs.YtigbhdgcjklhoaaGreat
set_option maxRecDepth 100000
open Go.RowKit
set_option linter.unusedVariables false

section
variable {w : World} {P M : Nat → Prop} {p vS : Value} {s : RSt}
theorem RAt.chgOwn {b m : Nat} {vI vC vP : Value} (h : RAt w P M b m vI vC vP vS s) {w' : World} (hos : w'.os = w.os) (htape : w'.tape = w.tape) (hout : w'.output = w.output) (hsz : w.heap.size ≤ w'.heap.size) (hk : ∀ k, k < w.heap.size → ¬ M k → w'.heap[k]? = w.heap[k]?)
    {M' : Nat → Prop} (hn : ∀ k, M' k → M k ∨ w.heap.size ≤ k) : Chg M M' w w' :=
  ⟨hos, htape, hout, hsz, fun k hl hm => ⟨hk k hl hm, fun e => (hn k e).elim hm fun e => by omega⟩⟩
theorem BBa.len1 {w : World} {P : Nat → Prop} {v : Value} {L : List (List Int)} (h : BBa w P v L) : v.oneCell' = true := by
  rcases h with ⟨rfl, _⟩ | ⟨a, cap, rfl, _⟩ <;> rfl
theorem rsSync_busy (h : RSo w P M p vS s) (hw : s.wi = true) : Calls Tryz.prog 25 #[p] w fun e w' => e = .returned (.int .i64 17) ∧ w = w' := by
  obtain ⟨b, m, vI, vC, vP, rfl, h⟩ := h
  have c4 := h.c4
  rw [hw] at c4
  clear h
  go_enter Tryz.func25, Tryz.ntmps25
  go_wp2
  go_ret
  exact ⟨rfl, rfl⟩
theorem rsEnd_busy (h : RSo w P M p vS s) (hw : s.wi = false) (keep : Bool) : Calls Tryz.prog 23 #[p, .bool keep] w fun e w' => e = .returned (.int .i64 17) ∧ w = w' := by
  obtain ⟨b, m, vI, vC, vP, rfl, h⟩ := h
  have c4 := h.c4
  rw [hw] at c4
  clear h
  go_enter Tryz.func23, Tryz.ntmps23
  go_wp2
  go_ret
  exact ⟨rfl, rfl⟩
/-- What Sync leaves. -/
theorem RAt.synced {b m : Nat} {vI vC vP : Value} (h : RAt w P M b m vI vC vP vS s) (hw : s.wi = false) (hP : ∀ k, P k → k < w.heap.size) :
    let w' := (w.setCell ⟨b, 3, none⟩ (.slice (some ⟨w.heap.size, 0, none⟩) 1 1)).alloc (.cells #[vI] 34)
    let vS' : Value := .slice (some ⟨w.heap.size, 0, none⟩) 1 1
    RAt w' P (ROwn b m vC vS' false) b m vI vC vP vS' { s with sts := [s.is], wi := false } ∧ Chg M (ROwn b m vC vS' false) w w' ∧ ROld w' P (ROwn b m vC vS' false) vS s.sts := by
  intro w' vS'
  have hbl := h.bl
  have hM : ∀ k, M k ↔ k = b ∨ vS.ownBlock = some k := fun k => by
    rw [h.own k, ROwn, hw]
    simp
  have hs0 : (w.setCell ⟨b, 3, none⟩ vS').heap.size = w.heap.size := by simp [World.setCell]
  have hs1 : (w.setCell ⟨b, 3, none⟩ (.slice (some ⟨w.heap.size, 0, none⟩) 1 1)).heap.size = w.heap.size := hs0
  have old : ∀ k, k ≠ b → k < w.heap.size → w'.heap[k]? = w.heap[k]? := fun k hk hl => by
    exact (heap_alloc_old _ _ (by omega)).trans (heap_setCell_other _ _ _ _ hk)
  have hsz' : w'.heap.size = w.heap.size + 1 := by
    show ((w.setCell ⟨b, 3, none⟩ vS').alloc _).heap.size = _
    simp [World.setCell]
  have hMn : ∀ k, ROwn b m vC vS' false k → k = b ∨ k = w.heap.size := fun k hk => by
    rcases hk with e | e | ⟨e, _⟩
    · exact .inl e
    · exact .inr (Option.some.inj e).symm
    · cases e
  have hchg : Chg M (ROwn b m vC vS' false) w w' := h.chgOwn (w' := w') rfl rfl rfl (by omega) (fun k hl hm => old k (fun e => hm ((hM k).2 (.inl e))) hl) fun k hk => (hMn k hk).elim (fun e => .inl ((hM k).2 (.inl e))) fun e => .inr (by omega)
  have hSb : ∀ g, vS.ownBlock = some g → w'.heap[g]? = w.heap[g]? := fun g hg => old g (fun e => h.neS (by rw [← e]; exact hg)) (h.lt (h.mS hg))
  have hI' := h.hI.chg hchg.orL
  refine ⟨⟨?_, hI', ⟨[vI], rfl, fun j hj => ?_, ?_⟩, fun e => (by cases e), ?_, fun e => (by cases e), fun k hk hp => ?_, fun k => Iff.rfl, ⟨h.len.1, h.len.2.1, Nat.one_pos⟩⟩, hchg, ?_⟩
  · have e0 := heap_setCell_same w b 3 _ _ vS' h.hb
    rw [hw] at e0
    exact (heap_alloc_old _ _ (by omega)).trans e0
  · have : j = 0 := by simp at hj; omega
    subst this
    exact hI'
  · refine ⟨rfl, .inr ⟨w.heap.size, 1, #[vI], rfl, Nat.zero_le _, ?_, Nat.le_refl _, by decide, rfl, rfl⟩⟩
    have := heap_alloc_new (w.setCell ⟨b, 3, none⟩ vS') (.cells #[vI] 34)
    rw [hs0] at this
    exact this
  · intro e
    have := Option.some.inj e
    have e2 : w.heap.size = b := this
    omega
  · have := hP k hp
    rcases hMn k hk with e | e
    · exact h.apart k ((hM k).2 (.inl e)) hp
    · omega
  · obtain ⟨us, hl, he, ho⟩ := h.hS
    exact ⟨us, hl, fun j hj => (he j hj).chg hchg.orL, ownsRow_keep ho hSb⟩
set_option maxHeartbeats 1000000 in
theorem rsSync_ok (h : RSo w P M p vS s) (hw : s.wi = false) (hP : ∀ k, P k → k < w.heap.size) :
    Calls Tryz.prog 25 #[p] w fun e w' => e = .returned (.int .i64 0) ∧ ∃ M' vS', RSo w' P M' p vS' { s with sts := [s.is], wi := false } ∧ Chg M M' w w' ∧ ROld w' P M' vS s.sts := by
  obtain ⟨b, m, vI, vC, vP, rfl, h⟩ := h
  have c0 := h.c0
  have c4 := h.c4
  rw [hw] at c4
  have hbl := h.bl
  have K := Lib.hid (h.synced hw hP)
  obtain ⟨ao, cap, rfl, _⟩ := h.hI.sl.shape
  obtain ⟨L, hL⟩ : ∃ L, L = s.is.length := ⟨_, rfl⟩
  have e3 : (w.alloc (.cells #[.slice ao s.is.length cap] 34)).heap[b]? = some (.cells #[.slice ao s.is.length cap, vC, vP, vS, .bool s.wi] 42 (0, 0)) := by rw [heap_alloc_old _ _ hbl]; exact h.hb
  obtain ⟨k3, g3⟩ := box_cell (i := 3) e3 rfl
  rw [← hL] at K c0 k3 g3
  clear h hL e3
  go_enter Tryz.func25, Tryz.ntmps25
  go_wp2
  go_ret
  obtain ⟨x1, x2, x3⟩ := K.out
  exact ⟨rfl, _, ⟨_, b, _, _, _, _, rfl, x1⟩, x2, x3⟩
end
end Go.Proofs.YtigbhdgcjklhoaaGreat
