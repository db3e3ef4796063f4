/- The reference's NewDisk. -/
import Derived.Test.YtpjmnmkdegkfcaaC12
namespace Go.Proofs.Ytpjmnmkdegkfcaa
set_option maxRecDepth 100000
open Go.RowKit
set_option linter.unusedVariables false

theorem sep_new {v1 v1' v2 : Value} {z : Nat} (h : ∀ k, v1.ownBlock = some k → v2.ownBlock ≠ some k) (hor : v1'.ownBlock = v1.ownBlock ∨ v1'.ownBlock = some z) (hlt : ∀ k, v2.ownBlock = some k → k < z) : ∀ k, v1'.ownBlock = some k → v2.ownBlock ≠ some k := fun k hk e => by
  rcases hor with h1 | h1
  · exact h k (h1 ▸ hk) e
  · rw [h1] at hk
    have := hlt k e
    have := Option.some.inj hk
    omega
theorem sep_new' {v1 v2 v2' : Value} {z : Nat} (h : ∀ k, v1.ownBlock = some k → v2.ownBlock ≠ some k) (hor : v2'.ownBlock = v2.ownBlock ∨ v2'.ownBlock = some z) (hlt : ∀ k, v1.ownBlock = some k → k < z) : ∀ k, v1.ownBlock = some k → v2'.ownBlock ≠ some k := fun k hk e => by
  rcases hor with h1 | h1
  · exact h k hk (h1 ▸ e)
  · rw [h1] at e
    have := hlt k hk
    have := Option.some.inj e
    omega
theorem own_new {v v' : Value} {p z : Nat} (h : ∀ k, v.ownBlock = some k → p ≤ k) (hor : v'.ownBlock = v.ownBlock ∨ v'.ownBlock = some z) (hz : p ≤ z) : ∀ k, v'.ownBlock = some k → p ≤ k := fun k hk => by
  rcases hor with h1 | h1
  · exact h k (h1 ▸ hk)
  · rw [h1] at hk
    have := Option.some.inj hk
    omega
theorem wp_region_drew10 {P : Program} {ops : Array Oper} {Q : Exit → Act → World → Prop} {id : Nat} {a : Act} {w : World} (hm : P.follows .mixedOrders = true)
    (h : wpAny P .any ops Q ops.size (Array.replicate ops.size false) a w.drew) : (Code.region id ops true).wp P Q a w := wp_region_any hm h
/-- The reference's disk, made so far: k blocks of noughts, twice. -/
def NDk (w : World) (d p k : Nat) : Prop :=
  ∃ v1 v2, w.heap[d]? = some (.cells #[v1, v2, .slice none 0 0, .int .i64 (-1), .bool false] 55 (0, 0)) ∧ BBR w 0 v1 (List.replicate k zb) ∧ BBR w 0 v2 (List.replicate k zb) ∧ (∀ g, v1.ownBlock = some g → v2.ownBlock ≠ some g) ∧ (∀ g, v1.ownBlock = some g → p ≤ g) ∧ ∀ g, v2.ownBlock = some g → p ≤ g
theorem nd_store {w : World} {d i : Nat} {v1 v2 : Value} {L M : List (List Int)} {cs : Array Value} (h1 : BBR w 0 v1 L) (h2 : BBR w 0 v2 M) (hd : w.heap[d]? = some (.cells cs 55 (0, 0))) (y : Value) :
    BBR (w.setCell ⟨d, i, none⟩ y) 0 v1 L ∧ BBR (w.setCell ⟨d, i, none⟩ y) 0 v2 M ∧ (w.setCell ⟨d, i, none⟩ y).heap[d]? = some (.cells (cs.setIfInBounds i y) 55 (0, 0)) ∧ Below d w (w.setCell ⟨d, i, none⟩ y) := by
  have hw := Wrote.setCell w d i y
  exact ⟨h1.wrote hw (Nat.zero_le _) hd (by decide) (by decide), h2.wrote hw (Nat.zero_le _) hd (by decide) (by decide), heap_setCell_same w d i _ _ _ hd, hw.below (Nat.le_refl _)⟩
set_option maxHeartbeats 8000000 in
theorem rNewDisk_of (w : World) : Calls Try.prog 24 #[.int .i64 100] w fun e w' => ∃ d v cs, e = .returned (.pointer (some ⟨d, 0, none⟩)) ∧ w'.heap[d]? = some (.cells cs 55 (0, 0)) ∧ cs[0]? = some v ∧ BBSl w' v (List.replicate 100 zb) ∧ Below w.heap.size w w' := by
  have hbx := below_box w (.cells #[.slice none 0 0, .slice none 0 0, .slice none 0 0, .int .i64 (-1), .bool false] 55)
  have hnx := heap_alloc_new w (.cells #[.slice none 0 0, .slice none 0 0, .slice none 0 0, .int .i64 (-1), .bool false] 55)
  go_enter Try.func24, Try.ntmps24
  go_upto_region 2 with (fail)
  generalize w.alloc (.cells #[.slice none 0 0, .slice none 0 0, .slice none 0 0, .int .i64 (-1), .bool false] 55) = w1 at hbx hnx ⊢
  obtain ⟨d, hd⟩ : ∃ d, d = w.heap.size := ⟨_, rfl⟩
  obtain ⟨p, hp⟩ : ∃ p, p = w.heap.size + 1 := ⟨_, rfl⟩
  have hdp : d < p := by omega
  have hpw : p ≤ w1.heap.size := by have := (Array.getElem?_eq_some_iff.1 hnx).1; omega
  have HBX := Lib.hid hbx
  have HPW := Lib.hid hpw
  have HDW := Lib.hid hd
  have HDP := Lib.hid hdp
  have HWP : Hid (w.heap.size ≤ d) := Lib.hid (by omega)
  have HN0 : Hid (NDk w1 d p 0) := Lib.hid ⟨_, _, by rw [hd]; exact hnx, bbr_nil _ _, bbr_nil _ _, fun g h => by simp [Value.ownBlock] at h, fun g h => by simp [Value.ownBlock] at h, fun g h => by simp [Value.ownBlock] at h⟩
  have HB0 : Hid (Below d w1 w1) := Lib.hid (Below.refl _ _)
  rw [← hd]
  clear hbx hnx hd hp hdp hpw
  go_wp2
  go_loopw [9] (fun i wr => ∃ k : Nat, k ≤ 100 ∧ i = .int .i64 k ∧ Hid (NDk wr d p k) ∧ Hid (Below d w1 wr)) (fun i _ => 100 - (intOf i).toNat)
  case atStart => exact ⟨0, by omega, rfl, HN0, HB0⟩
  case round =>
    obtain ⟨k, hk, rfl, HN, HB⟩ := hrel
    clear HN0 HB0
    by_cases hlt : k < 100
    · have ek : (k : Int) < 100 := by omega
      obtain ⟨v1, v2, hd0', hr1, hr2, hsp, ho1, ho2⟩ := HN.out
      have HO1 := Lib.hid ho1
      have HO2 := Lib.hid ho2
      obtain ⟨Lk, hLk⟩ : ∃ Lk, Lk = List.replicate k zb := ⟨_, rfl⟩
      rw [← hLk] at hr1 hr2
      have HL : Hid (Lk.length ≤ 100000) := Lib.hid (by rw [hLk, List.length_replicate]; omega)
      have HLN : Hid (Lk ++ [zb] = List.replicate (k + 1) zb) := Lib.hid (by rw [hLk, List.replicate_succ'])
      have HSP := Lib.hid hsp
      have hdp := HDP.out
      have HR10' := Lib.hid hr1
      have HR20' := Lib.hid hr2
      clear hr1 hr2 hsp hLk HN ho1 ho2
      go_wp2_with fail
      refine wp_region_drew10 (by kernel_rfl) ?_
      have bd : Below wr.heap.size wr wr.drew := (Below.refl _ _).drew
      have hd0 : wr.drew.heap[d]? = some (.cells #[v1, v2, .slice none 0 0, .int .i64 (-1), .bool false] 55 (0, 0)) := hd0'
      have HR10 := Lib.hid (HR10'.out.below bd)
      have HR20 := Lib.hid (HR20'.out.below bd)
      have HBl0 : Hid (Below d w1 wr.drew) := Lib.hid HB.out.drew
      have hp0 : p ≤ wr.drew.heap.size := Nat.le_trans HPW.out HBl0.out.size
      clear bd hd0' HR10' HR20' HB
      generalize wr.drew = W0 at hd0 HR10 HR20 HBl0 hp0 ⊢
      refine wpAny_take (i := 0) (v := (.pointer (some ⟨d, 0, none⟩))) rfl (by kernel_rfl) (by kernel_rfl) (by kernel_rfl) (fun _ _ _ h => h) (Or.inl ⟨by rfl, ?_⟩) ?_
      · intro W
        go_simp
      simp only [Act.put, List.setIfInBounds_toArray, List.set_cons_zero, List.set_cons_succ, List.getElem_toArray, List.getElem_cons_zero, List.getElem_cons_succ]
      refine wpAny_take (i := 1) (v := (.pointer (some ⟨d, 0, none⟩))) rfl (by kernel_rfl) (by kernel_rfl) (by kernel_rfl) (fun _ _ _ h => h) (Or.inl ⟨by rfl, ?_⟩) ?_
      · intro W
        go_simp
      simp only [Act.put, List.setIfInBounds_toArray, List.set_cons_zero, List.set_cons_succ, List.getElem_toArray, List.getElem_cons_zero, List.getElem_cons_succ]
      refine wpAny_take (i := 2) (v := (.pointer (some ⟨d, 0, none⟩))) rfl (by kernel_rfl) (by kernel_rfl) (by kernel_rfl) (fun _ _ _ h => h) (Or.inl ⟨by rfl, ?_⟩) ?_
      · intro W
        go_simp
      simp only [Act.put, List.setIfInBounds_toArray, List.set_cons_zero, List.set_cons_succ, List.getElem_toArray, List.getElem_cons_zero, List.getElem_cons_succ]
      refine wpAny_take (i := 3) (v := (.pointer (some ⟨d, 0, none⟩))) rfl (by kernel_rfl) (by kernel_rfl) (by kernel_rfl) (fun _ _ _ h => h) (Or.inl ⟨by rfl, ?_⟩) ?_
      · intro W
        go_simp
      simp only [Act.put, List.setIfInBounds_toArray, List.set_cons_zero, List.set_cons_succ, List.getElem_toArray, List.getElem_cons_zero, List.getElem_cons_succ]
      refine wpAny_take (i := 4) (v := (.pointer (some ⟨d, 0, none⟩))) rfl (by kernel_rfl) (by kernel_rfl) (by kernel_rfl) (fun _ _ _ h => h) (Or.inl ⟨by rfl, ?_⟩) ?_
      · intro W
        go_simp
      simp only [Act.put, List.setIfInBounds_toArray, List.set_cons_zero, List.set_cons_succ, List.getElem_toArray, List.getElem_cons_zero, List.getElem_cons_succ]
      refine wpAny_take (i := 9) (v := (.pointer (some ⟨d, 0, none⟩))) rfl (by kernel_rfl) (by kernel_rfl) (by kernel_rfl) (fun _ _ _ h => h) (Or.inl ⟨by rfl, ?_⟩) ?_
      · intro W
        go_simp
      simp only [Act.put, List.setIfInBounds_toArray, List.set_cons_zero, List.set_cons_succ, List.getElem_toArray, List.getElem_cons_zero, List.getElem_cons_succ]
      refine wpAny_take (i := 10) (v := (.pointer (some ⟨d, 0, none⟩))) rfl (by kernel_rfl) (by kernel_rfl) (by kernel_rfl) (fun _ _ _ h => h) (Or.inl ⟨by rfl, ?_⟩) ?_
      · intro W
        go_simp
      simp only [Act.put, List.setIfInBounds_toArray, List.set_cons_zero, List.set_cons_succ, List.getElem_toArray, List.getElem_cons_zero, List.getElem_cons_succ]
      refine wpAny_take (i := 11) (v := (.pointer (some ⟨d, 1, none⟩))) rfl (by kernel_rfl) (by kernel_rfl) (by kernel_rfl) (fun _ _ _ h => h) (Or.inl ⟨by rfl, ?_⟩) ?_
      · intro W
        go_simp
      simp only [Act.put, List.setIfInBounds_toArray, List.set_cons_zero, List.set_cons_succ, List.getElem_toArray, List.getElem_cons_zero, List.getElem_cons_succ]
      refine any_of_till (S := fun W => W.cell? ⟨d, 0, none⟩ = some v1 ∧ W.cell? ⟨d, 1, none⟩ = some v2) (m := 18) _ _ _ _ ?_
      refine till_take (i := 5) (v := v1) rfl rfl (by kernel_rfl) (by kernel_rfl) (by kernel_rfl) (by kernel_rfl) (by kernel_rfl) (fun _ _ _ h => h) (Or.inl ⟨by rfl, ?_⟩) ⟨by rw [cell_of_row _ _ _ _ _ _ hd0]; rfl, by rw [cell_of_row _ _ _ _ _ _ hd0]; rfl⟩ ?_
      · intro W hS
        obtain ⟨s0, s1⟩ := hS
        go_simp
      simp only [Act.put, List.setIfInBounds_toArray, List.set_cons_zero, List.set_cons_succ, List.getElem_toArray, List.getElem_cons_zero, List.getElem_cons_succ]
      refine till_take (i := 12) (v := v2) rfl rfl (by kernel_rfl) (by kernel_rfl) (by kernel_rfl) (by kernel_rfl) (by kernel_rfl) (fun _ _ _ h => h) (Or.inl ⟨by rfl, ?_⟩) ⟨by rw [cell_of_row _ _ _ _ _ _ hd0]; rfl, by rw [cell_of_row _ _ _ _ _ _ hd0]; rfl⟩ ?_
      · intro W hS
        obtain ⟨s0, s1⟩ := hS
        go_simp
      simp only [Act.put, List.setIfInBounds_toArray, List.set_cons_zero, List.set_cons_succ, List.getElem_toArray, List.getElem_cons_zero, List.getElem_cons_succ]
      refine till_ready (rs := [6, 13]) (by kernel_rfl) (by simp) (TillReady.cons rfl (fun K hK => ?_) (TillReady.cons rfl (fun K hK => ?_) TillReady.nil))
      · skip
        refine step_make256 rfl _ _ rfl rfl rfl ?_
        have bn := below_box W0 (.cells (Array.replicate 256 (.int .u8 0)) 5)
        have nn := heap_alloc_new W0 (.cells (Array.replicate 256 (.int .u8 0)) 5)
        have hd1 := (bn.block d (Array.getElem?_eq_some_iff.1 hd0).1).trans hd0
        have HR11 := Lib.hid (HR10.out.below bn)
        have HR21 := Lib.hid (HR20.out.below bn)
        have HBl1 := Lib.hid (HBl0.out.trans (bn.mono (Nat.le_trans (Nat.le_of_lt hdp) hp0)))
        have hp1 := Nat.le_trans hp0 bn.size
        have HA1 := Lib.hid (belt_zero (B := 0) nn)
        obtain ⟨ga, hgg⟩ : ∃ g, g = W0.heap.size := ⟨_, rfl⟩
        rw [← hgg] at HA1 ⊢
        clear nn bn hgg
        generalize W0.alloc (.cells (Array.replicate 256 (.int .u8 0)) 5) = W1 at hd1 HR11 HR21 HBl1 hp1 HA1 ⊢
        refine hK.out _ _ (fun _ => ⟨by rw [cell_of_row _ _ _ _ _ _ hd1]; rfl, by rw [cell_of_row _ _ _ _ _ _ hd1]; rfl⟩) ?_
        clear hK K
        simp only [Act.put, List.setIfInBounds_toArray, List.set_cons_zero, List.set_cons_succ, List.getElem_toArray, List.getElem_cons_zero, List.getElem_cons_succ]
        refine till_ready (rs := [7, 13]) (by kernel_rfl) (by simp) (TillReady.cons rfl (fun K hK => ?_) (TillReady.cons rfl (fun K hK => ?_) TillReady.nil))
        · skip
          refine step_build1 rfl _ rfl (some ⟨ga, 0, none⟩) 256 256 rfl ?_
          have bn := below_box W1 (.cells #[.slice (some ⟨ga, 0, none⟩) 256 256] 40)
          have nn := heap_alloc_new W1 (.cells #[.slice (some ⟨ga, 0, none⟩) 256 256] 40)
          have hd2 := (bn.block d (Array.getElem?_eq_some_iff.1 hd1).1).trans hd1
          have HR12 := Lib.hid (HR11.out.below bn)
          have HR22 := Lib.hid (HR21.out.below bn)
          have HBl2 := Lib.hid (HBl1.out.trans (bn.mono (Nat.le_trans (Nat.le_of_lt hdp) hp1)))
          have hp2 := Nat.le_trans hp1 bn.size
          have HA2 := Lib.hid (HA1.out.below bn)
          have hqa2 := nn
          obtain ⟨qa, hgg⟩ : ∃ g, g = W1.heap.size := ⟨_, rfl⟩
          rw [← hgg] at hqa2 ⊢
          clear nn bn hgg
          generalize W1.alloc (.cells #[.slice (some ⟨ga, 0, none⟩) 256 256] 40) = W2 at hd2 HR12 HR22 HBl2 hp2 HA2 hqa2 ⊢
          refine hK.out _ _ (fun _ => ⟨by rw [cell_of_row _ _ _ _ _ _ hd2]; rfl, by rw [cell_of_row _ _ _ _ _ _ hd2]; rfl⟩) ?_
          clear hK K
          simp only [Act.put, List.setIfInBounds_toArray, List.set_cons_zero, List.set_cons_succ, List.getElem_toArray, List.getElem_cons_zero, List.getElem_cons_succ]
          refine till_ready (rs := [8, 13]) (by kernel_rfl) (by simp) (TillReady.cons rfl (fun K hK => ?_) (TillReady.cons rfl (fun K hK => ?_) TillReady.nil))
          · skip
            refine step_append_one rfl _ _ rfl 0 v1 Lk rfl HR12.out _ zb HA2.out qa hqa2 rfl HL.out (Nat.zero_le _) ?_
            intro v1' W3 hv1 _ hg hor
            have hb : Below p W2 W3 := (Below.refl _ _).grown hg hp2 HO1.out
            have HO3 := Lib.hid (own_new HO1.out hor hp2)
            have hd3 := (hb.block d hdp).trans hd2
            have HR13 := Lib.hid hv1
            have HR23 := Lib.hid (HR22.out.grown HR12.out.rowOf (fun k hk => HSP.out k hk) hg)
            have HBl3 := Lib.hid (HBl2.out.trans (hb.mono (Nat.le_of_lt hdp)))
            have hp3 := Nat.le_trans hp2 hb.size
            have HSQ := Lib.hid (sep_new HSP.out hor HR22.out.lt)
            clear hv1 hb hg hor
            refine hK.out _ _ (fun _ => ⟨by rw [cell_of_row _ _ _ _ _ _ hd3]; rfl, by rw [cell_of_row _ _ _ _ _ _ hd3]; rfl⟩) ?_
            clear hK K
            simp only [Act.put, List.setIfInBounds_toArray, List.set_cons_zero, List.set_cons_succ, List.getElem_toArray, List.getElem_cons_zero, List.getElem_cons_succ]
            refine till_ready (rs := [13]) (by kernel_rfl) (by simp) (TillReady.cons rfl (fun K hK => ?_) TillReady.nil)
            refine step_make256 rfl _ _ rfl rfl rfl ?_
            have bn := below_box W3 (.cells (Array.replicate 256 (.int .u8 0)) 5)
            have nn := heap_alloc_new W3 (.cells (Array.replicate 256 (.int .u8 0)) 5)
            have hd4 := (bn.block d (Array.getElem?_eq_some_iff.1 hd3).1).trans hd3
            have HR14 := Lib.hid (HR13.out.below bn)
            have HR24 := Lib.hid (HR23.out.below bn)
            have HBl4 := Lib.hid (HBl3.out.trans (bn.mono (Nat.le_trans (Nat.le_of_lt hdp) hp3)))
            have hp4 := Nat.le_trans hp3 bn.size
            have HB4 := Lib.hid (belt_zero (B := 0) nn)
            obtain ⟨gb, hgg⟩ : ∃ g, g = W3.heap.size := ⟨_, rfl⟩
            rw [← hgg] at HB4 ⊢
            clear nn bn hgg
            generalize W3.alloc (.cells (Array.replicate 256 (.int .u8 0)) 5) = W4 at hd4 HR14 HR24 HBl4 hp4 HB4 ⊢
            refine hK.out _ _ (fun _ => ⟨by rw [cell_of_row _ _ _ _ _ _ hd4]; rfl, by rw [cell_of_row _ _ _ _ _ _ hd4]; rfl⟩) ?_
            clear hK K
            simp only [Act.put, List.setIfInBounds_toArray, List.set_cons_zero, List.set_cons_succ, List.getElem_toArray, List.getElem_cons_zero, List.getElem_cons_succ]
            refine till_ready (rs := [14]) (by kernel_rfl) (by simp) (TillReady.cons rfl (fun K hK => ?_) TillReady.nil)
            refine step_build1 rfl _ rfl (some ⟨gb, 0, none⟩) 256 256 rfl ?_
            have bn := below_box W4 (.cells #[.slice (some ⟨gb, 0, none⟩) 256 256] 40)
            have nn := heap_alloc_new W4 (.cells #[.slice (some ⟨gb, 0, none⟩) 256 256] 40)
            have hd5 := (bn.block d (Array.getElem?_eq_some_iff.1 hd4).1).trans hd4
            have HR15 := Lib.hid (HR14.out.below bn)
            have HR25 := Lib.hid (HR24.out.below bn)
            have HBl5 := Lib.hid (HBl4.out.trans (bn.mono (Nat.le_trans (Nat.le_of_lt hdp) hp4)))
            have hp5 := Nat.le_trans hp4 bn.size
            have HB5 := Lib.hid (HB4.out.below bn)
            have hqb5 := nn
            obtain ⟨qb, hgg⟩ : ∃ g, g = W4.heap.size := ⟨_, rfl⟩
            rw [← hgg] at hqb5 ⊢
            clear nn bn hgg
            generalize W4.alloc (.cells #[.slice (some ⟨gb, 0, none⟩) 256 256] 40) = W5 at hd5 HR15 HR25 HBl5 hp5 HB5 hqb5 ⊢
            refine hK.out _ _ (fun _ => ⟨by rw [cell_of_row _ _ _ _ _ _ hd5]; rfl, by rw [cell_of_row _ _ _ _ _ _ hd5]; rfl⟩) ?_
            clear hK K
            simp only [Act.put, List.setIfInBounds_toArray, List.set_cons_zero, List.set_cons_succ, List.getElem_toArray, List.getElem_cons_zero, List.getElem_cons_succ]
            refine till_ready (rs := [15]) (by kernel_rfl) (by simp) (TillReady.cons rfl (fun K hK => ?_) TillReady.nil)
            refine step_append_one rfl _ _ rfl 0 v2 Lk rfl HR25.out _ zb HB5.out qb hqb5 rfl HL.out (Nat.zero_le _) ?_
            intro v2' W6 hv2 _ hg hor
            have hb : Below p W5 W6 := (Below.refl _ _).grown hg hp5 HO2.out
            have HO4 := Lib.hid (own_new HO2.out hor hp5)
            have hd6 := (hb.block d hdp).trans hd5
            have HR26 := Lib.hid hv2
            have HR16 := Lib.hid (HR15.out.grown HR25.out.rowOf (fun k hk h => HSQ.out k h hk) hg)
            have HBl6 := Lib.hid (HBl5.out.trans (hb.mono (Nat.le_of_lt hdp)))
            have hp6 := Nat.le_trans hp5 hb.size
            have HSF := Lib.hid (sep_new' HSQ.out hor HR15.out.lt)
            clear hv2 hb hg hor
            refine hK.out _ _ (fun _ => ⟨by rw [cell_of_row _ _ _ _ _ _ hd6]; rfl, by rw [cell_of_row _ _ _ _ _ _ hd6]; rfl⟩) ?_
            clear hK K
            simp only [Act.put, List.setIfInBounds_toArray, List.set_cons_zero, List.set_cons_succ, List.getElem_toArray, List.getElem_cons_zero, List.getElem_cons_succ]
            obtain ⟨a1, c1, rfl, _⟩ := HR16.out.sl.shape
            obtain ⟨a2, c2, rfl, _⟩ := HR26.out.sl.shape
            rw [show (Lk ++ [zb]).length = Lk.length + 1 by simp] at HR16 HR26 HO3 HO4 HSF ⊢
            refine till_ready (rs := [16]) (by kernel_rfl) (by simp) (TillReady.cons rfl (fun K hK => ?_) TillReady.nil)
            go_simp
            refine hK.out _ _ (fun _ => ⟨by rw [cell_of_row _ _ _ _ _ _ hd6]; rfl, by rw [cell_of_row _ _ _ _ _ _ hd6]; rfl⟩) ?_
            clear hK K
            (try simp only [Act.put, List.setIfInBounds_toArray, List.set_cons_zero, List.set_cons_succ, List.getElem_toArray, List.getElem_cons_zero, List.getElem_cons_succ])
            refine till_ready (rs := [17]) (by kernel_rfl) (by simp) (TillReady.cons rfl (fun K hK => ?_) TillReady.nil)
            go_simp
            refine hK.out _ _ (fun _ => ⟨by rw [cell_of_row _ _ _ _ _ _ hd6]; rfl, by rw [cell_of_row _ _ _ _ _ _ hd6]; rfl⟩) ?_
            clear hK K
            (try simp only [Act.put, List.setIfInBounds_toArray, List.set_cons_zero, List.set_cons_succ, List.getElem_toArray, List.getElem_cons_zero, List.getElem_cons_succ])
            have hf := frozen_of_row W6 d 0 _ _ hd6
            have hc : W6.cell? ⟨d, 0, none⟩ = some v1 := by rw [cell_of_row _ _ _ _ _ _ hd6]; rfl
            refine till_ready (rs := [18]) (by kernel_rfl) (by simp) (TillReady.cons rfl (fun K hK => ?_) TillReady.nil)
            go_simp
            obtain ⟨r1, r2, r3, r4⟩ := nd_store (i := 0) HR16.out HR26.out hd6 (.slice a1 (Lk.length + 1) c1)
            have HY1 := Lib.hid r1
            have HY2 := Lib.hid r2
            have hy3 : (W6.setCell ⟨d, 0, none⟩ (.slice a1 (Lk.length + 1) c1)).heap[d]? = some (.cells #[.slice a1 (Lk.length + 1) c1, v2, .slice none 0 0, .int .i64 (-1), .bool false] 55 (0, 0)) := r3
            have HY4 := Lib.hid (HBl6.out.trans r4)
            clear r1 r2 r3 r4 hf hc
            generalize W6.setCell ⟨d, 0, none⟩ (.slice a1 (Lk.length + 1) c1) = Y at HY1 HY2 hy3 HY4 ⊢
            refine hK.out _ _ (fun h => by cases h) ?_
            clear hK K
            (try simp only [Act.put, List.setIfInBounds_toArray, List.set_cons_zero, List.set_cons_succ, List.getElem_toArray, List.getElem_cons_zero, List.getElem_cons_succ])
            refine till_ready (rs := [19]) (by kernel_rfl) (by simp) (TillReady.cons rfl (fun K hK => ?_) TillReady.nil)
            go_simp
            refine hK.out _ _ (fun h => by cases h) ?_
            clear hK K
            (try simp only [Act.put, List.setIfInBounds_toArray, List.set_cons_zero, List.set_cons_succ, List.getElem_toArray, List.getElem_cons_zero, List.getElem_cons_succ])
            refine till_ready (rs := [20]) (by kernel_rfl) (by simp) (TillReady.cons rfl (fun K hK => ?_) TillReady.nil)
            go_simp
            refine hK.out _ _ (fun h => by cases h) ?_
            clear hK K
            (try simp only [Act.put, List.setIfInBounds_toArray, List.set_cons_zero, List.set_cons_succ, List.getElem_toArray, List.getElem_cons_zero, List.getElem_cons_succ])
            have hf := frozen_of_row Y d 1 _ _ hy3
            have hc : Y.cell? ⟨d, 1, none⟩ = some v2 := by rw [cell_of_row _ _ _ _ _ _ hy3]; rfl
            refine till_ready (rs := [21]) (by kernel_rfl) (by simp) (TillReady.cons rfl (fun K hK => ?_) TillReady.nil)
            go_simp
            obtain ⟨r1, r2, r3, r4⟩ := nd_store (i := 1) HY1.out HY2.out hy3 (.slice a2 (Lk.length + 1) c2)
            have HZN : Hid (NDk _ d p (k + 1)) := Lib.hid ⟨.slice a1 (Lk.length + 1) c1, .slice a2 (Lk.length + 1) c2, r3, by rw [← HLN.out]; exact r1, by rw [← HLN.out]; exact r2, HSF.out, HO3.out, HO4.out⟩
            have HZB := Lib.hid (HY4.out.trans r4)
            refine hK.out _ _ (fun h => by cases h) ?_
            clear hK K hf hc r1 r2 r3 r4
            (try simp only [Act.put, List.setIfInBounds_toArray, List.set_cons_zero, List.set_cons_succ, List.getElem_toArray, List.getElem_cons_zero, List.getElem_cons_succ])
            refine till_done (by kernel_rfl) ?_ _
            go_wp2
            go_roundw
            case rel => exact ⟨k + 1, by omega, by go_num, HZN, HZB⟩
            case measure => simp [intOf]; omega
          · skip
            refine step_make256 rfl _ _ rfl rfl rfl ?_
            have bn := below_box W2 (.cells (Array.replicate 256 (.int .u8 0)) 5)
            have nn := heap_alloc_new W2 (.cells (Array.replicate 256 (.int .u8 0)) 5)
            have hd3 := (bn.block d (Array.getElem?_eq_some_iff.1 hd2).1).trans hd2
            have HR13 := Lib.hid (HR12.out.below bn)
            have HR23 := Lib.hid (HR22.out.below bn)
            have HBl3 := Lib.hid (HBl2.out.trans (bn.mono (Nat.le_trans (Nat.le_of_lt hdp) hp2)))
            have hp3 := Nat.le_trans hp2 bn.size
            have HA3 := Lib.hid (HA2.out.below bn)
            have hqa3 := (bn.block _ (Array.getElem?_eq_some_iff.1 hqa2).1).trans hqa2
            have HB3 := Lib.hid (belt_zero (B := 0) nn)
            obtain ⟨gb, hgg⟩ : ∃ g, g = W2.heap.size := ⟨_, rfl⟩
            rw [← hgg] at HB3 ⊢
            clear nn bn hgg
            generalize W2.alloc (.cells (Array.replicate 256 (.int .u8 0)) 5) = W3 at hd3 HR13 HR23 HBl3 hp3 HA3 hqa3 HB3 ⊢
            refine hK.out _ _ (fun _ => ⟨by rw [cell_of_row _ _ _ _ _ _ hd3]; rfl, by rw [cell_of_row _ _ _ _ _ _ hd3]; rfl⟩) ?_
            clear hK K
            simp only [Act.put, List.setIfInBounds_toArray, List.set_cons_zero, List.set_cons_succ, List.getElem_toArray, List.getElem_cons_zero, List.getElem_cons_succ]
            refine till_ready (rs := [8, 14]) (by kernel_rfl) (by simp) (TillReady.cons rfl (fun K hK => ?_) (TillReady.cons rfl (fun K hK => ?_) TillReady.nil))
            · skip
              refine step_append_one rfl _ _ rfl 0 v1 Lk rfl HR13.out _ zb HA3.out qa hqa3 rfl HL.out (Nat.zero_le _) ?_
              intro v1' W4 hv1 _ hg hor
              have hb : Below p W3 W4 := (Below.refl _ _).grown hg hp3 HO1.out
              have HO3 := Lib.hid (own_new HO1.out hor hp3)
              have hd4 := (hb.block d hdp).trans hd3
              have HR14 := Lib.hid hv1
              have HR24 := Lib.hid (HR23.out.grown HR13.out.rowOf (fun k hk => HSP.out k hk) hg)
              have HBl4 := Lib.hid (HBl3.out.trans (hb.mono (Nat.le_of_lt hdp)))
              have hp4 := Nat.le_trans hp3 hb.size
              have HSQ := Lib.hid (sep_new HSP.out hor HR23.out.lt)
              have HB4 := Lib.hid (HB3.out.grown HR13.out.rowOf hg)
              clear hv1 hb hg hor
              refine hK.out _ _ (fun _ => ⟨by rw [cell_of_row _ _ _ _ _ _ hd4]; rfl, by rw [cell_of_row _ _ _ _ _ _ hd4]; rfl⟩) ?_
              clear hK K
              simp only [Act.put, List.setIfInBounds_toArray, List.set_cons_zero, List.set_cons_succ, List.getElem_toArray, List.getElem_cons_zero, List.getElem_cons_succ]
              refine till_ready (rs := [14]) (by kernel_rfl) (by simp) (TillReady.cons rfl (fun K hK => ?_) TillReady.nil)
              refine step_build1 rfl _ rfl (some ⟨gb, 0, none⟩) 256 256 rfl ?_
              have bn := below_box W4 (.cells #[.slice (some ⟨gb, 0, none⟩) 256 256] 40)
              have nn := heap_alloc_new W4 (.cells #[.slice (some ⟨gb, 0, none⟩) 256 256] 40)
              have hd5 := (bn.block d (Array.getElem?_eq_some_iff.1 hd4).1).trans hd4
              have HR15 := Lib.hid (HR14.out.below bn)
              have HR25 := Lib.hid (HR24.out.below bn)
              have HBl5 := Lib.hid (HBl4.out.trans (bn.mono (Nat.le_trans (Nat.le_of_lt hdp) hp4)))
              have hp5 := Nat.le_trans hp4 bn.size
              have HB5 := Lib.hid (HB4.out.below bn)
              have hqb5 := nn
              obtain ⟨qb, hgg⟩ : ∃ g, g = W4.heap.size := ⟨_, rfl⟩
              rw [← hgg] at hqb5 ⊢
              clear nn bn hgg
              generalize W4.alloc (.cells #[.slice (some ⟨gb, 0, none⟩) 256 256] 40) = W5 at hd5 HR15 HR25 HBl5 hp5 HB5 hqb5 ⊢
              refine hK.out _ _ (fun _ => ⟨by rw [cell_of_row _ _ _ _ _ _ hd5]; rfl, by rw [cell_of_row _ _ _ _ _ _ hd5]; rfl⟩) ?_
              clear hK K
              simp only [Act.put, List.setIfInBounds_toArray, List.set_cons_zero, List.set_cons_succ, List.getElem_toArray, List.getElem_cons_zero, List.getElem_cons_succ]
              refine till_ready (rs := [15]) (by kernel_rfl) (by simp) (TillReady.cons rfl (fun K hK => ?_) TillReady.nil)
              refine step_append_one rfl _ _ rfl 0 v2 Lk rfl HR25.out _ zb HB5.out qb hqb5 rfl HL.out (Nat.zero_le _) ?_
              intro v2' W6 hv2 _ hg hor
              have hb : Below p W5 W6 := (Below.refl _ _).grown hg hp5 HO2.out
              have HO4 := Lib.hid (own_new HO2.out hor hp5)
              have hd6 := (hb.block d hdp).trans hd5
              have HR26 := Lib.hid hv2
              have HR16 := Lib.hid (HR15.out.grown HR25.out.rowOf (fun k hk h => HSQ.out k h hk) hg)
              have HBl6 := Lib.hid (HBl5.out.trans (hb.mono (Nat.le_of_lt hdp)))
              have hp6 := Nat.le_trans hp5 hb.size
              have HSF := Lib.hid (sep_new' HSQ.out hor HR15.out.lt)
              clear hv2 hb hg hor
              refine hK.out _ _ (fun _ => ⟨by rw [cell_of_row _ _ _ _ _ _ hd6]; rfl, by rw [cell_of_row _ _ _ _ _ _ hd6]; rfl⟩) ?_
              clear hK K
              simp only [Act.put, List.setIfInBounds_toArray, List.set_cons_zero, List.set_cons_succ, List.getElem_toArray, List.getElem_cons_zero, List.getElem_cons_succ]
              obtain ⟨a1, c1, rfl, _⟩ := HR16.out.sl.shape
              obtain ⟨a2, c2, rfl, _⟩ := HR26.out.sl.shape
              rw [show (Lk ++ [zb]).length = Lk.length + 1 by simp] at HR16 HR26 HO3 HO4 HSF ⊢
              refine till_ready (rs := [16]) (by kernel_rfl) (by simp) (TillReady.cons rfl (fun K hK => ?_) TillReady.nil)
              go_simp
              refine hK.out _ _ (fun _ => ⟨by rw [cell_of_row _ _ _ _ _ _ hd6]; rfl, by rw [cell_of_row _ _ _ _ _ _ hd6]; rfl⟩) ?_
              clear hK K
              (try simp only [Act.put, List.setIfInBounds_toArray, List.set_cons_zero, List.set_cons_succ, List.getElem_toArray, List.getElem_cons_zero, List.getElem_cons_succ])
              refine till_ready (rs := [17]) (by kernel_rfl) (by simp) (TillReady.cons rfl (fun K hK => ?_) TillReady.nil)
              go_simp
              refine hK.out _ _ (fun _ => ⟨by rw [cell_of_row _ _ _ _ _ _ hd6]; rfl, by rw [cell_of_row _ _ _ _ _ _ hd6]; rfl⟩) ?_
              clear hK K
              (try simp only [Act.put, List.setIfInBounds_toArray, List.set_cons_zero, List.set_cons_succ, List.getElem_toArray, List.getElem_cons_zero, List.getElem_cons_succ])
              have hf := frozen_of_row W6 d 0 _ _ hd6
              have hc : W6.cell? ⟨d, 0, none⟩ = some v1 := by rw [cell_of_row _ _ _ _ _ _ hd6]; rfl
              refine till_ready (rs := [18]) (by kernel_rfl) (by simp) (TillReady.cons rfl (fun K hK => ?_) TillReady.nil)
              go_simp
              obtain ⟨r1, r2, r3, r4⟩ := nd_store (i := 0) HR16.out HR26.out hd6 (.slice a1 (Lk.length + 1) c1)
              have HY1 := Lib.hid r1
              have HY2 := Lib.hid r2
              have hy3 : (W6.setCell ⟨d, 0, none⟩ (.slice a1 (Lk.length + 1) c1)).heap[d]? = some (.cells #[.slice a1 (Lk.length + 1) c1, v2, .slice none 0 0, .int .i64 (-1), .bool false] 55 (0, 0)) := r3
              have HY4 := Lib.hid (HBl6.out.trans r4)
              clear r1 r2 r3 r4 hf hc
              generalize W6.setCell ⟨d, 0, none⟩ (.slice a1 (Lk.length + 1) c1) = Y at HY1 HY2 hy3 HY4 ⊢
              refine hK.out _ _ (fun h => by cases h) ?_
              clear hK K
              (try simp only [Act.put, List.setIfInBounds_toArray, List.set_cons_zero, List.set_cons_succ, List.getElem_toArray, List.getElem_cons_zero, List.getElem_cons_succ])
              refine till_ready (rs := [19]) (by kernel_rfl) (by simp) (TillReady.cons rfl (fun K hK => ?_) TillReady.nil)
              go_simp
              refine hK.out _ _ (fun h => by cases h) ?_
              clear hK K
              (try simp only [Act.put, List.setIfInBounds_toArray, List.set_cons_zero, List.set_cons_succ, List.getElem_toArray, List.getElem_cons_zero, List.getElem_cons_succ])
              refine till_ready (rs := [20]) (by kernel_rfl) (by simp) (TillReady.cons rfl (fun K hK => ?_) TillReady.nil)
              go_simp
              refine hK.out _ _ (fun h => by cases h) ?_
              clear hK K
              (try simp only [Act.put, List.setIfInBounds_toArray, List.set_cons_zero, List.set_cons_succ, List.getElem_toArray, List.getElem_cons_zero, List.getElem_cons_succ])
              have hf := frozen_of_row Y d 1 _ _ hy3
              have hc : Y.cell? ⟨d, 1, none⟩ = some v2 := by rw [cell_of_row _ _ _ _ _ _ hy3]; rfl
              refine till_ready (rs := [21]) (by kernel_rfl) (by simp) (TillReady.cons rfl (fun K hK => ?_) TillReady.nil)
              go_simp
              obtain ⟨r1, r2, r3, r4⟩ := nd_store (i := 1) HY1.out HY2.out hy3 (.slice a2 (Lk.length + 1) c2)
              have HZN : Hid (NDk _ d p (k + 1)) := Lib.hid ⟨.slice a1 (Lk.length + 1) c1, .slice a2 (Lk.length + 1) c2, r3, by rw [← HLN.out]; exact r1, by rw [← HLN.out]; exact r2, HSF.out, HO3.out, HO4.out⟩
              have HZB := Lib.hid (HY4.out.trans r4)
              refine hK.out _ _ (fun h => by cases h) ?_
              clear hK K hf hc r1 r2 r3 r4
              (try simp only [Act.put, List.setIfInBounds_toArray, List.set_cons_zero, List.set_cons_succ, List.getElem_toArray, List.getElem_cons_zero, List.getElem_cons_succ])
              refine till_done (by kernel_rfl) ?_ _
              go_wp2
              go_roundw
              case rel => exact ⟨k + 1, by omega, by go_num, HZN, HZB⟩
              case measure => simp [intOf]; omega
            · skip
              refine step_build1 rfl _ rfl (some ⟨gb, 0, none⟩) 256 256 rfl ?_
              have bn := below_box W3 (.cells #[.slice (some ⟨gb, 0, none⟩) 256 256] 40)
              have nn := heap_alloc_new W3 (.cells #[.slice (some ⟨gb, 0, none⟩) 256 256] 40)
              have hd4 := (bn.block d (Array.getElem?_eq_some_iff.1 hd3).1).trans hd3
              have HR14 := Lib.hid (HR13.out.below bn)
              have HR24 := Lib.hid (HR23.out.below bn)
              have HBl4 := Lib.hid (HBl3.out.trans (bn.mono (Nat.le_trans (Nat.le_of_lt hdp) hp3)))
              have hp4 := Nat.le_trans hp3 bn.size
              have HA4 := Lib.hid (HA3.out.below bn)
              have hqa4 := (bn.block _ (Array.getElem?_eq_some_iff.1 hqa3).1).trans hqa3
              have HB4 := Lib.hid (HB3.out.below bn)
              have HNB := Lib.hid (fun k (hk : v1.ownBlock = some k) => Nat.ne_of_lt (HR13.out.lt k hk))
              have hqb4 := nn
              obtain ⟨qb, hgg⟩ : ∃ g, g = W3.heap.size := ⟨_, rfl⟩
              rw [← hgg] at hqb4 ⊢
              rw [← hgg] at HNB
              clear nn bn hgg
              generalize W3.alloc (.cells #[.slice (some ⟨gb, 0, none⟩) 256 256] 40) = W4 at hd4 HR14 HR24 HBl4 hp4 HA4 hqa4 HB4 hqb4 ⊢
              refine hK.out _ _ (fun _ => ⟨by rw [cell_of_row _ _ _ _ _ _ hd4]; rfl, by rw [cell_of_row _ _ _ _ _ _ hd4]; rfl⟩) ?_
              clear hK K
              simp only [Act.put, List.setIfInBounds_toArray, List.set_cons_zero, List.set_cons_succ, List.getElem_toArray, List.getElem_cons_zero, List.getElem_cons_succ]
              refine till_ready (rs := [8]) (by kernel_rfl) (by simp) (TillReady.cons rfl (fun K hK => ?_) TillReady.nil)
              refine step_append_one rfl _ _ rfl 0 v1 Lk rfl HR14.out _ zb HA4.out qa hqa4 rfl HL.out (Nat.zero_le _) ?_
              intro v1' W5 hv1 _ hg hor
              have hb : Below p W4 W5 := (Below.refl _ _).grown hg hp4 HO1.out
              have HO3 := Lib.hid (own_new HO1.out hor hp4)
              have hd5 := (hb.block d hdp).trans hd4
              have HR15 := Lib.hid hv1
              have HR25 := Lib.hid (HR24.out.grown HR14.out.rowOf (fun k hk => HSP.out k hk) hg)
              have HBl5 := Lib.hid (HBl4.out.trans (hb.mono (Nat.le_of_lt hdp)))
              have hp5 := Nat.le_trans hp4 hb.size
              have HSQ := Lib.hid (sep_new HSP.out hor HR24.out.lt)
              have HB5 := Lib.hid (HB4.out.grown HR14.out.rowOf hg)
              have hqb5 := (hg.block qb (Array.getElem?_eq_some_iff.1 hqb4).1 (fun h => HNB.out _ h.symm rfl)).trans hqb4
              clear hv1 hb hg hor
              refine hK.out _ _ (fun _ => ⟨by rw [cell_of_row _ _ _ _ _ _ hd5]; rfl, by rw [cell_of_row _ _ _ _ _ _ hd5]; rfl⟩) ?_
              clear hK K
              simp only [Act.put, List.setIfInBounds_toArray, List.set_cons_zero, List.set_cons_succ, List.getElem_toArray, List.getElem_cons_zero, List.getElem_cons_succ]
              refine till_ready (rs := [15]) (by kernel_rfl) (by simp) (TillReady.cons rfl (fun K hK => ?_) TillReady.nil)
              refine step_append_one rfl _ _ rfl 0 v2 Lk rfl HR25.out _ zb HB5.out qb hqb5 rfl HL.out (Nat.zero_le _) ?_
              intro v2' W6 hv2 _ hg hor
              have hb : Below p W5 W6 := (Below.refl _ _).grown hg hp5 HO2.out
              have HO4 := Lib.hid (own_new HO2.out hor hp5)
              have hd6 := (hb.block d hdp).trans hd5
              have HR26 := Lib.hid hv2
              have HR16 := Lib.hid (HR15.out.grown HR25.out.rowOf (fun k hk h => HSQ.out k h hk) hg)
              have HBl6 := Lib.hid (HBl5.out.trans (hb.mono (Nat.le_of_lt hdp)))
              have hp6 := Nat.le_trans hp5 hb.size
              have HSF := Lib.hid (sep_new' HSQ.out hor HR15.out.lt)
              clear hv2 hb hg hor
              refine hK.out _ _ (fun _ => ⟨by rw [cell_of_row _ _ _ _ _ _ hd6]; rfl, by rw [cell_of_row _ _ _ _ _ _ hd6]; rfl⟩) ?_
              clear hK K
              simp only [Act.put, List.setIfInBounds_toArray, List.set_cons_zero, List.set_cons_succ, List.getElem_toArray, List.getElem_cons_zero, List.getElem_cons_succ]
              obtain ⟨a1, c1, rfl, _⟩ := HR16.out.sl.shape
              obtain ⟨a2, c2, rfl, _⟩ := HR26.out.sl.shape
              rw [show (Lk ++ [zb]).length = Lk.length + 1 by simp] at HR16 HR26 HO3 HO4 HSF ⊢
              refine till_ready (rs := [16]) (by kernel_rfl) (by simp) (TillReady.cons rfl (fun K hK => ?_) TillReady.nil)
              go_simp
              refine hK.out _ _ (fun _ => ⟨by rw [cell_of_row _ _ _ _ _ _ hd6]; rfl, by rw [cell_of_row _ _ _ _ _ _ hd6]; rfl⟩) ?_
              clear hK K
              (try simp only [Act.put, List.setIfInBounds_toArray, List.set_cons_zero, List.set_cons_succ, List.getElem_toArray, List.getElem_cons_zero, List.getElem_cons_succ])
              refine till_ready (rs := [17]) (by kernel_rfl) (by simp) (TillReady.cons rfl (fun K hK => ?_) TillReady.nil)
              go_simp
              refine hK.out _ _ (fun _ => ⟨by rw [cell_of_row _ _ _ _ _ _ hd6]; rfl, by rw [cell_of_row _ _ _ _ _ _ hd6]; rfl⟩) ?_
              clear hK K
              (try simp only [Act.put, List.setIfInBounds_toArray, List.set_cons_zero, List.set_cons_succ, List.getElem_toArray, List.getElem_cons_zero, List.getElem_cons_succ])
              have hf := frozen_of_row W6 d 0 _ _ hd6
              have hc : W6.cell? ⟨d, 0, none⟩ = some v1 := by rw [cell_of_row _ _ _ _ _ _ hd6]; rfl
              refine till_ready (rs := [18]) (by kernel_rfl) (by simp) (TillReady.cons rfl (fun K hK => ?_) TillReady.nil)
              go_simp
              obtain ⟨r1, r2, r3, r4⟩ := nd_store (i := 0) HR16.out HR26.out hd6 (.slice a1 (Lk.length + 1) c1)
              have HY1 := Lib.hid r1
              have HY2 := Lib.hid r2
              have hy3 : (W6.setCell ⟨d, 0, none⟩ (.slice a1 (Lk.length + 1) c1)).heap[d]? = some (.cells #[.slice a1 (Lk.length + 1) c1, v2, .slice none 0 0, .int .i64 (-1), .bool false] 55 (0, 0)) := r3
              have HY4 := Lib.hid (HBl6.out.trans r4)
              clear r1 r2 r3 r4 hf hc
              generalize W6.setCell ⟨d, 0, none⟩ (.slice a1 (Lk.length + 1) c1) = Y at HY1 HY2 hy3 HY4 ⊢
              refine hK.out _ _ (fun h => by cases h) ?_
              clear hK K
              (try simp only [Act.put, List.setIfInBounds_toArray, List.set_cons_zero, List.set_cons_succ, List.getElem_toArray, List.getElem_cons_zero, List.getElem_cons_succ])
              refine till_ready (rs := [19]) (by kernel_rfl) (by simp) (TillReady.cons rfl (fun K hK => ?_) TillReady.nil)
              go_simp
              refine hK.out _ _ (fun h => by cases h) ?_
              clear hK K
              (try simp only [Act.put, List.setIfInBounds_toArray, List.set_cons_zero, List.set_cons_succ, List.getElem_toArray, List.getElem_cons_zero, List.getElem_cons_succ])
              refine till_ready (rs := [20]) (by kernel_rfl) (by simp) (TillReady.cons rfl (fun K hK => ?_) TillReady.nil)
              go_simp
              refine hK.out _ _ (fun h => by cases h) ?_
              clear hK K
              (try simp only [Act.put, List.setIfInBounds_toArray, List.set_cons_zero, List.set_cons_succ, List.getElem_toArray, List.getElem_cons_zero, List.getElem_cons_succ])
              have hf := frozen_of_row Y d 1 _ _ hy3
              have hc : Y.cell? ⟨d, 1, none⟩ = some v2 := by rw [cell_of_row _ _ _ _ _ _ hy3]; rfl
              refine till_ready (rs := [21]) (by kernel_rfl) (by simp) (TillReady.cons rfl (fun K hK => ?_) TillReady.nil)
              go_simp
              obtain ⟨r1, r2, r3, r4⟩ := nd_store (i := 1) HY1.out HY2.out hy3 (.slice a2 (Lk.length + 1) c2)
              have HZN : Hid (NDk _ d p (k + 1)) := Lib.hid ⟨.slice a1 (Lk.length + 1) c1, .slice a2 (Lk.length + 1) c2, r3, by rw [← HLN.out]; exact r1, by rw [← HLN.out]; exact r2, HSF.out, HO3.out, HO4.out⟩
              have HZB := Lib.hid (HY4.out.trans r4)
              refine hK.out _ _ (fun h => by cases h) ?_
              clear hK K hf hc r1 r2 r3 r4
              (try simp only [Act.put, List.setIfInBounds_toArray, List.set_cons_zero, List.set_cons_succ, List.getElem_toArray, List.getElem_cons_zero, List.getElem_cons_succ])
              refine till_done (by kernel_rfl) ?_ _
              go_wp2
              go_roundw
              case rel => exact ⟨k + 1, by omega, by go_num, HZN, HZB⟩
              case measure => simp [intOf]; omega
        · skip
          refine step_make256 rfl _ _ rfl rfl rfl ?_
          have bn := below_box W1 (.cells (Array.replicate 256 (.int .u8 0)) 5)
          have nn := heap_alloc_new W1 (.cells (Array.replicate 256 (.int .u8 0)) 5)
          have hd2 := (bn.block d (Array.getElem?_eq_some_iff.1 hd1).1).trans hd1
          have HR12 := Lib.hid (HR11.out.below bn)
          have HR22 := Lib.hid (HR21.out.below bn)
          have HBl2 := Lib.hid (HBl1.out.trans (bn.mono (Nat.le_trans (Nat.le_of_lt hdp) hp1)))
          have hp2 := Nat.le_trans hp1 bn.size
          have HA2 := Lib.hid (HA1.out.below bn)
          have HB2 := Lib.hid (belt_zero (B := 0) nn)
          obtain ⟨gb, hgg⟩ : ∃ g, g = W1.heap.size := ⟨_, rfl⟩
          rw [← hgg] at HB2 ⊢
          clear nn bn hgg
          generalize W1.alloc (.cells (Array.replicate 256 (.int .u8 0)) 5) = W2 at hd2 HR12 HR22 HBl2 hp2 HA2 HB2 ⊢
          refine hK.out _ _ (fun _ => ⟨by rw [cell_of_row _ _ _ _ _ _ hd2]; rfl, by rw [cell_of_row _ _ _ _ _ _ hd2]; rfl⟩) ?_
          clear hK K
          simp only [Act.put, List.setIfInBounds_toArray, List.set_cons_zero, List.set_cons_succ, List.getElem_toArray, List.getElem_cons_zero, List.getElem_cons_succ]
          refine till_ready (rs := [7, 14]) (by kernel_rfl) (by simp) (TillReady.cons rfl (fun K hK => ?_) (TillReady.cons rfl (fun K hK => ?_) TillReady.nil))
          · skip
            refine step_build1 rfl _ rfl (some ⟨ga, 0, none⟩) 256 256 rfl ?_
            have bn := below_box W2 (.cells #[.slice (some ⟨ga, 0, none⟩) 256 256] 40)
            have nn := heap_alloc_new W2 (.cells #[.slice (some ⟨ga, 0, none⟩) 256 256] 40)
            have hd3 := (bn.block d (Array.getElem?_eq_some_iff.1 hd2).1).trans hd2
            have HR13 := Lib.hid (HR12.out.below bn)
            have HR23 := Lib.hid (HR22.out.below bn)
            have HBl3 := Lib.hid (HBl2.out.trans (bn.mono (Nat.le_trans (Nat.le_of_lt hdp) hp2)))
            have hp3 := Nat.le_trans hp2 bn.size
            have HA3 := Lib.hid (HA2.out.below bn)
            have HB3 := Lib.hid (HB2.out.below bn)
            have hqa3 := nn
            obtain ⟨qa, hgg⟩ : ∃ g, g = W2.heap.size := ⟨_, rfl⟩
            rw [← hgg] at hqa3 ⊢
            clear nn bn hgg
            generalize W2.alloc (.cells #[.slice (some ⟨ga, 0, none⟩) 256 256] 40) = W3 at hd3 HR13 HR23 HBl3 hp3 HA3 HB3 hqa3 ⊢
            refine hK.out _ _ (fun _ => ⟨by rw [cell_of_row _ _ _ _ _ _ hd3]; rfl, by rw [cell_of_row _ _ _ _ _ _ hd3]; rfl⟩) ?_
            clear hK K
            simp only [Act.put, List.setIfInBounds_toArray, List.set_cons_zero, List.set_cons_succ, List.getElem_toArray, List.getElem_cons_zero, List.getElem_cons_succ]
            refine till_ready (rs := [8, 14]) (by kernel_rfl) (by simp) (TillReady.cons rfl (fun K hK => ?_) (TillReady.cons rfl (fun K hK => ?_) TillReady.nil))
            · skip
              refine step_append_one rfl _ _ rfl 0 v1 Lk rfl HR13.out _ zb HA3.out qa hqa3 rfl HL.out (Nat.zero_le _) ?_
              intro v1' W4 hv1 _ hg hor
              have hb : Below p W3 W4 := (Below.refl _ _).grown hg hp3 HO1.out
              have HO3 := Lib.hid (own_new HO1.out hor hp3)
              have hd4 := (hb.block d hdp).trans hd3
              have HR14 := Lib.hid hv1
              have HR24 := Lib.hid (HR23.out.grown HR13.out.rowOf (fun k hk => HSP.out k hk) hg)
              have HBl4 := Lib.hid (HBl3.out.trans (hb.mono (Nat.le_of_lt hdp)))
              have hp4 := Nat.le_trans hp3 hb.size
              have HSQ := Lib.hid (sep_new HSP.out hor HR23.out.lt)
              have HB4 := Lib.hid (HB3.out.grown HR13.out.rowOf hg)
              clear hv1 hb hg hor
              refine hK.out _ _ (fun _ => ⟨by rw [cell_of_row _ _ _ _ _ _ hd4]; rfl, by rw [cell_of_row _ _ _ _ _ _ hd4]; rfl⟩) ?_
              clear hK K
              simp only [Act.put, List.setIfInBounds_toArray, List.set_cons_zero, List.set_cons_succ, List.getElem_toArray, List.getElem_cons_zero, List.getElem_cons_succ]
              refine till_ready (rs := [14]) (by kernel_rfl) (by simp) (TillReady.cons rfl (fun K hK => ?_) TillReady.nil)
              refine step_build1 rfl _ rfl (some ⟨gb, 0, none⟩) 256 256 rfl ?_
              have bn := below_box W4 (.cells #[.slice (some ⟨gb, 0, none⟩) 256 256] 40)
              have nn := heap_alloc_new W4 (.cells #[.slice (some ⟨gb, 0, none⟩) 256 256] 40)
              have hd5 := (bn.block d (Array.getElem?_eq_some_iff.1 hd4).1).trans hd4
              have HR15 := Lib.hid (HR14.out.below bn)
              have HR25 := Lib.hid (HR24.out.below bn)
              have HBl5 := Lib.hid (HBl4.out.trans (bn.mono (Nat.le_trans (Nat.le_of_lt hdp) hp4)))
              have hp5 := Nat.le_trans hp4 bn.size
              have HB5 := Lib.hid (HB4.out.below bn)
              have hqb5 := nn
              obtain ⟨qb, hgg⟩ : ∃ g, g = W4.heap.size := ⟨_, rfl⟩
              rw [← hgg] at hqb5 ⊢
              clear nn bn hgg
              generalize W4.alloc (.cells #[.slice (some ⟨gb, 0, none⟩) 256 256] 40) = W5 at hd5 HR15 HR25 HBl5 hp5 HB5 hqb5 ⊢
              refine hK.out _ _ (fun _ => ⟨by rw [cell_of_row _ _ _ _ _ _ hd5]; rfl, by rw [cell_of_row _ _ _ _ _ _ hd5]; rfl⟩) ?_
              clear hK K
              simp only [Act.put, List.setIfInBounds_toArray, List.set_cons_zero, List.set_cons_succ, List.getElem_toArray, List.getElem_cons_zero, List.getElem_cons_succ]
              refine till_ready (rs := [15]) (by kernel_rfl) (by simp) (TillReady.cons rfl (fun K hK => ?_) TillReady.nil)
              refine step_append_one rfl _ _ rfl 0 v2 Lk rfl HR25.out _ zb HB5.out qb hqb5 rfl HL.out (Nat.zero_le _) ?_
              intro v2' W6 hv2 _ hg hor
              have hb : Below p W5 W6 := (Below.refl _ _).grown hg hp5 HO2.out
              have HO4 := Lib.hid (own_new HO2.out hor hp5)
              have hd6 := (hb.block d hdp).trans hd5
              have HR26 := Lib.hid hv2
              have HR16 := Lib.hid (HR15.out.grown HR25.out.rowOf (fun k hk h => HSQ.out k h hk) hg)
              have HBl6 := Lib.hid (HBl5.out.trans (hb.mono (Nat.le_of_lt hdp)))
              have hp6 := Nat.le_trans hp5 hb.size
              have HSF := Lib.hid (sep_new' HSQ.out hor HR15.out.lt)
              clear hv2 hb hg hor
              refine hK.out _ _ (fun _ => ⟨by rw [cell_of_row _ _ _ _ _ _ hd6]; rfl, by rw [cell_of_row _ _ _ _ _ _ hd6]; rfl⟩) ?_
              clear hK K
              simp only [Act.put, List.setIfInBounds_toArray, List.set_cons_zero, List.set_cons_succ, List.getElem_toArray, List.getElem_cons_zero, List.getElem_cons_succ]
              obtain ⟨a1, c1, rfl, _⟩ := HR16.out.sl.shape
              obtain ⟨a2, c2, rfl, _⟩ := HR26.out.sl.shape
              rw [show (Lk ++ [zb]).length = Lk.length + 1 by simp] at HR16 HR26 HO3 HO4 HSF ⊢
              refine till_ready (rs := [16]) (by kernel_rfl) (by simp) (TillReady.cons rfl (fun K hK => ?_) TillReady.nil)
              go_simp
              refine hK.out _ _ (fun _ => ⟨by rw [cell_of_row _ _ _ _ _ _ hd6]; rfl, by rw [cell_of_row _ _ _ _ _ _ hd6]; rfl⟩) ?_
              clear hK K
              (try simp only [Act.put, List.setIfInBounds_toArray, List.set_cons_zero, List.set_cons_succ, List.getElem_toArray, List.getElem_cons_zero, List.getElem_cons_succ])
              refine till_ready (rs := [17]) (by kernel_rfl) (by simp) (TillReady.cons rfl (fun K hK => ?_) TillReady.nil)
              go_simp
              refine hK.out _ _ (fun _ => ⟨by rw [cell_of_row _ _ _ _ _ _ hd6]; rfl, by rw [cell_of_row _ _ _ _ _ _ hd6]; rfl⟩) ?_
              clear hK K
              (try simp only [Act.put, List.setIfInBounds_toArray, List.set_cons_zero, List.set_cons_succ, List.getElem_toArray, List.getElem_cons_zero, List.getElem_cons_succ])
              have hf := frozen_of_row W6 d 0 _ _ hd6
              have hc : W6.cell? ⟨d, 0, none⟩ = some v1 := by rw [cell_of_row _ _ _ _ _ _ hd6]; rfl
              refine till_ready (rs := [18]) (by kernel_rfl) (by simp) (TillReady.cons rfl (fun K hK => ?_) TillReady.nil)
              go_simp
              obtain ⟨r1, r2, r3, r4⟩ := nd_store (i := 0) HR16.out HR26.out hd6 (.slice a1 (Lk.length + 1) c1)
              have HY1 := Lib.hid r1
              have HY2 := Lib.hid r2
              have hy3 : (W6.setCell ⟨d, 0, none⟩ (.slice a1 (Lk.length + 1) c1)).heap[d]? = some (.cells #[.slice a1 (Lk.length + 1) c1, v2, .slice none 0 0, .int .i64 (-1), .bool false] 55 (0, 0)) := r3
              have HY4 := Lib.hid (HBl6.out.trans r4)
              clear r1 r2 r3 r4 hf hc
              generalize W6.setCell ⟨d, 0, none⟩ (.slice a1 (Lk.length + 1) c1) = Y at HY1 HY2 hy3 HY4 ⊢
              refine hK.out _ _ (fun h => by cases h) ?_
              clear hK K
              (try simp only [Act.put, List.setIfInBounds_toArray, List.set_cons_zero, List.set_cons_succ, List.getElem_toArray, List.getElem_cons_zero, List.getElem_cons_succ])
              refine till_ready (rs := [19]) (by kernel_rfl) (by simp) (TillReady.cons rfl (fun K hK => ?_) TillReady.nil)
              go_simp
              refine hK.out _ _ (fun h => by cases h) ?_
              clear hK K
              (try simp only [Act.put, List.setIfInBounds_toArray, List.set_cons_zero, List.set_cons_succ, List.getElem_toArray, List.getElem_cons_zero, List.getElem_cons_succ])
              refine till_ready (rs := [20]) (by kernel_rfl) (by simp) (TillReady.cons rfl (fun K hK => ?_) TillReady.nil)
              go_simp
              refine hK.out _ _ (fun h => by cases h) ?_
              clear hK K
              (try simp only [Act.put, List.setIfInBounds_toArray, List.set_cons_zero, List.set_cons_succ, List.getElem_toArray, List.getElem_cons_zero, List.getElem_cons_succ])
              have hf := frozen_of_row Y d 1 _ _ hy3
              have hc : Y.cell? ⟨d, 1, none⟩ = some v2 := by rw [cell_of_row _ _ _ _ _ _ hy3]; rfl
              refine till_ready (rs := [21]) (by kernel_rfl) (by simp) (TillReady.cons rfl (fun K hK => ?_) TillReady.nil)
              go_simp
              obtain ⟨r1, r2, r3, r4⟩ := nd_store (i := 1) HY1.out HY2.out hy3 (.slice a2 (Lk.length + 1) c2)
              have HZN : Hid (NDk _ d p (k + 1)) := Lib.hid ⟨.slice a1 (Lk.length + 1) c1, .slice a2 (Lk.length + 1) c2, r3, by rw [← HLN.out]; exact r1, by rw [← HLN.out]; exact r2, HSF.out, HO3.out, HO4.out⟩
              have HZB := Lib.hid (HY4.out.trans r4)
              refine hK.out _ _ (fun h => by cases h) ?_
              clear hK K hf hc r1 r2 r3 r4
              (try simp only [Act.put, List.setIfInBounds_toArray, List.set_cons_zero, List.set_cons_succ, List.getElem_toArray, List.getElem_cons_zero, List.getElem_cons_succ])
              refine till_done (by kernel_rfl) ?_ _
              go_wp2
              go_roundw
              case rel => exact ⟨k + 1, by omega, by go_num, HZN, HZB⟩
              case measure => simp [intOf]; omega
            · skip
              refine step_build1 rfl _ rfl (some ⟨gb, 0, none⟩) 256 256 rfl ?_
              have bn := below_box W3 (.cells #[.slice (some ⟨gb, 0, none⟩) 256 256] 40)
              have nn := heap_alloc_new W3 (.cells #[.slice (some ⟨gb, 0, none⟩) 256 256] 40)
              have hd4 := (bn.block d (Array.getElem?_eq_some_iff.1 hd3).1).trans hd3
              have HR14 := Lib.hid (HR13.out.below bn)
              have HR24 := Lib.hid (HR23.out.below bn)
              have HBl4 := Lib.hid (HBl3.out.trans (bn.mono (Nat.le_trans (Nat.le_of_lt hdp) hp3)))
              have hp4 := Nat.le_trans hp3 bn.size
              have HA4 := Lib.hid (HA3.out.below bn)
              have hqa4 := (bn.block _ (Array.getElem?_eq_some_iff.1 hqa3).1).trans hqa3
              have HB4 := Lib.hid (HB3.out.below bn)
              have HNB := Lib.hid (fun k (hk : v1.ownBlock = some k) => Nat.ne_of_lt (HR13.out.lt k hk))
              have hqb4 := nn
              obtain ⟨qb, hgg⟩ : ∃ g, g = W3.heap.size := ⟨_, rfl⟩
              rw [← hgg] at hqb4 ⊢
              rw [← hgg] at HNB
              clear nn bn hgg
              generalize W3.alloc (.cells #[.slice (some ⟨gb, 0, none⟩) 256 256] 40) = W4 at hd4 HR14 HR24 HBl4 hp4 HA4 hqa4 HB4 hqb4 ⊢
              refine hK.out _ _ (fun _ => ⟨by rw [cell_of_row _ _ _ _ _ _ hd4]; rfl, by rw [cell_of_row _ _ _ _ _ _ hd4]; rfl⟩) ?_
              clear hK K
              simp only [Act.put, List.setIfInBounds_toArray, List.set_cons_zero, List.set_cons_succ, List.getElem_toArray, List.getElem_cons_zero, List.getElem_cons_succ]
              refine till_ready (rs := [8]) (by kernel_rfl) (by simp) (TillReady.cons rfl (fun K hK => ?_) TillReady.nil)
              refine step_append_one rfl _ _ rfl 0 v1 Lk rfl HR14.out _ zb HA4.out qa hqa4 rfl HL.out (Nat.zero_le _) ?_
              intro v1' W5 hv1 _ hg hor
              have hb : Below p W4 W5 := (Below.refl _ _).grown hg hp4 HO1.out
              have HO3 := Lib.hid (own_new HO1.out hor hp4)
              have hd5 := (hb.block d hdp).trans hd4
              have HR15 := Lib.hid hv1
              have HR25 := Lib.hid (HR24.out.grown HR14.out.rowOf (fun k hk => HSP.out k hk) hg)
              have HBl5 := Lib.hid (HBl4.out.trans (hb.mono (Nat.le_of_lt hdp)))
              have hp5 := Nat.le_trans hp4 hb.size
              have HSQ := Lib.hid (sep_new HSP.out hor HR24.out.lt)
              have HB5 := Lib.hid (HB4.out.grown HR14.out.rowOf hg)
              have hqb5 := (hg.block qb (Array.getElem?_eq_some_iff.1 hqb4).1 (fun h => HNB.out _ h.symm rfl)).trans hqb4
              clear hv1 hb hg hor
              refine hK.out _ _ (fun _ => ⟨by rw [cell_of_row _ _ _ _ _ _ hd5]; rfl, by rw [cell_of_row _ _ _ _ _ _ hd5]; rfl⟩) ?_
              clear hK K
              simp only [Act.put, List.setIfInBounds_toArray, List.set_cons_zero, List.set_cons_succ, List.getElem_toArray, List.getElem_cons_zero, List.getElem_cons_succ]
              refine till_ready (rs := [15]) (by kernel_rfl) (by simp) (TillReady.cons rfl (fun K hK => ?_) TillReady.nil)
              refine step_append_one rfl _ _ rfl 0 v2 Lk rfl HR25.out _ zb HB5.out qb hqb5 rfl HL.out (Nat.zero_le _) ?_
              intro v2' W6 hv2 _ hg hor
              have hb : Below p W5 W6 := (Below.refl _ _).grown hg hp5 HO2.out
              have HO4 := Lib.hid (own_new HO2.out hor hp5)
              have hd6 := (hb.block d hdp).trans hd5
              have HR26 := Lib.hid hv2
              have HR16 := Lib.hid (HR15.out.grown HR25.out.rowOf (fun k hk h => HSQ.out k h hk) hg)
              have HBl6 := Lib.hid (HBl5.out.trans (hb.mono (Nat.le_of_lt hdp)))
              have hp6 := Nat.le_trans hp5 hb.size
              have HSF := Lib.hid (sep_new' HSQ.out hor HR15.out.lt)
              clear hv2 hb hg hor
              refine hK.out _ _ (fun _ => ⟨by rw [cell_of_row _ _ _ _ _ _ hd6]; rfl, by rw [cell_of_row _ _ _ _ _ _ hd6]; rfl⟩) ?_
              clear hK K
              simp only [Act.put, List.setIfInBounds_toArray, List.set_cons_zero, List.set_cons_succ, List.getElem_toArray, List.getElem_cons_zero, List.getElem_cons_succ]
              obtain ⟨a1, c1, rfl, _⟩ := HR16.out.sl.shape
              obtain ⟨a2, c2, rfl, _⟩ := HR26.out.sl.shape
              rw [show (Lk ++ [zb]).length = Lk.length + 1 by simp] at HR16 HR26 HO3 HO4 HSF ⊢
              refine till_ready (rs := [16]) (by kernel_rfl) (by simp) (TillReady.cons rfl (fun K hK => ?_) TillReady.nil)
              go_simp
              refine hK.out _ _ (fun _ => ⟨by rw [cell_of_row _ _ _ _ _ _ hd6]; rfl, by rw [cell_of_row _ _ _ _ _ _ hd6]; rfl⟩) ?_
              clear hK K
              (try simp only [Act.put, List.setIfInBounds_toArray, List.set_cons_zero, List.set_cons_succ, List.getElem_toArray, List.getElem_cons_zero, List.getElem_cons_succ])
              refine till_ready (rs := [17]) (by kernel_rfl) (by simp) (TillReady.cons rfl (fun K hK => ?_) TillReady.nil)
              go_simp
              refine hK.out _ _ (fun _ => ⟨by rw [cell_of_row _ _ _ _ _ _ hd6]; rfl, by rw [cell_of_row _ _ _ _ _ _ hd6]; rfl⟩) ?_
              clear hK K
              (try simp only [Act.put, List.setIfInBounds_toArray, List.set_cons_zero, List.set_cons_succ, List.getElem_toArray, List.getElem_cons_zero, List.getElem_cons_succ])
              have hf := frozen_of_row W6 d 0 _ _ hd6
              have hc : W6.cell? ⟨d, 0, none⟩ = some v1 := by rw [cell_of_row _ _ _ _ _ _ hd6]; rfl
              refine till_ready (rs := [18]) (by kernel_rfl) (by simp) (TillReady.cons rfl (fun K hK => ?_) TillReady.nil)
              go_simp
              obtain ⟨r1, r2, r3, r4⟩ := nd_store (i := 0) HR16.out HR26.out hd6 (.slice a1 (Lk.length + 1) c1)
              have HY1 := Lib.hid r1
              have HY2 := Lib.hid r2
              have hy3 : (W6.setCell ⟨d, 0, none⟩ (.slice a1 (Lk.length + 1) c1)).heap[d]? = some (.cells #[.slice a1 (Lk.length + 1) c1, v2, .slice none 0 0, .int .i64 (-1), .bool false] 55 (0, 0)) := r3
              have HY4 := Lib.hid (HBl6.out.trans r4)
              clear r1 r2 r3 r4 hf hc
              generalize W6.setCell ⟨d, 0, none⟩ (.slice a1 (Lk.length + 1) c1) = Y at HY1 HY2 hy3 HY4 ⊢
              refine hK.out _ _ (fun h => by cases h) ?_
              clear hK K
              (try simp only [Act.put, List.setIfInBounds_toArray, List.set_cons_zero, List.set_cons_succ, List.getElem_toArray, List.getElem_cons_zero, List.getElem_cons_succ])
              refine till_ready (rs := [19]) (by kernel_rfl) (by simp) (TillReady.cons rfl (fun K hK => ?_) TillReady.nil)
              go_simp
              refine hK.out _ _ (fun h => by cases h) ?_
              clear hK K
              (try simp only [Act.put, List.setIfInBounds_toArray, List.set_cons_zero, List.set_cons_succ, List.getElem_toArray, List.getElem_cons_zero, List.getElem_cons_succ])
              refine till_ready (rs := [20]) (by kernel_rfl) (by simp) (TillReady.cons rfl (fun K hK => ?_) TillReady.nil)
              go_simp
              refine hK.out _ _ (fun h => by cases h) ?_
              clear hK K
              (try simp only [Act.put, List.setIfInBounds_toArray, List.set_cons_zero, List.set_cons_succ, List.getElem_toArray, List.getElem_cons_zero, List.getElem_cons_succ])
              have hf := frozen_of_row Y d 1 _ _ hy3
              have hc : Y.cell? ⟨d, 1, none⟩ = some v2 := by rw [cell_of_row _ _ _ _ _ _ hy3]; rfl
              refine till_ready (rs := [21]) (by kernel_rfl) (by simp) (TillReady.cons rfl (fun K hK => ?_) TillReady.nil)
              go_simp
              obtain ⟨r1, r2, r3, r4⟩ := nd_store (i := 1) HY1.out HY2.out hy3 (.slice a2 (Lk.length + 1) c2)
              have HZN : Hid (NDk _ d p (k + 1)) := Lib.hid ⟨.slice a1 (Lk.length + 1) c1, .slice a2 (Lk.length + 1) c2, r3, by rw [← HLN.out]; exact r1, by rw [← HLN.out]; exact r2, HSF.out, HO3.out, HO4.out⟩
              have HZB := Lib.hid (HY4.out.trans r4)
              refine hK.out _ _ (fun h => by cases h) ?_
              clear hK K hf hc r1 r2 r3 r4
              (try simp only [Act.put, List.setIfInBounds_toArray, List.set_cons_zero, List.set_cons_succ, List.getElem_toArray, List.getElem_cons_zero, List.getElem_cons_succ])
              refine till_done (by kernel_rfl) ?_ _
              go_wp2
              go_roundw
              case rel => exact ⟨k + 1, by omega, by go_num, HZN, HZB⟩
              case measure => simp [intOf]; omega
          · skip
            refine step_build1 rfl _ rfl (some ⟨gb, 0, none⟩) 256 256 rfl ?_
            have bn := below_box W2 (.cells #[.slice (some ⟨gb, 0, none⟩) 256 256] 40)
            have nn := heap_alloc_new W2 (.cells #[.slice (some ⟨gb, 0, none⟩) 256 256] 40)
            have hd3 := (bn.block d (Array.getElem?_eq_some_iff.1 hd2).1).trans hd2
            have HR13 := Lib.hid (HR12.out.below bn)
            have HR23 := Lib.hid (HR22.out.below bn)
            have HBl3 := Lib.hid (HBl2.out.trans (bn.mono (Nat.le_trans (Nat.le_of_lt hdp) hp2)))
            have hp3 := Nat.le_trans hp2 bn.size
            have HA3 := Lib.hid (HA2.out.below bn)
            have HB3 := Lib.hid (HB2.out.below bn)
            have HNB := Lib.hid (fun k (hk : v1.ownBlock = some k) => Nat.ne_of_lt (HR12.out.lt k hk))
            have hqb3 := nn
            obtain ⟨qb, hgg⟩ : ∃ g, g = W2.heap.size := ⟨_, rfl⟩
            rw [← hgg] at hqb3 ⊢
            rw [← hgg] at HNB
            clear nn bn hgg
            generalize W2.alloc (.cells #[.slice (some ⟨gb, 0, none⟩) 256 256] 40) = W3 at hd3 HR13 HR23 HBl3 hp3 HA3 HB3 hqb3 ⊢
            refine hK.out _ _ (fun _ => ⟨by rw [cell_of_row _ _ _ _ _ _ hd3]; rfl, by rw [cell_of_row _ _ _ _ _ _ hd3]; rfl⟩) ?_
            clear hK K
            simp only [Act.put, List.setIfInBounds_toArray, List.set_cons_zero, List.set_cons_succ, List.getElem_toArray, List.getElem_cons_zero, List.getElem_cons_succ]
            refine till_ready (rs := [7]) (by kernel_rfl) (by simp) (TillReady.cons rfl (fun K hK => ?_) TillReady.nil)
            refine step_build1 rfl _ rfl (some ⟨ga, 0, none⟩) 256 256 rfl ?_
            have bn := below_box W3 (.cells #[.slice (some ⟨ga, 0, none⟩) 256 256] 40)
            have nn := heap_alloc_new W3 (.cells #[.slice (some ⟨ga, 0, none⟩) 256 256] 40)
            have hd4 := (bn.block d (Array.getElem?_eq_some_iff.1 hd3).1).trans hd3
            have HR14 := Lib.hid (HR13.out.below bn)
            have HR24 := Lib.hid (HR23.out.below bn)
            have HBl4 := Lib.hid (HBl3.out.trans (bn.mono (Nat.le_trans (Nat.le_of_lt hdp) hp3)))
            have hp4 := Nat.le_trans hp3 bn.size
            have HA4 := Lib.hid (HA3.out.below bn)
            have HB4 := Lib.hid (HB3.out.below bn)
            have hqb4 := (bn.block _ (Array.getElem?_eq_some_iff.1 hqb3).1).trans hqb3
            have hqa4 := nn
            obtain ⟨qa, hgg⟩ : ∃ g, g = W3.heap.size := ⟨_, rfl⟩
            rw [← hgg] at hqa4 ⊢
            clear nn bn hgg
            generalize W3.alloc (.cells #[.slice (some ⟨ga, 0, none⟩) 256 256] 40) = W4 at hd4 HR14 HR24 HBl4 hp4 HA4 HB4 hqb4 hqa4 ⊢
            refine hK.out _ _ (fun _ => ⟨by rw [cell_of_row _ _ _ _ _ _ hd4]; rfl, by rw [cell_of_row _ _ _ _ _ _ hd4]; rfl⟩) ?_
            clear hK K
            simp only [Act.put, List.setIfInBounds_toArray, List.set_cons_zero, List.set_cons_succ, List.getElem_toArray, List.getElem_cons_zero, List.getElem_cons_succ]
            refine till_ready (rs := [8]) (by kernel_rfl) (by simp) (TillReady.cons rfl (fun K hK => ?_) TillReady.nil)
            refine step_append_one rfl _ _ rfl 0 v1 Lk rfl HR14.out _ zb HA4.out qa hqa4 rfl HL.out (Nat.zero_le _) ?_
            intro v1' W5 hv1 _ hg hor
            have hb : Below p W4 W5 := (Below.refl _ _).grown hg hp4 HO1.out
            have HO3 := Lib.hid (own_new HO1.out hor hp4)
            have hd5 := (hb.block d hdp).trans hd4
            have HR15 := Lib.hid hv1
            have HR25 := Lib.hid (HR24.out.grown HR14.out.rowOf (fun k hk => HSP.out k hk) hg)
            have HBl5 := Lib.hid (HBl4.out.trans (hb.mono (Nat.le_of_lt hdp)))
            have hp5 := Nat.le_trans hp4 hb.size
            have HSQ := Lib.hid (sep_new HSP.out hor HR24.out.lt)
            have HB5 := Lib.hid (HB4.out.grown HR14.out.rowOf hg)
            have hqb5 := (hg.block qb (Array.getElem?_eq_some_iff.1 hqb4).1 (fun h => HNB.out _ h.symm rfl)).trans hqb4
            clear hv1 hb hg hor
            refine hK.out _ _ (fun _ => ⟨by rw [cell_of_row _ _ _ _ _ _ hd5]; rfl, by rw [cell_of_row _ _ _ _ _ _ hd5]; rfl⟩) ?_
            clear hK K
            simp only [Act.put, List.setIfInBounds_toArray, List.set_cons_zero, List.set_cons_succ, List.getElem_toArray, List.getElem_cons_zero, List.getElem_cons_succ]
            refine till_ready (rs := [15]) (by kernel_rfl) (by simp) (TillReady.cons rfl (fun K hK => ?_) TillReady.nil)
            refine step_append_one rfl _ _ rfl 0 v2 Lk rfl HR25.out _ zb HB5.out qb hqb5 rfl HL.out (Nat.zero_le _) ?_
            intro v2' W6 hv2 _ hg hor
            have hb : Below p W5 W6 := (Below.refl _ _).grown hg hp5 HO2.out
            have HO4 := Lib.hid (own_new HO2.out hor hp5)
            have hd6 := (hb.block d hdp).trans hd5
            have HR26 := Lib.hid hv2
            have HR16 := Lib.hid (HR15.out.grown HR25.out.rowOf (fun k hk h => HSQ.out k h hk) hg)
            have HBl6 := Lib.hid (HBl5.out.trans (hb.mono (Nat.le_of_lt hdp)))
            have hp6 := Nat.le_trans hp5 hb.size
            have HSF := Lib.hid (sep_new' HSQ.out hor HR15.out.lt)
            clear hv2 hb hg hor
            refine hK.out _ _ (fun _ => ⟨by rw [cell_of_row _ _ _ _ _ _ hd6]; rfl, by rw [cell_of_row _ _ _ _ _ _ hd6]; rfl⟩) ?_
            clear hK K
            simp only [Act.put, List.setIfInBounds_toArray, List.set_cons_zero, List.set_cons_succ, List.getElem_toArray, List.getElem_cons_zero, List.getElem_cons_succ]
            obtain ⟨a1, c1, rfl, _⟩ := HR16.out.sl.shape
            obtain ⟨a2, c2, rfl, _⟩ := HR26.out.sl.shape
            rw [show (Lk ++ [zb]).length = Lk.length + 1 by simp] at HR16 HR26 HO3 HO4 HSF ⊢
            refine till_ready (rs := [16]) (by kernel_rfl) (by simp) (TillReady.cons rfl (fun K hK => ?_) TillReady.nil)
            go_simp
            refine hK.out _ _ (fun _ => ⟨by rw [cell_of_row _ _ _ _ _ _ hd6]; rfl, by rw [cell_of_row _ _ _ _ _ _ hd6]; rfl⟩) ?_
            clear hK K
            (try simp only [Act.put, List.setIfInBounds_toArray, List.set_cons_zero, List.set_cons_succ, List.getElem_toArray, List.getElem_cons_zero, List.getElem_cons_succ])
            refine till_ready (rs := [17]) (by kernel_rfl) (by simp) (TillReady.cons rfl (fun K hK => ?_) TillReady.nil)
            go_simp
            refine hK.out _ _ (fun _ => ⟨by rw [cell_of_row _ _ _ _ _ _ hd6]; rfl, by rw [cell_of_row _ _ _ _ _ _ hd6]; rfl⟩) ?_
            clear hK K
            (try simp only [Act.put, List.setIfInBounds_toArray, List.set_cons_zero, List.set_cons_succ, List.getElem_toArray, List.getElem_cons_zero, List.getElem_cons_succ])
            have hf := frozen_of_row W6 d 0 _ _ hd6
            have hc : W6.cell? ⟨d, 0, none⟩ = some v1 := by rw [cell_of_row _ _ _ _ _ _ hd6]; rfl
            refine till_ready (rs := [18]) (by kernel_rfl) (by simp) (TillReady.cons rfl (fun K hK => ?_) TillReady.nil)
            go_simp
            obtain ⟨r1, r2, r3, r4⟩ := nd_store (i := 0) HR16.out HR26.out hd6 (.slice a1 (Lk.length + 1) c1)
            have HY1 := Lib.hid r1
            have HY2 := Lib.hid r2
            have hy3 : (W6.setCell ⟨d, 0, none⟩ (.slice a1 (Lk.length + 1) c1)).heap[d]? = some (.cells #[.slice a1 (Lk.length + 1) c1, v2, .slice none 0 0, .int .i64 (-1), .bool false] 55 (0, 0)) := r3
            have HY4 := Lib.hid (HBl6.out.trans r4)
            clear r1 r2 r3 r4 hf hc
            generalize W6.setCell ⟨d, 0, none⟩ (.slice a1 (Lk.length + 1) c1) = Y at HY1 HY2 hy3 HY4 ⊢
            refine hK.out _ _ (fun h => by cases h) ?_
            clear hK K
            (try simp only [Act.put, List.setIfInBounds_toArray, List.set_cons_zero, List.set_cons_succ, List.getElem_toArray, List.getElem_cons_zero, List.getElem_cons_succ])
            refine till_ready (rs := [19]) (by kernel_rfl) (by simp) (TillReady.cons rfl (fun K hK => ?_) TillReady.nil)
            go_simp
            refine hK.out _ _ (fun h => by cases h) ?_
            clear hK K
            (try simp only [Act.put, List.setIfInBounds_toArray, List.set_cons_zero, List.set_cons_succ, List.getElem_toArray, List.getElem_cons_zero, List.getElem_cons_succ])
            refine till_ready (rs := [20]) (by kernel_rfl) (by simp) (TillReady.cons rfl (fun K hK => ?_) TillReady.nil)
            go_simp
            refine hK.out _ _ (fun h => by cases h) ?_
            clear hK K
            (try simp only [Act.put, List.setIfInBounds_toArray, List.set_cons_zero, List.set_cons_succ, List.getElem_toArray, List.getElem_cons_zero, List.getElem_cons_succ])
            have hf := frozen_of_row Y d 1 _ _ hy3
            have hc : Y.cell? ⟨d, 1, none⟩ = some v2 := by rw [cell_of_row _ _ _ _ _ _ hy3]; rfl
            refine till_ready (rs := [21]) (by kernel_rfl) (by simp) (TillReady.cons rfl (fun K hK => ?_) TillReady.nil)
            go_simp
            obtain ⟨r1, r2, r3, r4⟩ := nd_store (i := 1) HY1.out HY2.out hy3 (.slice a2 (Lk.length + 1) c2)
            have HZN : Hid (NDk _ d p (k + 1)) := Lib.hid ⟨.slice a1 (Lk.length + 1) c1, .slice a2 (Lk.length + 1) c2, r3, by rw [← HLN.out]; exact r1, by rw [← HLN.out]; exact r2, HSF.out, HO3.out, HO4.out⟩
            have HZB := Lib.hid (HY4.out.trans r4)
            refine hK.out _ _ (fun h => by cases h) ?_
            clear hK K hf hc r1 r2 r3 r4
            (try simp only [Act.put, List.setIfInBounds_toArray, List.set_cons_zero, List.set_cons_succ, List.getElem_toArray, List.getElem_cons_zero, List.getElem_cons_succ])
            refine till_done (by kernel_rfl) ?_ _
            go_wp2
            go_roundw
            case rel => exact ⟨k + 1, by omega, by go_num, HZN, HZB⟩
            case measure => simp [intOf]; omega
      · skip
        refine step_make256 rfl _ _ rfl rfl rfl ?_
        have bn := below_box W0 (.cells (Array.replicate 256 (.int .u8 0)) 5)
        have nn := heap_alloc_new W0 (.cells (Array.replicate 256 (.int .u8 0)) 5)
        have hd1 := (bn.block d (Array.getElem?_eq_some_iff.1 hd0).1).trans hd0
        have HR11 := Lib.hid (HR10.out.below bn)
        have HR21 := Lib.hid (HR20.out.below bn)
        have HBl1 := Lib.hid (HBl0.out.trans (bn.mono (Nat.le_trans (Nat.le_of_lt hdp) hp0)))
        have hp1 := Nat.le_trans hp0 bn.size
        have HB1 := Lib.hid (belt_zero (B := 0) nn)
        obtain ⟨gb, hgg⟩ : ∃ g, g = W0.heap.size := ⟨_, rfl⟩
        rw [← hgg] at HB1 ⊢
        clear nn bn hgg
        generalize W0.alloc (.cells (Array.replicate 256 (.int .u8 0)) 5) = W1 at hd1 HR11 HR21 HBl1 hp1 HB1 ⊢
        refine hK.out _ _ (fun _ => ⟨by rw [cell_of_row _ _ _ _ _ _ hd1]; rfl, by rw [cell_of_row _ _ _ _ _ _ hd1]; rfl⟩) ?_
        clear hK K
        simp only [Act.put, List.setIfInBounds_toArray, List.set_cons_zero, List.set_cons_succ, List.getElem_toArray, List.getElem_cons_zero, List.getElem_cons_succ]
        refine till_ready (rs := [6, 14]) (by kernel_rfl) (by simp) (TillReady.cons rfl (fun K hK => ?_) (TillReady.cons rfl (fun K hK => ?_) TillReady.nil))
        · skip
          refine step_make256 rfl _ _ rfl rfl rfl ?_
          have bn := below_box W1 (.cells (Array.replicate 256 (.int .u8 0)) 5)
          have nn := heap_alloc_new W1 (.cells (Array.replicate 256 (.int .u8 0)) 5)
          have hd2 := (bn.block d (Array.getElem?_eq_some_iff.1 hd1).1).trans hd1
          have HR12 := Lib.hid (HR11.out.below bn)
          have HR22 := Lib.hid (HR21.out.below bn)
          have HBl2 := Lib.hid (HBl1.out.trans (bn.mono (Nat.le_trans (Nat.le_of_lt hdp) hp1)))
          have hp2 := Nat.le_trans hp1 bn.size
          have HB2 := Lib.hid (HB1.out.below bn)
          have HA2 := Lib.hid (belt_zero (B := 0) nn)
          obtain ⟨ga, hgg⟩ : ∃ g, g = W1.heap.size := ⟨_, rfl⟩
          rw [← hgg] at HA2 ⊢
          clear nn bn hgg
          generalize W1.alloc (.cells (Array.replicate 256 (.int .u8 0)) 5) = W2 at hd2 HR12 HR22 HBl2 hp2 HB2 HA2 ⊢
          refine hK.out _ _ (fun _ => ⟨by rw [cell_of_row _ _ _ _ _ _ hd2]; rfl, by rw [cell_of_row _ _ _ _ _ _ hd2]; rfl⟩) ?_
          clear hK K
          simp only [Act.put, List.setIfInBounds_toArray, List.set_cons_zero, List.set_cons_succ, List.getElem_toArray, List.getElem_cons_zero, List.getElem_cons_succ]
          refine till_ready (rs := [7, 14]) (by kernel_rfl) (by simp) (TillReady.cons rfl (fun K hK => ?_) (TillReady.cons rfl (fun K hK => ?_) TillReady.nil))
          · skip
            refine step_build1 rfl _ rfl (some ⟨ga, 0, none⟩) 256 256 rfl ?_
            have bn := below_box W2 (.cells #[.slice (some ⟨ga, 0, none⟩) 256 256] 40)
            have nn := heap_alloc_new W2 (.cells #[.slice (some ⟨ga, 0, none⟩) 256 256] 40)
            have hd3 := (bn.block d (Array.getElem?_eq_some_iff.1 hd2).1).trans hd2
            have HR13 := Lib.hid (HR12.out.below bn)
            have HR23 := Lib.hid (HR22.out.below bn)
            have HBl3 := Lib.hid (HBl2.out.trans (bn.mono (Nat.le_trans (Nat.le_of_lt hdp) hp2)))
            have hp3 := Nat.le_trans hp2 bn.size
            have HA3 := Lib.hid (HA2.out.below bn)
            have HB3 := Lib.hid (HB2.out.below bn)
            have hqa3 := nn
            obtain ⟨qa, hgg⟩ : ∃ g, g = W2.heap.size := ⟨_, rfl⟩
            rw [← hgg] at hqa3 ⊢
            clear nn bn hgg
            generalize W2.alloc (.cells #[.slice (some ⟨ga, 0, none⟩) 256 256] 40) = W3 at hd3 HR13 HR23 HBl3 hp3 HA3 HB3 hqa3 ⊢
            refine hK.out _ _ (fun _ => ⟨by rw [cell_of_row _ _ _ _ _ _ hd3]; rfl, by rw [cell_of_row _ _ _ _ _ _ hd3]; rfl⟩) ?_
            clear hK K
            simp only [Act.put, List.setIfInBounds_toArray, List.set_cons_zero, List.set_cons_succ, List.getElem_toArray, List.getElem_cons_zero, List.getElem_cons_succ]
            refine till_ready (rs := [8, 14]) (by kernel_rfl) (by simp) (TillReady.cons rfl (fun K hK => ?_) (TillReady.cons rfl (fun K hK => ?_) TillReady.nil))
            · skip
              refine step_append_one rfl _ _ rfl 0 v1 Lk rfl HR13.out _ zb HA3.out qa hqa3 rfl HL.out (Nat.zero_le _) ?_
              intro v1' W4 hv1 _ hg hor
              have hb : Below p W3 W4 := (Below.refl _ _).grown hg hp3 HO1.out
              have HO3 := Lib.hid (own_new HO1.out hor hp3)
              have hd4 := (hb.block d hdp).trans hd3
              have HR14 := Lib.hid hv1
              have HR24 := Lib.hid (HR23.out.grown HR13.out.rowOf (fun k hk => HSP.out k hk) hg)
              have HBl4 := Lib.hid (HBl3.out.trans (hb.mono (Nat.le_of_lt hdp)))
              have hp4 := Nat.le_trans hp3 hb.size
              have HSQ := Lib.hid (sep_new HSP.out hor HR23.out.lt)
              have HB4 := Lib.hid (HB3.out.grown HR13.out.rowOf hg)
              clear hv1 hb hg hor
              refine hK.out _ _ (fun _ => ⟨by rw [cell_of_row _ _ _ _ _ _ hd4]; rfl, by rw [cell_of_row _ _ _ _ _ _ hd4]; rfl⟩) ?_
              clear hK K
              simp only [Act.put, List.setIfInBounds_toArray, List.set_cons_zero, List.set_cons_succ, List.getElem_toArray, List.getElem_cons_zero, List.getElem_cons_succ]
              refine till_ready (rs := [14]) (by kernel_rfl) (by simp) (TillReady.cons rfl (fun K hK => ?_) TillReady.nil)
              refine step_build1 rfl _ rfl (some ⟨gb, 0, none⟩) 256 256 rfl ?_
              have bn := below_box W4 (.cells #[.slice (some ⟨gb, 0, none⟩) 256 256] 40)
              have nn := heap_alloc_new W4 (.cells #[.slice (some ⟨gb, 0, none⟩) 256 256] 40)
              have hd5 := (bn.block d (Array.getElem?_eq_some_iff.1 hd4).1).trans hd4
              have HR15 := Lib.hid (HR14.out.below bn)
              have HR25 := Lib.hid (HR24.out.below bn)
              have HBl5 := Lib.hid (HBl4.out.trans (bn.mono (Nat.le_trans (Nat.le_of_lt hdp) hp4)))
              have hp5 := Nat.le_trans hp4 bn.size
              have HB5 := Lib.hid (HB4.out.below bn)
              have hqb5 := nn
              obtain ⟨qb, hgg⟩ : ∃ g, g = W4.heap.size := ⟨_, rfl⟩
              rw [← hgg] at hqb5 ⊢
              clear nn bn hgg
              generalize W4.alloc (.cells #[.slice (some ⟨gb, 0, none⟩) 256 256] 40) = W5 at hd5 HR15 HR25 HBl5 hp5 HB5 hqb5 ⊢
              refine hK.out _ _ (fun _ => ⟨by rw [cell_of_row _ _ _ _ _ _ hd5]; rfl, by rw [cell_of_row _ _ _ _ _ _ hd5]; rfl⟩) ?_
              clear hK K
              simp only [Act.put, List.setIfInBounds_toArray, List.set_cons_zero, List.set_cons_succ, List.getElem_toArray, List.getElem_cons_zero, List.getElem_cons_succ]
              refine till_ready (rs := [15]) (by kernel_rfl) (by simp) (TillReady.cons rfl (fun K hK => ?_) TillReady.nil)
              refine step_append_one rfl _ _ rfl 0 v2 Lk rfl HR25.out _ zb HB5.out qb hqb5 rfl HL.out (Nat.zero_le _) ?_
              intro v2' W6 hv2 _ hg hor
              have hb : Below p W5 W6 := (Below.refl _ _).grown hg hp5 HO2.out
              have HO4 := Lib.hid (own_new HO2.out hor hp5)
              have hd6 := (hb.block d hdp).trans hd5
              have HR26 := Lib.hid hv2
              have HR16 := Lib.hid (HR15.out.grown HR25.out.rowOf (fun k hk h => HSQ.out k h hk) hg)
              have HBl6 := Lib.hid (HBl5.out.trans (hb.mono (Nat.le_of_lt hdp)))
              have hp6 := Nat.le_trans hp5 hb.size
              have HSF := Lib.hid (sep_new' HSQ.out hor HR15.out.lt)
              clear hv2 hb hg hor
              refine hK.out _ _ (fun _ => ⟨by rw [cell_of_row _ _ _ _ _ _ hd6]; rfl, by rw [cell_of_row _ _ _ _ _ _ hd6]; rfl⟩) ?_
              clear hK K
              simp only [Act.put, List.setIfInBounds_toArray, List.set_cons_zero, List.set_cons_succ, List.getElem_toArray, List.getElem_cons_zero, List.getElem_cons_succ]
              obtain ⟨a1, c1, rfl, _⟩ := HR16.out.sl.shape
              obtain ⟨a2, c2, rfl, _⟩ := HR26.out.sl.shape
              rw [show (Lk ++ [zb]).length = Lk.length + 1 by simp] at HR16 HR26 HO3 HO4 HSF ⊢
              refine till_ready (rs := [16]) (by kernel_rfl) (by simp) (TillReady.cons rfl (fun K hK => ?_) TillReady.nil)
              go_simp
              refine hK.out _ _ (fun _ => ⟨by rw [cell_of_row _ _ _ _ _ _ hd6]; rfl, by rw [cell_of_row _ _ _ _ _ _ hd6]; rfl⟩) ?_
              clear hK K
              (try simp only [Act.put, List.setIfInBounds_toArray, List.set_cons_zero, List.set_cons_succ, List.getElem_toArray, List.getElem_cons_zero, List.getElem_cons_succ])
              refine till_ready (rs := [17]) (by kernel_rfl) (by simp) (TillReady.cons rfl (fun K hK => ?_) TillReady.nil)
              go_simp
              refine hK.out _ _ (fun _ => ⟨by rw [cell_of_row _ _ _ _ _ _ hd6]; rfl, by rw [cell_of_row _ _ _ _ _ _ hd6]; rfl⟩) ?_
              clear hK K
              (try simp only [Act.put, List.setIfInBounds_toArray, List.set_cons_zero, List.set_cons_succ, List.getElem_toArray, List.getElem_cons_zero, List.getElem_cons_succ])
              have hf := frozen_of_row W6 d 0 _ _ hd6
              have hc : W6.cell? ⟨d, 0, none⟩ = some v1 := by rw [cell_of_row _ _ _ _ _ _ hd6]; rfl
              refine till_ready (rs := [18]) (by kernel_rfl) (by simp) (TillReady.cons rfl (fun K hK => ?_) TillReady.nil)
              go_simp
              obtain ⟨r1, r2, r3, r4⟩ := nd_store (i := 0) HR16.out HR26.out hd6 (.slice a1 (Lk.length + 1) c1)
              have HY1 := Lib.hid r1
              have HY2 := Lib.hid r2
              have hy3 : (W6.setCell ⟨d, 0, none⟩ (.slice a1 (Lk.length + 1) c1)).heap[d]? = some (.cells #[.slice a1 (Lk.length + 1) c1, v2, .slice none 0 0, .int .i64 (-1), .bool false] 55 (0, 0)) := r3
              have HY4 := Lib.hid (HBl6.out.trans r4)
              clear r1 r2 r3 r4 hf hc
              generalize W6.setCell ⟨d, 0, none⟩ (.slice a1 (Lk.length + 1) c1) = Y at HY1 HY2 hy3 HY4 ⊢
              refine hK.out _ _ (fun h => by cases h) ?_
              clear hK K
              (try simp only [Act.put, List.setIfInBounds_toArray, List.set_cons_zero, List.set_cons_succ, List.getElem_toArray, List.getElem_cons_zero, List.getElem_cons_succ])
              refine till_ready (rs := [19]) (by kernel_rfl) (by simp) (TillReady.cons rfl (fun K hK => ?_) TillReady.nil)
              go_simp
              refine hK.out _ _ (fun h => by cases h) ?_
              clear hK K
              (try simp only [Act.put, List.setIfInBounds_toArray, List.set_cons_zero, List.set_cons_succ, List.getElem_toArray, List.getElem_cons_zero, List.getElem_cons_succ])
              refine till_ready (rs := [20]) (by kernel_rfl) (by simp) (TillReady.cons rfl (fun K hK => ?_) TillReady.nil)
              go_simp
              refine hK.out _ _ (fun h => by cases h) ?_
              clear hK K
              (try simp only [Act.put, List.setIfInBounds_toArray, List.set_cons_zero, List.set_cons_succ, List.getElem_toArray, List.getElem_cons_zero, List.getElem_cons_succ])
              have hf := frozen_of_row Y d 1 _ _ hy3
              have hc : Y.cell? ⟨d, 1, none⟩ = some v2 := by rw [cell_of_row _ _ _ _ _ _ hy3]; rfl
              refine till_ready (rs := [21]) (by kernel_rfl) (by simp) (TillReady.cons rfl (fun K hK => ?_) TillReady.nil)
              go_simp
              obtain ⟨r1, r2, r3, r4⟩ := nd_store (i := 1) HY1.out HY2.out hy3 (.slice a2 (Lk.length + 1) c2)
              have HZN : Hid (NDk _ d p (k + 1)) := Lib.hid ⟨.slice a1 (Lk.length + 1) c1, .slice a2 (Lk.length + 1) c2, r3, by rw [← HLN.out]; exact r1, by rw [← HLN.out]; exact r2, HSF.out, HO3.out, HO4.out⟩
              have HZB := Lib.hid (HY4.out.trans r4)
              refine hK.out _ _ (fun h => by cases h) ?_
              clear hK K hf hc r1 r2 r3 r4
              (try simp only [Act.put, List.setIfInBounds_toArray, List.set_cons_zero, List.set_cons_succ, List.getElem_toArray, List.getElem_cons_zero, List.getElem_cons_succ])
              refine till_done (by kernel_rfl) ?_ _
              go_wp2
              go_roundw
              case rel => exact ⟨k + 1, by omega, by go_num, HZN, HZB⟩
              case measure => simp [intOf]; omega
            · skip
              refine step_build1 rfl _ rfl (some ⟨gb, 0, none⟩) 256 256 rfl ?_
              have bn := below_box W3 (.cells #[.slice (some ⟨gb, 0, none⟩) 256 256] 40)
              have nn := heap_alloc_new W3 (.cells #[.slice (some ⟨gb, 0, none⟩) 256 256] 40)
              have hd4 := (bn.block d (Array.getElem?_eq_some_iff.1 hd3).1).trans hd3
              have HR14 := Lib.hid (HR13.out.below bn)
              have HR24 := Lib.hid (HR23.out.below bn)
              have HBl4 := Lib.hid (HBl3.out.trans (bn.mono (Nat.le_trans (Nat.le_of_lt hdp) hp3)))
              have hp4 := Nat.le_trans hp3 bn.size
              have HA4 := Lib.hid (HA3.out.below bn)
              have hqa4 := (bn.block _ (Array.getElem?_eq_some_iff.1 hqa3).1).trans hqa3
              have HB4 := Lib.hid (HB3.out.below bn)
              have HNB := Lib.hid (fun k (hk : v1.ownBlock = some k) => Nat.ne_of_lt (HR13.out.lt k hk))
              have hqb4 := nn
              obtain ⟨qb, hgg⟩ : ∃ g, g = W3.heap.size := ⟨_, rfl⟩
              rw [← hgg] at hqb4 ⊢
              rw [← hgg] at HNB
              clear nn bn hgg
              generalize W3.alloc (.cells #[.slice (some ⟨gb, 0, none⟩) 256 256] 40) = W4 at hd4 HR14 HR24 HBl4 hp4 HA4 hqa4 HB4 hqb4 ⊢
              refine hK.out _ _ (fun _ => ⟨by rw [cell_of_row _ _ _ _ _ _ hd4]; rfl, by rw [cell_of_row _ _ _ _ _ _ hd4]; rfl⟩) ?_
              clear hK K
              simp only [Act.put, List.setIfInBounds_toArray, List.set_cons_zero, List.set_cons_succ, List.getElem_toArray, List.getElem_cons_zero, List.getElem_cons_succ]
              refine till_ready (rs := [8]) (by kernel_rfl) (by simp) (TillReady.cons rfl (fun K hK => ?_) TillReady.nil)
              refine step_append_one rfl _ _ rfl 0 v1 Lk rfl HR14.out _ zb HA4.out qa hqa4 rfl HL.out (Nat.zero_le _) ?_
              intro v1' W5 hv1 _ hg hor
              have hb : Below p W4 W5 := (Below.refl _ _).grown hg hp4 HO1.out
              have HO3 := Lib.hid (own_new HO1.out hor hp4)
              have hd5 := (hb.block d hdp).trans hd4
              have HR15 := Lib.hid hv1
              have HR25 := Lib.hid (HR24.out.grown HR14.out.rowOf (fun k hk => HSP.out k hk) hg)
              have HBl5 := Lib.hid (HBl4.out.trans (hb.mono (Nat.le_of_lt hdp)))
              have hp5 := Nat.le_trans hp4 hb.size
              have HSQ := Lib.hid (sep_new HSP.out hor HR24.out.lt)
              have HB5 := Lib.hid (HB4.out.grown HR14.out.rowOf hg)
              have hqb5 := (hg.block qb (Array.getElem?_eq_some_iff.1 hqb4).1 (fun h => HNB.out _ h.symm rfl)).trans hqb4
              clear hv1 hb hg hor
              refine hK.out _ _ (fun _ => ⟨by rw [cell_of_row _ _ _ _ _ _ hd5]; rfl, by rw [cell_of_row _ _ _ _ _ _ hd5]; rfl⟩) ?_
              clear hK K
              simp only [Act.put, List.setIfInBounds_toArray, List.set_cons_zero, List.set_cons_succ, List.getElem_toArray, List.getElem_cons_zero, List.getElem_cons_succ]
              refine till_ready (rs := [15]) (by kernel_rfl) (by simp) (TillReady.cons rfl (fun K hK => ?_) TillReady.nil)
              refine step_append_one rfl _ _ rfl 0 v2 Lk rfl HR25.out _ zb HB5.out qb hqb5 rfl HL.out (Nat.zero_le _) ?_
              intro v2' W6 hv2 _ hg hor
              have hb : Below p W5 W6 := (Below.refl _ _).grown hg hp5 HO2.out
              have HO4 := Lib.hid (own_new HO2.out hor hp5)
              have hd6 := (hb.block d hdp).trans hd5
              have HR26 := Lib.hid hv2
              have HR16 := Lib.hid (HR15.out.grown HR25.out.rowOf (fun k hk h => HSQ.out k h hk) hg)
              have HBl6 := Lib.hid (HBl5.out.trans (hb.mono (Nat.le_of_lt hdp)))
              have hp6 := Nat.le_trans hp5 hb.size
              have HSF := Lib.hid (sep_new' HSQ.out hor HR15.out.lt)
              clear hv2 hb hg hor
              refine hK.out _ _ (fun _ => ⟨by rw [cell_of_row _ _ _ _ _ _ hd6]; rfl, by rw [cell_of_row _ _ _ _ _ _ hd6]; rfl⟩) ?_
              clear hK K
              simp only [Act.put, List.setIfInBounds_toArray, List.set_cons_zero, List.set_cons_succ, List.getElem_toArray, List.getElem_cons_zero, List.getElem_cons_succ]
              obtain ⟨a1, c1, rfl, _⟩ := HR16.out.sl.shape
              obtain ⟨a2, c2, rfl, _⟩ := HR26.out.sl.shape
              rw [show (Lk ++ [zb]).length = Lk.length + 1 by simp] at HR16 HR26 HO3 HO4 HSF ⊢
              refine till_ready (rs := [16]) (by kernel_rfl) (by simp) (TillReady.cons rfl (fun K hK => ?_) TillReady.nil)
              go_simp
              refine hK.out _ _ (fun _ => ⟨by rw [cell_of_row _ _ _ _ _ _ hd6]; rfl, by rw [cell_of_row _ _ _ _ _ _ hd6]; rfl⟩) ?_
              clear hK K
              (try simp only [Act.put, List.setIfInBounds_toArray, List.set_cons_zero, List.set_cons_succ, List.getElem_toArray, List.getElem_cons_zero, List.getElem_cons_succ])
              refine till_ready (rs := [17]) (by kernel_rfl) (by simp) (TillReady.cons rfl (fun K hK => ?_) TillReady.nil)
              go_simp
              refine hK.out _ _ (fun _ => ⟨by rw [cell_of_row _ _ _ _ _ _ hd6]; rfl, by rw [cell_of_row _ _ _ _ _ _ hd6]; rfl⟩) ?_
              clear hK K
              (try simp only [Act.put, List.setIfInBounds_toArray, List.set_cons_zero, List.set_cons_succ, List.getElem_toArray, List.getElem_cons_zero, List.getElem_cons_succ])
              have hf := frozen_of_row W6 d 0 _ _ hd6
              have hc : W6.cell? ⟨d, 0, none⟩ = some v1 := by rw [cell_of_row _ _ _ _ _ _ hd6]; rfl
              refine till_ready (rs := [18]) (by kernel_rfl) (by simp) (TillReady.cons rfl (fun K hK => ?_) TillReady.nil)
              go_simp
              obtain ⟨r1, r2, r3, r4⟩ := nd_store (i := 0) HR16.out HR26.out hd6 (.slice a1 (Lk.length + 1) c1)
              have HY1 := Lib.hid r1
              have HY2 := Lib.hid r2
              have hy3 : (W6.setCell ⟨d, 0, none⟩ (.slice a1 (Lk.length + 1) c1)).heap[d]? = some (.cells #[.slice a1 (Lk.length + 1) c1, v2, .slice none 0 0, .int .i64 (-1), .bool false] 55 (0, 0)) := r3
              have HY4 := Lib.hid (HBl6.out.trans r4)
              clear r1 r2 r3 r4 hf hc
              generalize W6.setCell ⟨d, 0, none⟩ (.slice a1 (Lk.length + 1) c1) = Y at HY1 HY2 hy3 HY4 ⊢
              refine hK.out _ _ (fun h => by cases h) ?_
              clear hK K
              (try simp only [Act.put, List.setIfInBounds_toArray, List.set_cons_zero, List.set_cons_succ, List.getElem_toArray, List.getElem_cons_zero, List.getElem_cons_succ])
              refine till_ready (rs := [19]) (by kernel_rfl) (by simp) (TillReady.cons rfl (fun K hK => ?_) TillReady.nil)
              go_simp
              refine hK.out _ _ (fun h => by cases h) ?_
              clear hK K
              (try simp only [Act.put, List.setIfInBounds_toArray, List.set_cons_zero, List.set_cons_succ, List.getElem_toArray, List.getElem_cons_zero, List.getElem_cons_succ])
              refine till_ready (rs := [20]) (by kernel_rfl) (by simp) (TillReady.cons rfl (fun K hK => ?_) TillReady.nil)
              go_simp
              refine hK.out _ _ (fun h => by cases h) ?_
              clear hK K
              (try simp only [Act.put, List.setIfInBounds_toArray, List.set_cons_zero, List.set_cons_succ, List.getElem_toArray, List.getElem_cons_zero, List.getElem_cons_succ])
              have hf := frozen_of_row Y d 1 _ _ hy3
              have hc : Y.cell? ⟨d, 1, none⟩ = some v2 := by rw [cell_of_row _ _ _ _ _ _ hy3]; rfl
              refine till_ready (rs := [21]) (by kernel_rfl) (by simp) (TillReady.cons rfl (fun K hK => ?_) TillReady.nil)
              go_simp
              obtain ⟨r1, r2, r3, r4⟩ := nd_store (i := 1) HY1.out HY2.out hy3 (.slice a2 (Lk.length + 1) c2)
              have HZN : Hid (NDk _ d p (k + 1)) := Lib.hid ⟨.slice a1 (Lk.length + 1) c1, .slice a2 (Lk.length + 1) c2, r3, by rw [← HLN.out]; exact r1, by rw [← HLN.out]; exact r2, HSF.out, HO3.out, HO4.out⟩
              have HZB := Lib.hid (HY4.out.trans r4)
              refine hK.out _ _ (fun h => by cases h) ?_
              clear hK K hf hc r1 r2 r3 r4
              (try simp only [Act.put, List.setIfInBounds_toArray, List.set_cons_zero, List.set_cons_succ, List.getElem_toArray, List.getElem_cons_zero, List.getElem_cons_succ])
              refine till_done (by kernel_rfl) ?_ _
              go_wp2
              go_roundw
              case rel => exact ⟨k + 1, by omega, by go_num, HZN, HZB⟩
              case measure => simp [intOf]; omega
          · skip
            refine step_build1 rfl _ rfl (some ⟨gb, 0, none⟩) 256 256 rfl ?_
            have bn := below_box W2 (.cells #[.slice (some ⟨gb, 0, none⟩) 256 256] 40)
            have nn := heap_alloc_new W2 (.cells #[.slice (some ⟨gb, 0, none⟩) 256 256] 40)
            have hd3 := (bn.block d (Array.getElem?_eq_some_iff.1 hd2).1).trans hd2
            have HR13 := Lib.hid (HR12.out.below bn)
            have HR23 := Lib.hid (HR22.out.below bn)
            have HBl3 := Lib.hid (HBl2.out.trans (bn.mono (Nat.le_trans (Nat.le_of_lt hdp) hp2)))
            have hp3 := Nat.le_trans hp2 bn.size
            have HA3 := Lib.hid (HA2.out.below bn)
            have HB3 := Lib.hid (HB2.out.below bn)
            have HNB := Lib.hid (fun k (hk : v1.ownBlock = some k) => Nat.ne_of_lt (HR12.out.lt k hk))
            have hqb3 := nn
            obtain ⟨qb, hgg⟩ : ∃ g, g = W2.heap.size := ⟨_, rfl⟩
            rw [← hgg] at hqb3 ⊢
            rw [← hgg] at HNB
            clear nn bn hgg
            generalize W2.alloc (.cells #[.slice (some ⟨gb, 0, none⟩) 256 256] 40) = W3 at hd3 HR13 HR23 HBl3 hp3 HA3 HB3 hqb3 ⊢
            refine hK.out _ _ (fun _ => ⟨by rw [cell_of_row _ _ _ _ _ _ hd3]; rfl, by rw [cell_of_row _ _ _ _ _ _ hd3]; rfl⟩) ?_
            clear hK K
            simp only [Act.put, List.setIfInBounds_toArray, List.set_cons_zero, List.set_cons_succ, List.getElem_toArray, List.getElem_cons_zero, List.getElem_cons_succ]
            refine till_ready (rs := [7]) (by kernel_rfl) (by simp) (TillReady.cons rfl (fun K hK => ?_) TillReady.nil)
            refine step_build1 rfl _ rfl (some ⟨ga, 0, none⟩) 256 256 rfl ?_
            have bn := below_box W3 (.cells #[.slice (some ⟨ga, 0, none⟩) 256 256] 40)
            have nn := heap_alloc_new W3 (.cells #[.slice (some ⟨ga, 0, none⟩) 256 256] 40)
            have hd4 := (bn.block d (Array.getElem?_eq_some_iff.1 hd3).1).trans hd3
            have HR14 := Lib.hid (HR13.out.below bn)
            have HR24 := Lib.hid (HR23.out.below bn)
            have HBl4 := Lib.hid (HBl3.out.trans (bn.mono (Nat.le_trans (Nat.le_of_lt hdp) hp3)))
            have hp4 := Nat.le_trans hp3 bn.size
            have HA4 := Lib.hid (HA3.out.below bn)
            have HB4 := Lib.hid (HB3.out.below bn)
            have hqb4 := (bn.block _ (Array.getElem?_eq_some_iff.1 hqb3).1).trans hqb3
            have hqa4 := nn
            obtain ⟨qa, hgg⟩ : ∃ g, g = W3.heap.size := ⟨_, rfl⟩
            rw [← hgg] at hqa4 ⊢
            clear nn bn hgg
            generalize W3.alloc (.cells #[.slice (some ⟨ga, 0, none⟩) 256 256] 40) = W4 at hd4 HR14 HR24 HBl4 hp4 HA4 HB4 hqb4 hqa4 ⊢
            refine hK.out _ _ (fun _ => ⟨by rw [cell_of_row _ _ _ _ _ _ hd4]; rfl, by rw [cell_of_row _ _ _ _ _ _ hd4]; rfl⟩) ?_
            clear hK K
            simp only [Act.put, List.setIfInBounds_toArray, List.set_cons_zero, List.set_cons_succ, List.getElem_toArray, List.getElem_cons_zero, List.getElem_cons_succ]
            refine till_ready (rs := [8]) (by kernel_rfl) (by simp) (TillReady.cons rfl (fun K hK => ?_) TillReady.nil)
            refine step_append_one rfl _ _ rfl 0 v1 Lk rfl HR14.out _ zb HA4.out qa hqa4 rfl HL.out (Nat.zero_le _) ?_
            intro v1' W5 hv1 _ hg hor
            have hb : Below p W4 W5 := (Below.refl _ _).grown hg hp4 HO1.out
            have HO3 := Lib.hid (own_new HO1.out hor hp4)
            have hd5 := (hb.block d hdp).trans hd4
            have HR15 := Lib.hid hv1
            have HR25 := Lib.hid (HR24.out.grown HR14.out.rowOf (fun k hk => HSP.out k hk) hg)
            have HBl5 := Lib.hid (HBl4.out.trans (hb.mono (Nat.le_of_lt hdp)))
            have hp5 := Nat.le_trans hp4 hb.size
            have HSQ := Lib.hid (sep_new HSP.out hor HR24.out.lt)
            have HB5 := Lib.hid (HB4.out.grown HR14.out.rowOf hg)
            have hqb5 := (hg.block qb (Array.getElem?_eq_some_iff.1 hqb4).1 (fun h => HNB.out _ h.symm rfl)).trans hqb4
            clear hv1 hb hg hor
            refine hK.out _ _ (fun _ => ⟨by rw [cell_of_row _ _ _ _ _ _ hd5]; rfl, by rw [cell_of_row _ _ _ _ _ _ hd5]; rfl⟩) ?_
            clear hK K
            simp only [Act.put, List.setIfInBounds_toArray, List.set_cons_zero, List.set_cons_succ, List.getElem_toArray, List.getElem_cons_zero, List.getElem_cons_succ]
            refine till_ready (rs := [15]) (by kernel_rfl) (by simp) (TillReady.cons rfl (fun K hK => ?_) TillReady.nil)
            refine step_append_one rfl _ _ rfl 0 v2 Lk rfl HR25.out _ zb HB5.out qb hqb5 rfl HL.out (Nat.zero_le _) ?_
            intro v2' W6 hv2 _ hg hor
            have hb : Below p W5 W6 := (Below.refl _ _).grown hg hp5 HO2.out
            have HO4 := Lib.hid (own_new HO2.out hor hp5)
            have hd6 := (hb.block d hdp).trans hd5
            have HR26 := Lib.hid hv2
            have HR16 := Lib.hid (HR15.out.grown HR25.out.rowOf (fun k hk h => HSQ.out k h hk) hg)
            have HBl6 := Lib.hid (HBl5.out.trans (hb.mono (Nat.le_of_lt hdp)))
            have hp6 := Nat.le_trans hp5 hb.size
            have HSF := Lib.hid (sep_new' HSQ.out hor HR15.out.lt)
            clear hv2 hb hg hor
            refine hK.out _ _ (fun _ => ⟨by rw [cell_of_row _ _ _ _ _ _ hd6]; rfl, by rw [cell_of_row _ _ _ _ _ _ hd6]; rfl⟩) ?_
            clear hK K
            simp only [Act.put, List.setIfInBounds_toArray, List.set_cons_zero, List.set_cons_succ, List.getElem_toArray, List.getElem_cons_zero, List.getElem_cons_succ]
            obtain ⟨a1, c1, rfl, _⟩ := HR16.out.sl.shape
            obtain ⟨a2, c2, rfl, _⟩ := HR26.out.sl.shape
            rw [show (Lk ++ [zb]).length = Lk.length + 1 by simp] at HR16 HR26 HO3 HO4 HSF ⊢
            refine till_ready (rs := [16]) (by kernel_rfl) (by simp) (TillReady.cons rfl (fun K hK => ?_) TillReady.nil)
            go_simp
            refine hK.out _ _ (fun _ => ⟨by rw [cell_of_row _ _ _ _ _ _ hd6]; rfl, by rw [cell_of_row _ _ _ _ _ _ hd6]; rfl⟩) ?_
            clear hK K
            (try simp only [Act.put, List.setIfInBounds_toArray, List.set_cons_zero, List.set_cons_succ, List.getElem_toArray, List.getElem_cons_zero, List.getElem_cons_succ])
            refine till_ready (rs := [17]) (by kernel_rfl) (by simp) (TillReady.cons rfl (fun K hK => ?_) TillReady.nil)
            go_simp
            refine hK.out _ _ (fun _ => ⟨by rw [cell_of_row _ _ _ _ _ _ hd6]; rfl, by rw [cell_of_row _ _ _ _ _ _ hd6]; rfl⟩) ?_
            clear hK K
            (try simp only [Act.put, List.setIfInBounds_toArray, List.set_cons_zero, List.set_cons_succ, List.getElem_toArray, List.getElem_cons_zero, List.getElem_cons_succ])
            have hf := frozen_of_row W6 d 0 _ _ hd6
            have hc : W6.cell? ⟨d, 0, none⟩ = some v1 := by rw [cell_of_row _ _ _ _ _ _ hd6]; rfl
            refine till_ready (rs := [18]) (by kernel_rfl) (by simp) (TillReady.cons rfl (fun K hK => ?_) TillReady.nil)
            go_simp
            obtain ⟨r1, r2, r3, r4⟩ := nd_store (i := 0) HR16.out HR26.out hd6 (.slice a1 (Lk.length + 1) c1)
            have HY1 := Lib.hid r1
            have HY2 := Lib.hid r2
            have hy3 : (W6.setCell ⟨d, 0, none⟩ (.slice a1 (Lk.length + 1) c1)).heap[d]? = some (.cells #[.slice a1 (Lk.length + 1) c1, v2, .slice none 0 0, .int .i64 (-1), .bool false] 55 (0, 0)) := r3
            have HY4 := Lib.hid (HBl6.out.trans r4)
            clear r1 r2 r3 r4 hf hc
            generalize W6.setCell ⟨d, 0, none⟩ (.slice a1 (Lk.length + 1) c1) = Y at HY1 HY2 hy3 HY4 ⊢
            refine hK.out _ _ (fun h => by cases h) ?_
            clear hK K
            (try simp only [Act.put, List.setIfInBounds_toArray, List.set_cons_zero, List.set_cons_succ, List.getElem_toArray, List.getElem_cons_zero, List.getElem_cons_succ])
            refine till_ready (rs := [19]) (by kernel_rfl) (by simp) (TillReady.cons rfl (fun K hK => ?_) TillReady.nil)
            go_simp
            refine hK.out _ _ (fun h => by cases h) ?_
            clear hK K
            (try simp only [Act.put, List.setIfInBounds_toArray, List.set_cons_zero, List.set_cons_succ, List.getElem_toArray, List.getElem_cons_zero, List.getElem_cons_succ])
            refine till_ready (rs := [20]) (by kernel_rfl) (by simp) (TillReady.cons rfl (fun K hK => ?_) TillReady.nil)
            go_simp
            refine hK.out _ _ (fun h => by cases h) ?_
            clear hK K
            (try simp only [Act.put, List.setIfInBounds_toArray, List.set_cons_zero, List.set_cons_succ, List.getElem_toArray, List.getElem_cons_zero, List.getElem_cons_succ])
            have hf := frozen_of_row Y d 1 _ _ hy3
            have hc : Y.cell? ⟨d, 1, none⟩ = some v2 := by rw [cell_of_row _ _ _ _ _ _ hy3]; rfl
            refine till_ready (rs := [21]) (by kernel_rfl) (by simp) (TillReady.cons rfl (fun K hK => ?_) TillReady.nil)
            go_simp
            obtain ⟨r1, r2, r3, r4⟩ := nd_store (i := 1) HY1.out HY2.out hy3 (.slice a2 (Lk.length + 1) c2)
            have HZN : Hid (NDk _ d p (k + 1)) := Lib.hid ⟨.slice a1 (Lk.length + 1) c1, .slice a2 (Lk.length + 1) c2, r3, by rw [← HLN.out]; exact r1, by rw [← HLN.out]; exact r2, HSF.out, HO3.out, HO4.out⟩
            have HZB := Lib.hid (HY4.out.trans r4)
            refine hK.out _ _ (fun h => by cases h) ?_
            clear hK K hf hc r1 r2 r3 r4
            (try simp only [Act.put, List.setIfInBounds_toArray, List.set_cons_zero, List.set_cons_succ, List.getElem_toArray, List.getElem_cons_zero, List.getElem_cons_succ])
            refine till_done (by kernel_rfl) ?_ _
            go_wp2
            go_roundw
            case rel => exact ⟨k + 1, by omega, by go_num, HZN, HZB⟩
            case measure => simp [intOf]; omega
        · skip
          refine step_build1 rfl _ rfl (some ⟨gb, 0, none⟩) 256 256 rfl ?_
          have bn := below_box W1 (.cells #[.slice (some ⟨gb, 0, none⟩) 256 256] 40)
          have nn := heap_alloc_new W1 (.cells #[.slice (some ⟨gb, 0, none⟩) 256 256] 40)
          have hd2 := (bn.block d (Array.getElem?_eq_some_iff.1 hd1).1).trans hd1
          have HR12 := Lib.hid (HR11.out.below bn)
          have HR22 := Lib.hid (HR21.out.below bn)
          have HBl2 := Lib.hid (HBl1.out.trans (bn.mono (Nat.le_trans (Nat.le_of_lt hdp) hp1)))
          have hp2 := Nat.le_trans hp1 bn.size
          have HB2 := Lib.hid (HB1.out.below bn)
          have HNB := Lib.hid (fun k (hk : v1.ownBlock = some k) => Nat.ne_of_lt (HR11.out.lt k hk))
          have hqb2 := nn
          obtain ⟨qb, hgg⟩ : ∃ g, g = W1.heap.size := ⟨_, rfl⟩
          rw [← hgg] at hqb2 ⊢
          rw [← hgg] at HNB
          clear nn bn hgg
          generalize W1.alloc (.cells #[.slice (some ⟨gb, 0, none⟩) 256 256] 40) = W2 at hd2 HR12 HR22 HBl2 hp2 HB2 hqb2 ⊢
          refine hK.out _ _ (fun _ => ⟨by rw [cell_of_row _ _ _ _ _ _ hd2]; rfl, by rw [cell_of_row _ _ _ _ _ _ hd2]; rfl⟩) ?_
          clear hK K
          simp only [Act.put, List.setIfInBounds_toArray, List.set_cons_zero, List.set_cons_succ, List.getElem_toArray, List.getElem_cons_zero, List.getElem_cons_succ]
          refine till_ready (rs := [6]) (by kernel_rfl) (by simp) (TillReady.cons rfl (fun K hK => ?_) TillReady.nil)
          refine step_make256 rfl _ _ rfl rfl rfl ?_
          have bn := below_box W2 (.cells (Array.replicate 256 (.int .u8 0)) 5)
          have nn := heap_alloc_new W2 (.cells (Array.replicate 256 (.int .u8 0)) 5)
          have hd3 := (bn.block d (Array.getElem?_eq_some_iff.1 hd2).1).trans hd2
          have HR13 := Lib.hid (HR12.out.below bn)
          have HR23 := Lib.hid (HR22.out.below bn)
          have HBl3 := Lib.hid (HBl2.out.trans (bn.mono (Nat.le_trans (Nat.le_of_lt hdp) hp2)))
          have hp3 := Nat.le_trans hp2 bn.size
          have HB3 := Lib.hid (HB2.out.below bn)
          have hqb3 := (bn.block _ (Array.getElem?_eq_some_iff.1 hqb2).1).trans hqb2
          have HA3 := Lib.hid (belt_zero (B := 0) nn)
          obtain ⟨ga, hgg⟩ : ∃ g, g = W2.heap.size := ⟨_, rfl⟩
          rw [← hgg] at HA3 ⊢
          clear nn bn hgg
          generalize W2.alloc (.cells (Array.replicate 256 (.int .u8 0)) 5) = W3 at hd3 HR13 HR23 HBl3 hp3 HB3 hqb3 HA3 ⊢
          refine hK.out _ _ (fun _ => ⟨by rw [cell_of_row _ _ _ _ _ _ hd3]; rfl, by rw [cell_of_row _ _ _ _ _ _ hd3]; rfl⟩) ?_
          clear hK K
          simp only [Act.put, List.setIfInBounds_toArray, List.set_cons_zero, List.set_cons_succ, List.getElem_toArray, List.getElem_cons_zero, List.getElem_cons_succ]
          refine till_ready (rs := [7]) (by kernel_rfl) (by simp) (TillReady.cons rfl (fun K hK => ?_) TillReady.nil)
          refine step_build1 rfl _ rfl (some ⟨ga, 0, none⟩) 256 256 rfl ?_
          have bn := below_box W3 (.cells #[.slice (some ⟨ga, 0, none⟩) 256 256] 40)
          have nn := heap_alloc_new W3 (.cells #[.slice (some ⟨ga, 0, none⟩) 256 256] 40)
          have hd4 := (bn.block d (Array.getElem?_eq_some_iff.1 hd3).1).trans hd3
          have HR14 := Lib.hid (HR13.out.below bn)
          have HR24 := Lib.hid (HR23.out.below bn)
          have HBl4 := Lib.hid (HBl3.out.trans (bn.mono (Nat.le_trans (Nat.le_of_lt hdp) hp3)))
          have hp4 := Nat.le_trans hp3 bn.size
          have HA4 := Lib.hid (HA3.out.below bn)
          have HB4 := Lib.hid (HB3.out.below bn)
          have hqb4 := (bn.block _ (Array.getElem?_eq_some_iff.1 hqb3).1).trans hqb3
          have hqa4 := nn
          obtain ⟨qa, hgg⟩ : ∃ g, g = W3.heap.size := ⟨_, rfl⟩
          rw [← hgg] at hqa4 ⊢
          clear nn bn hgg
          generalize W3.alloc (.cells #[.slice (some ⟨ga, 0, none⟩) 256 256] 40) = W4 at hd4 HR14 HR24 HBl4 hp4 HA4 HB4 hqb4 hqa4 ⊢
          refine hK.out _ _ (fun _ => ⟨by rw [cell_of_row _ _ _ _ _ _ hd4]; rfl, by rw [cell_of_row _ _ _ _ _ _ hd4]; rfl⟩) ?_
          clear hK K
          simp only [Act.put, List.setIfInBounds_toArray, List.set_cons_zero, List.set_cons_succ, List.getElem_toArray, List.getElem_cons_zero, List.getElem_cons_succ]
          refine till_ready (rs := [8]) (by kernel_rfl) (by simp) (TillReady.cons rfl (fun K hK => ?_) TillReady.nil)
          refine step_append_one rfl _ _ rfl 0 v1 Lk rfl HR14.out _ zb HA4.out qa hqa4 rfl HL.out (Nat.zero_le _) ?_
          intro v1' W5 hv1 _ hg hor
          have hb : Below p W4 W5 := (Below.refl _ _).grown hg hp4 HO1.out
          have HO3 := Lib.hid (own_new HO1.out hor hp4)
          have hd5 := (hb.block d hdp).trans hd4
          have HR15 := Lib.hid hv1
          have HR25 := Lib.hid (HR24.out.grown HR14.out.rowOf (fun k hk => HSP.out k hk) hg)
          have HBl5 := Lib.hid (HBl4.out.trans (hb.mono (Nat.le_of_lt hdp)))
          have hp5 := Nat.le_trans hp4 hb.size
          have HSQ := Lib.hid (sep_new HSP.out hor HR24.out.lt)
          have HB5 := Lib.hid (HB4.out.grown HR14.out.rowOf hg)
          have hqb5 := (hg.block qb (Array.getElem?_eq_some_iff.1 hqb4).1 (fun h => HNB.out _ h.symm rfl)).trans hqb4
          clear hv1 hb hg hor
          refine hK.out _ _ (fun _ => ⟨by rw [cell_of_row _ _ _ _ _ _ hd5]; rfl, by rw [cell_of_row _ _ _ _ _ _ hd5]; rfl⟩) ?_
          clear hK K
          simp only [Act.put, List.setIfInBounds_toArray, List.set_cons_zero, List.set_cons_succ, List.getElem_toArray, List.getElem_cons_zero, List.getElem_cons_succ]
          refine till_ready (rs := [15]) (by kernel_rfl) (by simp) (TillReady.cons rfl (fun K hK => ?_) TillReady.nil)
          refine step_append_one rfl _ _ rfl 0 v2 Lk rfl HR25.out _ zb HB5.out qb hqb5 rfl HL.out (Nat.zero_le _) ?_
          intro v2' W6 hv2 _ hg hor
          have hb : Below p W5 W6 := (Below.refl _ _).grown hg hp5 HO2.out
          have HO4 := Lib.hid (own_new HO2.out hor hp5)
          have hd6 := (hb.block d hdp).trans hd5
          have HR26 := Lib.hid hv2
          have HR16 := Lib.hid (HR15.out.grown HR25.out.rowOf (fun k hk h => HSQ.out k h hk) hg)
          have HBl6 := Lib.hid (HBl5.out.trans (hb.mono (Nat.le_of_lt hdp)))
          have hp6 := Nat.le_trans hp5 hb.size
          have HSF := Lib.hid (sep_new' HSQ.out hor HR15.out.lt)
          clear hv2 hb hg hor
          refine hK.out _ _ (fun _ => ⟨by rw [cell_of_row _ _ _ _ _ _ hd6]; rfl, by rw [cell_of_row _ _ _ _ _ _ hd6]; rfl⟩) ?_
          clear hK K
          simp only [Act.put, List.setIfInBounds_toArray, List.set_cons_zero, List.set_cons_succ, List.getElem_toArray, List.getElem_cons_zero, List.getElem_cons_succ]
          obtain ⟨a1, c1, rfl, _⟩ := HR16.out.sl.shape
          obtain ⟨a2, c2, rfl, _⟩ := HR26.out.sl.shape
          rw [show (Lk ++ [zb]).length = Lk.length + 1 by simp] at HR16 HR26 HO3 HO4 HSF ⊢
          refine till_ready (rs := [16]) (by kernel_rfl) (by simp) (TillReady.cons rfl (fun K hK => ?_) TillReady.nil)
          go_simp
          refine hK.out _ _ (fun _ => ⟨by rw [cell_of_row _ _ _ _ _ _ hd6]; rfl, by rw [cell_of_row _ _ _ _ _ _ hd6]; rfl⟩) ?_
          clear hK K
          (try simp only [Act.put, List.setIfInBounds_toArray, List.set_cons_zero, List.set_cons_succ, List.getElem_toArray, List.getElem_cons_zero, List.getElem_cons_succ])
          refine till_ready (rs := [17]) (by kernel_rfl) (by simp) (TillReady.cons rfl (fun K hK => ?_) TillReady.nil)
          go_simp
          refine hK.out _ _ (fun _ => ⟨by rw [cell_of_row _ _ _ _ _ _ hd6]; rfl, by rw [cell_of_row _ _ _ _ _ _ hd6]; rfl⟩) ?_
          clear hK K
          (try simp only [Act.put, List.setIfInBounds_toArray, List.set_cons_zero, List.set_cons_succ, List.getElem_toArray, List.getElem_cons_zero, List.getElem_cons_succ])
          have hf := frozen_of_row W6 d 0 _ _ hd6
          have hc : W6.cell? ⟨d, 0, none⟩ = some v1 := by rw [cell_of_row _ _ _ _ _ _ hd6]; rfl
          refine till_ready (rs := [18]) (by kernel_rfl) (by simp) (TillReady.cons rfl (fun K hK => ?_) TillReady.nil)
          go_simp
          obtain ⟨r1, r2, r3, r4⟩ := nd_store (i := 0) HR16.out HR26.out hd6 (.slice a1 (Lk.length + 1) c1)
          have HY1 := Lib.hid r1
          have HY2 := Lib.hid r2
          have hy3 : (W6.setCell ⟨d, 0, none⟩ (.slice a1 (Lk.length + 1) c1)).heap[d]? = some (.cells #[.slice a1 (Lk.length + 1) c1, v2, .slice none 0 0, .int .i64 (-1), .bool false] 55 (0, 0)) := r3
          have HY4 := Lib.hid (HBl6.out.trans r4)
          clear r1 r2 r3 r4 hf hc
          generalize W6.setCell ⟨d, 0, none⟩ (.slice a1 (Lk.length + 1) c1) = Y at HY1 HY2 hy3 HY4 ⊢
          refine hK.out _ _ (fun h => by cases h) ?_
          clear hK K
          (try simp only [Act.put, List.setIfInBounds_toArray, List.set_cons_zero, List.set_cons_succ, List.getElem_toArray, List.getElem_cons_zero, List.getElem_cons_succ])
          refine till_ready (rs := [19]) (by kernel_rfl) (by simp) (TillReady.cons rfl (fun K hK => ?_) TillReady.nil)
          go_simp
          refine hK.out _ _ (fun h => by cases h) ?_
          clear hK K
          (try simp only [Act.put, List.setIfInBounds_toArray, List.set_cons_zero, List.set_cons_succ, List.getElem_toArray, List.getElem_cons_zero, List.getElem_cons_succ])
          refine till_ready (rs := [20]) (by kernel_rfl) (by simp) (TillReady.cons rfl (fun K hK => ?_) TillReady.nil)
          go_simp
          refine hK.out _ _ (fun h => by cases h) ?_
          clear hK K
          (try simp only [Act.put, List.setIfInBounds_toArray, List.set_cons_zero, List.set_cons_succ, List.getElem_toArray, List.getElem_cons_zero, List.getElem_cons_succ])
          have hf := frozen_of_row Y d 1 _ _ hy3
          have hc : Y.cell? ⟨d, 1, none⟩ = some v2 := by rw [cell_of_row _ _ _ _ _ _ hy3]; rfl
          refine till_ready (rs := [21]) (by kernel_rfl) (by simp) (TillReady.cons rfl (fun K hK => ?_) TillReady.nil)
          go_simp
          obtain ⟨r1, r2, r3, r4⟩ := nd_store (i := 1) HY1.out HY2.out hy3 (.slice a2 (Lk.length + 1) c2)
          have HZN : Hid (NDk _ d p (k + 1)) := Lib.hid ⟨.slice a1 (Lk.length + 1) c1, .slice a2 (Lk.length + 1) c2, r3, by rw [← HLN.out]; exact r1, by rw [← HLN.out]; exact r2, HSF.out, HO3.out, HO4.out⟩
          have HZB := Lib.hid (HY4.out.trans r4)
          refine hK.out _ _ (fun h => by cases h) ?_
          clear hK K hf hc r1 r2 r3 r4
          (try simp only [Act.put, List.setIfInBounds_toArray, List.set_cons_zero, List.set_cons_succ, List.getElem_toArray, List.getElem_cons_zero, List.getElem_cons_succ])
          refine till_done (by kernel_rfl) ?_ _
          go_wp2
          go_roundw
          case rel => exact ⟨k + 1, by omega, by go_num, HZN, HZB⟩
          case measure => simp [intOf]; omega
    · obtain rfl : k = 100 := by omega
      obtain ⟨v1, v2, hd0, hr1, _⟩ := HN.out
      go_wp2
      go_ret
      exact ⟨d, v1, _, rfl, hd0, rfl, hr1.sl, HBX.out.trans (HB.out.mono HWP.out)⟩
end Go.Proofs.Ytpjmnmkdegkfcaa

