/- What the law rests on: part 27. -/
import Derived.Test.YtekeoljfdnfbgaaGreatPu26
set_option linter.unusedVariables false
namespace Go.Proofs.YtekeoljfdnfbgaaGreat
set_option maxRecDepth 100000
open Go.RowKit
section
variable {w0 w : World} {P M : Nat → Prop} {d p r : Value} {X : XSt} {S : List Int} {N : List (List Int)} {O : List (Int × Int)} {kk bf bm : Nat}
set_option maxHeartbeats 4000000 in
theorem do13_give (h : Psd w0 w P M d p r X S N O kk bf bm) (o : O13) (ho : o.ok) (hk : o.k = 5) :
    Calls Tryz.prog 10 #[.pointer (some ⟨bm, 0, none⟩), .pointer (some ⟨bf, 0, none⟩), .agg o.cells.toArray] w (DoOut13 w0 M d p r kk bf bm (.bool true)) := by
  have hb1 := below_box w (.cells o.cells.toArray 40)
  have hr1 := heap_alloc_new w (.cells o.cells.toArray 40)
  obtain ⟨w1, hw1⟩ : ∃ w1, w1 = w.alloc (.cells o.cells.toArray 40) := ⟨_, rfl⟩
  rw [← hw1] at hb1 hr1
  have H1 := Lib.hid hw1.symm
  have KB := Lib.hid (h.begin hb1 hr1 ho)
  have cf1 := (h.t.low hb1).fs.cell
  obtain ⟨xb, hxb⟩ : ∃ xb, xb = w.heap.size := ⟨_, rfl⟩
  rw [← hxb] at KB
  have HXB := Lib.hid hxb
  have u1 := Tryz.underlying32
  have u2 := Tryz.underlying35
  have u3 := Tryz.underlying53
  have HI := Lib.hid ho.I
  have HSL := Lib.hid ho.S
  have HS0 := Lib.hid h.s0
  have HOK := Lib.hid h.t.ok
  have HH := Lib.hid h
  have k12 := h.t.ok.k12
  have k1 := h.t.ok.k1
  obtain ⟨E, O2, hO2, hor2, HB⟩ := give12 (n := min o.n (64 * (kk : Int) - 1)) h.t.ok (by have := ho.n; unfold in64 at this ⊢; omega) (by omega)
  have hor : E = 0 ∨ (E ≠ 0 ∧ S = S ∧ N = N ∧ O2 = O) := hor2.elim .inl fun ⟨a, b⟩ => .inr ⟨a, rfl, rfl, b⟩
  have hn0 := h.s0
  have hwr : IntKind.i64.wrap (64 * (kk : Int) - 1) = 64 * (kk : Int) - 1 := by rw [IntKind.wrap_i64]; omega
  have HK := Lib.hid hk
  have KE : Hid (∀ (W : World) (P' : Nat → Prop) (X' : XSt), Dmd w0 W P' M d p r X' S S N N O O2 O2 kk bf bm xb o N S → Calls Tryz.prog 20 #[p, .bool (E == 0)] W (DoOut13 w0 M d p r kk bf bm (.int .i64 0))) := Lib.hid fun W P' X' hd => hd.fin hO2 hn0 HS0.out hor
  have KG : Hid (∀ (W : World) (P' : Nat → Prop), Dmd w0 W P' M d p r (callX X) S S N N O O O kk bf bm xb o N S → Calls Tryz.prog 18 #[.pointer (some ⟨bf, 0, none⟩), .int .i64 (min o.n (64 * (kk : Int) - 1))] W fun e w' => e = .returned (.int .i64 E) ∧ ∃ P' X', Dmd w0 w' P' M d p r X' S S N N O O2 O kk bf bm xb o N S) := Lib.hid fun W P' hd => (fsGive_any (R := fun x w' => x = E ∧ ∃ P' X', Dmd w0 w' P' M d p r X' S S N N O O2 O kk bf bm xb o N S) hd.en.fs ((HB.land hd.mid hd.sp).mono fun e w' ⟨he, P2, X2, hm, hs, hc, hn, hi⟩ => ⟨E, he, rfl, P2, X2, hd.space hm hs hc hn hi⟩)).mono fun e w' ⟨x, he, hx, hh⟩ => ⟨by rw [he, hx], hh⟩
  have KR : Hid (∀ (W : World) (P' : Nat → Prop) (X' : XSt), Dmd w0 W P' M d p r X' S S N N O O2 O kk bf bm xb o N S → Calls Tryz.prog 32 #[r, .int .i64 (min o.n (64 * (kk : Int) - 1))] W fun e w' => e = .returned (.int .i64 E) ∧ Dmd w0 w' P' M d p r X' S S N N O O2 O2 kk bf bm xb o N S) := Lib.hid fun W P' X' hd => (HB.refe hd.mid hd.sp).mono fun e w' ⟨he, hm, hs, hc⟩ => ⟨he, hd.refe hm hs hc⟩
  clear hor hor2 hO2 hn0 HB hk
  clear hb1 hr1 hw1 hxb h ho
  go_enter Tryz.func10, Tryz.ntmps10
  go_upto_region 1 with (fail)
  rw [H1.out, ← HXB.out]
  go_upto_region 25 with (go_at_call 19; refine KB.out.mono ?_; rintro e w2 ⟨rfl, P2, hd2⟩; have bk2 := hd2.en.box.k; rw [HK.out] at bk2)
  have hq2 := hd2.low (Below.refl _ _).drew
  have hS : (fun W => Box13 W xb o ∧ MAt W bm N S r) w2.drew := ⟨hq2.en.box, hq2.en.m⟩
  refine wp_region_held_drew (S := fun W => Box13 W xb o ∧ MAt W bm N S r) (by kernel_rfl) hS (fun hHeld => ?_)
  clear hHeld
  refine tk 0 (.pointer (some ⟨bf, 0, none⟩)) rfl (by kernel_rfl) (fun _ _ _ h => h) (Or.inl ⟨by rfl, ?_⟩) (by assumption) ?_
  · rintro W ⟨hB, hM⟩; go_simp
  (try simp only [Act.put, q1, q2, q3, q4, q5])
  refine tk 1 (.pointer (some ⟨xb, 3, none⟩)) rfl (by kernel_rfl) (fun _ _ _ h => h) (Or.inl ⟨by rfl, ?_⟩) (by assumption) ?_
  · rintro W ⟨hB, hM⟩; go_simp
  (try simp only [Act.put, q1, q2, q3, q4, q5, q6])
  refine tk 2 (.int .i64 (o.n)) rfl (by kernel_rfl) (fun _ _ _ h => h) (Or.inl ⟨by rfl, ?_⟩) (by assumption) ?_
  · rintro W ⟨hB, hM⟩; have f0 := hB.n; go_simp
  (try simp only [Act.put, q1, q2, q3, q4, q5, q6])
  refine tk 3 (.pointer (some ⟨bm, 0, none⟩)) rfl (by kernel_rfl) (fun _ _ _ h => h) (Or.inl ⟨by rfl, ?_⟩) (by assumption) ?_
  · rintro W ⟨hB, hM⟩; go_simp
  (try simp only [Act.put, q1, q2, q3, q4, q5, q6])
  refine tk 4 (.pointer (some ⟨bm, 0, none⟩)) rfl (by kernel_rfl) (fun _ _ _ h => h) (Or.inl ⟨by rfl, ?_⟩) (by assumption) ?_
  · rintro W ⟨hB, hM⟩; go_simp
  (try simp only [Act.put, q1, q2, q3, q4, q5, q6])
  refine tk 5 (.pointer (some ⟨bm, 672, none⟩)) rfl (by kernel_rfl) (fun _ _ _ h => h) (Or.inl ⟨by rfl, ?_⟩) (by assumption) ?_
  · rintro W ⟨hB, hM⟩; go_simp
  (try simp only [Act.put, q1, q2, q3, q4, q5, q6])
  refine tk 6 (.pointer (some ⟨bm, 672, none⟩)) rfl (by kernel_rfl) (fun _ _ _ h => h) (Or.inl ⟨by rfl, ?_⟩) (by assumption) ?_
  · rintro W ⟨hB, hM⟩; go_simp
  (try simp only [Act.put, q1, q2, q3, q4, q5, q6])
  refine tk 7 (.int .i64 (64 * (kk : Int))) rfl (by kernel_rfl) (fun _ _ _ h => h) (Or.inl ⟨by rfl, ?_⟩) (by assumption) ?_
  · rintro W ⟨hB, hM⟩; have f0 := hM.num (j := 0) (by decide); rw [HS0.out] at f0; have f1 : W.cell? ⟨bm, 672, none⟩ = some (.int .i64 (64 * (kk : Int))) := f0; go_simp
  (try simp only [Act.put, q1, q2, q3, q4, q5, q6])
  refine tk 8 (.int .i64 (64 * (kk : Int) - 1)) rfl (by kernel_rfl) (fun _ _ _ h => h) (Or.inl ⟨by rfl, ?_⟩) (by assumption) ?_
  · rintro W ⟨hB, hM⟩; go_simp
  (try simp only [Act.put, q1, q2, q3, q4, q5, q6])
  refine tk 9 (.int .i64 (min o.n (64 * (kk : Int) - 1))) rfl (by kernel_rfl) (fun _ _ _ h => h) (Or.inl ⟨by rfl, ?_⟩) (by assumption) ?_
  · rintro W ⟨hB, hM⟩; go_simp
  (try simp only [Act.put, q1, q2, q3, q4, q5, q6])
  refine wpAnyH_ready (rs := [10]) (by kernel_rfl) (by simp) (AllReadyH.cons rfl (fun K hK => ?_) AllReadyH.nil)
  go_simp
  go_at_call 18
  refine (KG.out _ _ hq2).mono ?_
  rintro e w3 ⟨rfl, P3, X3, hd3⟩
  have hS3 : Box13 w3 xb o ∧ MAt w3 bm N S r := ⟨hd3.en.box, hd3.en.m⟩
  refine hK.out _ _ hS3 (fun hHeld => ?_)
  clear hK K hHeld
  (try simp only [Act.put, q1, q2, q3, q4, q5, q6])
  refine tk 11 (.int .i64 (E)) rfl (by kernel_rfl) (fun _ _ _ h => h) (Or.inl ⟨by rfl, ?_⟩) (by assumption) ?_
  · rintro W ⟨hB, hM⟩; go_simp
  (try simp only [Act.put, q1, q2, q3, q4, q5, q6])
  refine wpAnyH_done (by kernel_rfl) ?_ _
  go_upto_region 26 with (fail)
  have hq3 := hd3.low (Below.refl _ _).drew
  have hS : (fun W => Box13 W xb o ∧ MAt W bm N S r) w3.drew := ⟨hq3.en.box, hq3.en.m⟩
  refine wp_region_held_drew (S := fun W => Box13 W xb o ∧ MAt W bm N S r) (by kernel_rfl) hS (fun hHeld => ?_)
  clear hHeld
  refine tk 0 (.int .i64 (E)) rfl (by kernel_rfl) (fun _ _ _ h => h) (Or.inl ⟨by rfl, ?_⟩) (by assumption) ?_
  · rintro W ⟨hB, hM⟩; go_simp
  (try simp only [Act.put, q1, q2, q3, q4, q5])
  refine tk 1 (.pointer (some ⟨bm, 0, none⟩)) rfl (by kernel_rfl) (fun _ _ _ h => h) (Or.inl ⟨by rfl, ?_⟩) (by assumption) ?_
  · rintro W ⟨hB, hM⟩; go_simp
  (try simp only [Act.put, q1, q2, q3, q4, q5, q6])
  refine tk 2 (.pointer (some ⟨bm, 0, none⟩)) rfl (by kernel_rfl) (fun _ _ _ h => h) (Or.inl ⟨by rfl, ?_⟩) (by assumption) ?_
  · rintro W ⟨hB, hM⟩; go_simp
  (try simp only [Act.put, q1, q2, q3, q4, q5, q6])
  refine tk 3 (.pointer (some ⟨bm, 684, none⟩)) rfl (by kernel_rfl) (fun _ _ _ h => h) (Or.inl ⟨by rfl, ?_⟩) (by assumption) ?_
  · rintro W ⟨hB, hM⟩; go_simp
  (try simp only [Act.put, q1, q2, q3, q4, q5, q6])
  refine tk 4 (r) rfl (by kernel_rfl) (fun _ _ _ h => h) (Or.inl ⟨by rfl, ?_⟩) (by assumption) ?_
  · rintro W ⟨hB, hM⟩; have f0 := hM.ptr; go_simp
  (try simp only [Act.put, q1, q2, q3, q4, q5, q6])
  refine tk 5 (.pointer (some ⟨xb, 3, none⟩)) rfl (by kernel_rfl) (fun _ _ _ h => h) (Or.inl ⟨by rfl, ?_⟩) (by assumption) ?_
  · rintro W ⟨hB, hM⟩; go_simp
  (try simp only [Act.put, q1, q2, q3, q4, q5, q6])
  refine tk 6 (.int .i64 (o.n)) rfl (by kernel_rfl) (fun _ _ _ h => h) (Or.inl ⟨by rfl, ?_⟩) (by assumption) ?_
  · rintro W ⟨hB, hM⟩; have f0 := hB.n; go_simp
  (try simp only [Act.put, q1, q2, q3, q4, q5, q6])
  refine tk 7 (.pointer (some ⟨bm, 0, none⟩)) rfl (by kernel_rfl) (fun _ _ _ h => h) (Or.inl ⟨by rfl, ?_⟩) (by assumption) ?_
  · rintro W ⟨hB, hM⟩; go_simp
  (try simp only [Act.put, q1, q2, q3, q4, q5, q6])
  refine tk 8 (.pointer (some ⟨bm, 0, none⟩)) rfl (by kernel_rfl) (fun _ _ _ h => h) (Or.inl ⟨by rfl, ?_⟩) (by assumption) ?_
  · rintro W ⟨hB, hM⟩; go_simp
  (try simp only [Act.put, q1, q2, q3, q4, q5, q6])
  refine tk 9 (.pointer (some ⟨bm, 672, none⟩)) rfl (by kernel_rfl) (fun _ _ _ h => h) (Or.inl ⟨by rfl, ?_⟩) (by assumption) ?_
  · rintro W ⟨hB, hM⟩; go_simp
  (try simp only [Act.put, q1, q2, q3, q4, q5, q6])
  refine tk 10 (.pointer (some ⟨bm, 672, none⟩)) rfl (by kernel_rfl) (fun _ _ _ h => h) (Or.inl ⟨by rfl, ?_⟩) (by assumption) ?_
  · rintro W ⟨hB, hM⟩; go_simp
  (try simp only [Act.put, q1, q2, q3, q4, q5, q6])
  refine tk 11 (.int .i64 (64 * (kk : Int))) rfl (by kernel_rfl) (fun _ _ _ h => h) (Or.inl ⟨by rfl, ?_⟩) (by assumption) ?_
  · rintro W ⟨hB, hM⟩; have f0 := hM.num (j := 0) (by decide); rw [HS0.out] at f0; have f1 : W.cell? ⟨bm, 672, none⟩ = some (.int .i64 (64 * (kk : Int))) := f0; go_simp
  (try simp only [Act.put, q1, q2, q3, q4, q5, q6])
  refine tk 12 (.int .i64 (64 * (kk : Int) - 1)) rfl (by kernel_rfl) (fun _ _ _ h => h) (Or.inl ⟨by rfl, ?_⟩) (by assumption) ?_
  · rintro W ⟨hB, hM⟩; go_simp
  (try simp only [Act.put, q1, q2, q3, q4, q5, q6])
  refine tk 13 (.int .i64 (min o.n (64 * (kk : Int) - 1))) rfl (by kernel_rfl) (fun _ _ _ h => h) (Or.inl ⟨by rfl, ?_⟩) (by assumption) ?_
  · rintro W ⟨hB, hM⟩; go_simp
  (try simp only [Act.put, q1, q2, q3, q4, q5, q6])
  refine wpAnyH_ready (rs := [14]) (by kernel_rfl) (by simp) (AllReadyH.cons rfl (fun K hK => ?_) AllReadyH.nil)
  go_simp
  go_at_call 32
  refine (KR.out _ _ _ hq3).mono ?_
  rintro e w4 ⟨rfl, hd4⟩
  have hS4 : Box13 w4 xb o ∧ MAt w4 bm N S r := ⟨hd4.en.box, hd4.en.m⟩
  refine hK.out _ _ hS4 (fun hHeld => ?_)
  clear hK K hHeld
  (try simp only [Act.put, q1, q2, q3, q4, q5, q6])
  refine tk 15 (.bool true) rfl (by kernel_rfl) (fun _ _ _ h => h) (Or.inl ⟨by rfl, ?_⟩) (by assumption) ?_
  · rintro W ⟨hB, hM⟩; go_simp
  (try simp only [Act.put, q1, q2, q3, q4, q5, q6])
  refine tk 16 (.bool true) rfl (by kernel_rfl) (fun _ _ _ h => h) (Or.inl ⟨by rfl, ?_⟩) (by assumption) ?_
  · rintro W ⟨hB, hM⟩; go_simp
  (try simp only [Act.put, q1, q2, q3, q4, q5, q6])
  refine wpAnyH_done (by kernel_rfl) ?_ _
  have cf4 := hd4.en.fs.cell
  go_wp2_with (go_at_call 20; refine (KE.out _ _ _ hd4).mono ?_; rintro e w9 ⟨rfl, hp9⟩)
  go_ret
  exact ⟨rfl, hp9⟩
end
section
variable {w0 w : World} {P M : Nat → Prop} {d p r : Value} {X : XSt} {S : List Int} {N : List (List Int)} {O : List (Int × Int)} {kk bf bm : Nat}
set_option maxHeartbeats 4000000 in
theorem do13_getno (h : Psd w0 w P M d p r X S N O kk bf bm) (o : O13) (ho : o.ok) (hk : o.k ≠ 1 ∧ o.k ≠ 2 ∧ o.k ≠ 3 ∧ o.k ≠ 4 ∧ o.k ≠ 5) (hn : o.ino < 1 ∨ 47 < o.ino) :
    Calls Tryz.prog 10 #[.pointer (some ⟨bm, 0, none⟩), .pointer (some ⟨bf, 0, none⟩), .agg o.cells.toArray] w (DoOut13 w0 M d p r kk bf bm (.bool true)) := by
  have hb1 := below_box w (.cells o.cells.toArray 40)
  have hr1 := heap_alloc_new w (.cells o.cells.toArray 40)
  obtain ⟨w1, hw1⟩ : ∃ w1, w1 = w.alloc (.cells o.cells.toArray 40) := ⟨_, rfl⟩
  rw [← hw1] at hb1 hr1
  have H1 := Lib.hid hw1.symm
  have KB := Lib.hid (h.begin hb1 hr1 ho)
  have cf1 := (h.t.low hb1).fs.cell
  obtain ⟨xb, hxb⟩ : ∃ xb, xb = w.heap.size := ⟨_, rfl⟩
  rw [← hxb] at KB
  have HXB := Lib.hid hxb
  have u1 := Tryz.underlying32
  have u2 := Tryz.underlying35
  have u3 := Tryz.underlying53
  have HI := Lib.hid ho.I
  have HSL := Lib.hid ho.S
  have HS0 := Lib.hid h.s0
  have HOK := Lib.hid h.t.ok
  have HH := Lib.hid h
  have k12 := h.t.ok.k12
  have k1 := h.t.ok.k1
  have n1 : (o.k == 1) = false := by simpa using hk.1
  have n2 : (o.k == 2) = false := by simpa using hk.2.1
  have n3 : (o.k == 3) = false := by simpa using hk.2.2.1
  have n4 : (o.k == 4) = false := by simpa using hk.2.2.2.1
  have n5 : (o.k == 5) = false := by simpa using hk.2.2.2.2
  have hO2 := h.t.ok
  have hn0 := h.s0
  have KE : Hid (∀ (W : World) (P' : Nat → Prop) (X' : XSt), Dmd w0 W P' M d p r X' S S N N O O O kk bf bm xb o N S → Calls Tryz.prog 20 #[p, .bool true] W (DoOut13 w0 M d p r kk bf bm (.int .i64 0))) := Lib.hid fun W P' X' hd => hd.fin (E := 0) hO2 hn0 HS0.out (.inl rfl)
  have KG := Lib.hid (fun W => fsGet_no hn (.pointer (some ⟨bf, 0, none⟩)) W)
  clear hk hO2 hn0
  clear hb1 hr1 hw1 hxb h ho
  go_enter Tryz.func10, Tryz.ntmps10
  go_upto_region 1 with (fail)
  rw [H1.out, ← HXB.out]
  rcases hn with hn | hn
  all_goals
    (try have hn' : ¬ o.ino < 1 := by omega)
    go_upto_region 27 with (first
      | (go_at_call 19; refine KB.out.mono ?_; rintro e w2 ⟨rfl, P2, hd2⟩; have bk2 := hd2.en.box.k; have bi2 := hd2.en.box.ino)
      | (go_at_call 12; refine (KG.out _).mono ?_; rintro e w3 ⟨rfl, hb3⟩)
      | (with_reducible refine wpList_storeI rfl (.tmp 17) (.tmp 32) rfl w3.heap.size rfl zeroI zeroI rfl rfl rfl _ (heap_alloc_new w3 _) ?_
         intro w4 hw4 hr4
         have hd4 := hd2.low ((hb3.trans ((below_box w3 (iO zeroI 53)).mono hb3.size)).trans (hw4.below hb3.size))
         have cf4 := hd4.en.fs.cell
         have bi4 := hd4.en.box.ino))
    have cf4' := hd4.en.fs.cell
    go_wp2_with (go_at_call 20; refine (KE.out _ _ _ hd4).mono ?_; rintro e w9 ⟨rfl, hp9⟩)
    go_ret
    exact ⟨rfl, hp9⟩
end
section
variable {w0 w : World} {P M : Nat → Prop} {d p r : Value} {X : XSt} {S : List Int} {N : List (List Int)} {O : List (Int × Int)} {kk bf bm : Nat}
set_option maxHeartbeats 4000000 in
theorem do13_getyes (h : Psd w0 w P M d p r X S N O kk bf bm) (o : O13) (ho : o.ok) (hk : o.k ≠ 1 ∧ o.k ≠ 2 ∧ o.k ≠ 3 ∧ o.k ≠ 4 ∧ o.k ≠ 5) {k : Nat} (hi : o.ino = (k : Int)) (hk1 : 1 ≤ k) (hk48 : k < 48) :
    Calls Tryz.prog 10 #[.pointer (some ⟨bm, 0, none⟩), .pointer (some ⟨bf, 0, none⟩), .agg o.cells.toArray] w (DoOut13 w0 M d p r kk bf bm (.bool true)) := by
  have hb1 := below_box w (.cells o.cells.toArray 40)
  have hr1 := heap_alloc_new w (.cells o.cells.toArray 40)
  obtain ⟨w1, hw1⟩ : ∃ w1, w1 = w.alloc (.cells o.cells.toArray 40) := ⟨_, rfl⟩
  rw [← hw1] at hb1 hr1
  have H1 := Lib.hid hw1.symm
  have KB := Lib.hid (h.begin hb1 hr1 ho)
  have cf1 := (h.t.low hb1).fs.cell
  obtain ⟨xb, hxb⟩ : ∃ xb, xb = w.heap.size := ⟨_, rfl⟩
  rw [← hxb] at KB
  have HXB := Lib.hid hxb
  have u1 := Tryz.underlying32
  have u2 := Tryz.underlying35
  have u3 := Tryz.underlying53
  have HI := Lib.hid ho.I
  have HSL := Lib.hid ho.S
  have HS0 := Lib.hid h.s0
  have HOK := Lib.hid h.t.ok
  have HH := Lib.hid h
  have k12 := h.t.ok.k12
  have k1 := h.t.ok.k1
  have n1 : (o.k == 1) = false := by simpa using hk.1
  have n2 : (o.k == 2) = false := by simpa using hk.2.1
  have n3 : (o.k == 3) = false := by simpa using hk.2.2.1
  have n4 : (o.k == 4) = false := by simpa using hk.2.2.2.1
  have n5 : (o.k == 5) = false := by simpa using hk.2.2.2.2
  have hO2 := h.t.ok
  have hn0 := h.s0
  have KE : Hid (∀ (W : World) (P' : Nat → Prop) (X' : XSt), Dmd w0 W P' M d p r X' S S N N O O O kk bf bm xb o N S → Calls Tryz.prog 20 #[p, .bool true] W (DoOut13 w0 M d p r kk bf bm (.int .i64 0))) := Lib.hid fun W P' X' hd => hd.fin (E := 0) hO2 hn0 HS0.out (.inl rfl)
  have hx14 : (N.getD k []).length = 14 := h.t.tab.n.get hk48
  obtain ⟨x, hx⟩ : ∃ x, x = N.getD k [] := ⟨_, rfl⟩
  have KG : Hid (∀ (W : World) (P' : Nat → Prop), Dmd w0 W P' M d p r (callX X) S S N N O O O kk bf bm xb o N S → Calls Tryz.prog 12 #[.pointer (some ⟨bf, 0, none⟩), .int .i64 k] W fun e w' => e = .returned (.tuple #[.agg (iC x).toArray, .int .i64 0]) ∧ Below W.heap.size W w') := Lib.hid fun W P' hd => by
    rw [hx]
    exact fsGet_yes hd.t.inv hd.en.fs (show Tab (callX X).cur S N from hd.t.tab2) hk1 hk48 (Below.refl _ _)
  have HMI : Hid (∀ W, MAt W bm N S r → W.rangeAt bm (k * 14) (iC x)) := Lib.hid fun W hm => by rw [hx]; exact hm.ino hk48
  rw [← hx] at hx14
  have HX := Lib.hid hx14
  have HIK := Lib.hid hi
  have e1 : ¬ (k : Int) < 1 := by omega
  have e2 : ¬ (47 : Int) < (k : Int) := by omega
  have e48 : (k : Int) < 48 := by omega
  clear hk hO2 hn0 hx hx14 hi
  clear hb1 hr1 hw1 hxb h ho
  go_enter Tryz.func10, Tryz.ntmps10
  go_upto_region 1 with (fail)
  rw [H1.out, ← HXB.out]
  go_upto_region 6 with (first
    | (go_at_call 19; refine KB.out.mono ?_; rintro e w2 ⟨rfl, P2, hd2⟩; have bk2 := hd2.en.box.k; have bi2 := hd2.en.box.ino; rw [HIK.out] at bi2)
    | (go_at_call 12; refine (KG.out _ _ hd2).mono ?_; rintro e w3 ⟨rfl, hb3⟩)
    | (with_reducible refine wpList_storeI rfl (.tmp 17) (.tmp 32) rfl w3.heap.size rfl x zeroI rfl HX.out rfl _ (heap_alloc_new w3 _) ?_
       intro w4 hw4 hr4
       have hd4 := hd2.low ((hb3.trans ((below_box w3 (iO zeroI 53)).mono hb3.size)).trans (hw4.below hb3.size))
       have cf4 := hd4.en.fs.cell
       have bi4 := hd4.en.box.ino
       rw [HIK.out] at bi4))
  have hq4 := hd4.low (Below.refl _ _).drew
  obtain ⟨xn, hxn⟩ : ∃ xn, xn = w3.heap.size := ⟨_, rfl⟩
  rw [← hxn] at hr4 ⊢
  have hS : (Box13 w4.drew xb o ∧ MAt w4.drew bm N S r) ∧ w4.drew.rangeAt xn 0 (iC x) := ⟨⟨hq4.en.box, hq4.en.m⟩, io_range (W := w4.drew) hr4⟩
  refine wp_region_held_drew (S := fun W => (Box13 W xb o ∧ MAt W bm N S r) ∧ W.rangeAt xn 0 (iC x)) (by kernel_rfl) hS (fun hHeld => ?_)
  clear hHeld
  refine tk 0 (.int .i64 (0)) rfl (by kernel_rfl) (fun _ _ _ h => h) (Or.inl ⟨by rfl, ?_⟩) (by assumption) ?_
  · rintro W ⟨⟨hB, hM⟩, hX⟩; go_simp
  (try simp only [Act.put, q1, q2, q3, q4, q5])
  refine tk 1 (.bool true) rfl (by kernel_rfl) (fun _ _ _ h => h) (Or.inl ⟨by rfl, ?_⟩) (by assumption) ?_
  · rintro W ⟨⟨hB, hM⟩, hX⟩; go_simp
  (try simp only [Act.put, q1, q2, q3, q4, q5, q6])
  refine tk 2 (.bool true) rfl (by kernel_rfl) (fun _ _ _ h => h) (Or.inl ⟨by rfl, ?_⟩) (by assumption) ?_
  · rintro W ⟨⟨hB, hM⟩, hX⟩; go_simp
  (try simp only [Act.put, q1, q2, q3, q4, q5, q6])
  refine tk 3 (.agg (iC x).toArray) rfl (by kernel_rfl) (fun _ _ _ h => h) (yieldsIf_load_mid rfl 53 (.tmp 17) rfl xn 0 rfl (iC x) _ (fun W hW => hW.2) u3 rfl (by rw [sizeIn, iC_length, HX.out])) (by assumption) ?_
  (try simp only [Act.put, q1, q2, q3, q4, q5, q6])
  refine tk 4 (.pointer (some ⟨bm, 0, none⟩)) rfl (by kernel_rfl) (fun _ _ _ h => h) (Or.inl ⟨by rfl, ?_⟩) (by assumption) ?_
  · rintro W ⟨⟨hB, hM⟩, hX⟩; go_simp
  (try simp only [Act.put, q1, q2, q3, q4, q5, q6])
  refine tk 5 (.pointer (some ⟨xb, 1, none⟩)) rfl (by kernel_rfl) (fun _ _ _ h => h) (Or.inl ⟨by rfl, ?_⟩) (by assumption) ?_
  · rintro W ⟨⟨hB, hM⟩, hX⟩; go_simp
  (try simp only [Act.put, q1, q2, q3, q4, q5, q6])
  refine tk 6 (.int .i64 (k)) rfl (by kernel_rfl) (fun _ _ _ h => h) (Or.inl ⟨by rfl, ?_⟩) (by assumption) ?_
  · rintro W ⟨⟨hB, hM⟩, hX⟩; have f0 := hB.ino; rw [HIK.out] at f0; go_simp
  (try simp only [Act.put, q1, q2, q3, q4, q5, q6])
  refine tk 7 (.pointer (some ⟨bm, 0, none⟩)) rfl (by kernel_rfl) (fun _ _ _ h => h) (Or.inl ⟨by rfl, ?_⟩) (by assumption) ?_
  · rintro W ⟨⟨hB, hM⟩, hX⟩; go_simp
  (try simp only [Act.put, q1, q2, q3, q4, q5, q6])
  refine tk 8 (.pointer (some ⟨bm, 0, none⟩)) rfl (by kernel_rfl) (fun _ _ _ h => h) (Or.inl ⟨by rfl, ?_⟩) (by assumption) ?_
  · rintro W ⟨⟨hB, hM⟩, hX⟩; go_simp
  (try simp only [Act.put, q1, q2, q3, q4, q5, q6])
  refine tk 9 (.pointer (some ⟨bm, k * 14, none⟩)) rfl (by kernel_rfl) (fun _ _ _ h => h) (Or.inl ⟨by rfl, ?_⟩) (by assumption) ?_
  · rintro W ⟨⟨hB, hM⟩, hX⟩; go_simp
  (try simp only [Act.put, q1, q2, q3, q4, q5, q6])
  refine tk 10 (.agg (iC x).toArray) rfl (by kernel_rfl) (fun _ _ _ h => h) (yieldsIf_load_mid rfl 32 (.tmp 43) rfl bm (k * 14) rfl (iC x) _ (fun W hW => HMI.out _ hW.1.2) u1 rfl (by rw [sizeRI, iC_length, HX.out])) (by assumption) ?_
  (try simp only [Act.put, q1, q2, q3, q4, q5, q6])
  refine tk 11 (.bool true) rfl (by kernel_rfl) (fun _ _ _ h => h) (yields_eqI rfl (.tmp 37) (.tmp 44) rfl x HX.out rfl rfl) (by assumption) ?_
  (try simp only [Act.put, q1, q2, q3, q4, q5, q6])
  refine tk 12 (.bool true) rfl (by kernel_rfl) (fun _ _ _ h => h) (Or.inl ⟨by rfl, ?_⟩) (by assumption) ?_
  · rintro W ⟨⟨hB, hM⟩, hX⟩; go_simp
  (try simp only [Act.put, q1, q2, q3, q4, q5, q6])
  refine tk 13 (.bool true) rfl (by kernel_rfl) (fun _ _ _ h => h) (Or.inl ⟨by rfl, ?_⟩) (by assumption) ?_
  · rintro W ⟨⟨hB, hM⟩, hX⟩; go_simp
  (try simp only [Act.put, q1, q2, q3, q4, q5, q6])
  refine wpAnyH_done (by kernel_rfl) ?_ _
  have cf9 := hq4.en.fs.cell
  go_wp2_with (go_at_call 20; refine (KE.out _ _ _ hq4).mono ?_; rintro e w9 ⟨rfl, hp9⟩)
  go_ret
  exact ⟨rfl, hp9⟩
end
section
variable {w0 w : World} {P M : Nat → Prop} {d p r : Value} {X : XSt} {S : List Int} {N : List (List Int)} {O : List (Int × Int)} {kk bf bm : Nat}
theorem do13_is (h : Psd w0 w P M d p r X S N O kk bf bm) (o : O13) (ho : o.ok) :
    Calls Tryz.prog 10 #[.pointer (some ⟨bm, 0, none⟩), .pointer (some ⟨bf, 0, none⟩), .agg o.cells.toArray] w (DoOut13 w0 M d p r kk bf bm (.bool true)) := by
  by_cases k1 : o.k = 1
  · exact do13_put h o ho k1
  by_cases k2 : o.k = 2
  · exact do13_make h o ho k2
  by_cases k3 : o.k = 3
  · exact do13_set h o ho k3
  by_cases k4 : o.k = 4
  · exact do13_take h o ho k4
  by_cases k5 : o.k = 5
  · exact do13_give h o ho k5
  by_cases hn : o.ino < 1 ∨ 47 < o.ino
  · exact do13_getno h o ho ⟨k1, k2, k3, k4, k5⟩ hn
  · exact do13_getyes h o ho ⟨k1, k2, k3, k4, k5⟩ (k := o.ino.toNat) (by omega) (by omega) (by omega)
theorem Psd.low (h : Psd w0 w P M d p r X S N O kk bf bm) {w' : World} (hb : Below w.heap.size w w') : Psd w0 w' P M d p r X S N O kk bf bm :=
  { h with t := h.t.low hb, sp := h.sp.below hb, m := h.m.low hb }
theorem Tsd.cur (h : Tsd w0 w P d p X S N O kk bf) : Tab X.cur S N := by unfold XSt.cur; rw [h.wi]; exact h.tab
theorem Psd.super (h : Psd w0 w P M d p r X S N O kk bf bm) : Calls Tryz.prog 11 #[.pointer (some ⟨bf, 0, none⟩)] w fun e w' => e = .returned (.tuple #[supV S, .int .i64 0]) ∧ Below w.heap.size w w' := fsSuper_of h.t.inv h.t.fs h.t.cur (Below.refl _ _)
theorem Psd.get (h : Psd w0 w P M d p r X S N O kk bf bm) {j : Nat} (h1 : 1 ≤ j) (h2 : j < 48) : Calls Tryz.prog 12 #[.pointer (some ⟨bf, 0, none⟩), .int .i64 j] w fun e w' => e = .returned (.tuple #[.agg (iC (N.getD j [])).toArray, .int .i64 0]) ∧ Below w.heap.size w w' := fsGet_yes h.t.inv h.t.fs h.t.cur h1 h2 (Below.refl _ _)
theorem RSp.at {w : World} {M : Nat → Prop} {br : Nat} {n : Int} {O : List (Int × Int)} (h : RSp w M (.pointer (some ⟨br, 0, none⟩)) n O) (h0 : 0 < O.length) : ∃ g cap, w.cell? ⟨br, 1, none⟩ = some (.slice (some ⟨g, 0, none⟩) O.length cap) ∧
    ∀ j, j < O.length → w.cell? ⟨g, j * 2, none⟩ = some (.int .u16 (O.getD j (0, 0)).1) := by
  obtain ⟨g, cap, cur, r1, r2, r3, r4, r5, r6, r7, r8⟩ := h.all h0
  refine ⟨g, cap, by rw [cell_of_row _ _ _ _ _ _ r1]; rfl, fun j hj => (r8 j hj).1⟩
end
theorem lTabP_long {w : World} {v : Value} (gr : Int) {S : List O13} (hv : OpsU w v S) (hl : 80 < S.length) : Calls Tryz.prog 3 #[.int .u8 gr, v] w fun e w' => e = .returned (.bool true) ∧ Below w.heap.size w w' := by
  have KA1 := Lib.hid (awake13_any w)
  have KA := Lib.hid awake13_any
  obtain ⟨ao, L, cap, rfl, hL⟩ : ∃ ao L cap, v = .slice ao L cap ∧ L = S.length := by
    rcases hv with ⟨a, c, rfl, rfl⟩ | ⟨b, off, cap, rfl, _⟩
    · exact ⟨_, _, _, rfl, rfl⟩
    · exact ⟨_, _, _, rfl, rfl⟩
  have hL2 : (80 : Int) < (L : Int) := by omega
  clear hv hl hL
  go_enter Tryz.func3, Tryz.ntmps3
  go_wp2_with (first
    | (go_at_call 6; (with_reducible refine KA1.out.mono ?_); rintro e w2 ⟨rfl, hb2⟩)
    | (go_at_call 6; refine (KA.out _).mono ?_; rintro e w3 ⟨rfl, hb3⟩))
  go_ret
  exact ⟨rfl, hb2.trans (hb3.mono hb2.size)⟩
theorem sizeOp13 : (Tryz.prog.info? 40).map (·.size) = some 32 := by kernel_rfl
set_option maxHeartbeats 8000000 in
theorem lTabP_short {w : World} {v : Value} {gr : Int} (hgr : 0 ≤ gr ∧ gr ≤ 255) {S : List O13} (hv : OpsU w v S) (hl : S.length ≤ 80) : Calls Tryz.prog 3 #[.int .u8 gr, v] w fun e w' => e = .returned (.bool true) ∧ Below w.heap.size w w' := by
  have KA1 := Lib.hid (awake13_any w)
  obtain ⟨q, hq⟩ : ∃ q : Nat, (q : Int) = gr % 12 := ⟨(gr % 12).toNat, by omega⟩
  obtain ⟨kk, hkk⟩ : ∃ kk, kk = q + 1 := ⟨_, rfl⟩
  have k1 : 1 ≤ kk := by omega
  have k12 : kk ≤ 12 := by omega
  have HN : Hid (64 * (1 + gr % 12) = 64 * (kk : Int)) := Lib.hid (by omega)
  have KS := Lib.hid (fun (W : World) (hb : Below w.heap.size w W) => start13 k1 k12 w hb)
  have KN := Lib.hid (fun (W : World) => newM_of k1 k12 W)
  obtain ⟨ao, L, cap, rfl, hL, hcell⟩ : ∃ ao L cap, v = .slice ao L cap ∧ L = S.length ∧ (0 < L → ∃ b off, ao = some ⟨b, off, none⟩ ∧ ∀ i, i < L → ∃ o : O13, o.ok ∧ b < w.heap.size ∧ w.rangeAt b (off + i * 32) o.cells) := by
    rcases hv with ⟨a, c, rfl, rfl⟩ | ⟨b, off, cap, rfl, hc⟩
    · exact ⟨_, _, _, rfl, rfl, fun h => absurd h (by decide)⟩
    · exact ⟨_, _, _, rfl, rfl, fun _ => ⟨b, off, rfl, fun i hi => ⟨_, (hc i hi).2.2, (hc i hi).1, (hc i hi).2.1⟩⟩⟩
  have hL2 : ¬ (80 : Int) < (L : Int) := by omega
  have HC := Lib.hid hcell
  have HK := Lib.hid (And.intro k1 k12)
  have uOp := Tryz.underlying40
  have uRI := Tryz.underlying32
  have uRS := Tryz.underlying35
  have uIn := Tryz.underlying53
  have uSu := Tryz.underlying49
  clear hv hl hL hcell hq hkk k1 k12
  go_enter Tryz.func3, Tryz.ntmps3
  go_upto_region 4 with (first
    | (go_at_call 6; refine KA1.out.mono ?_; rintro e w2 ⟨rfl, hb2⟩))
  rw [HN.out]
  go_upto_region 7 with (first
    | (go_at_call 8; refine (KS.out _ hb2).mono ?_; rintro e w4 ⟨b, rfl, hb4, KF⟩)
    | (go_at_call 7; refine KF.mono ?_; rintro e w5 ⟨bf, P5, d, X5, rfl, hsd, hbf⟩)
    | (go_at_call 9; refine (KN.out _).mono ?_; rintro e w6 ⟨bm, br, M, rfl, hm6, hR6, hM6, hbm6, hnM6, hb6⟩))
  have hp6 : Psd w w6 P5 M d (.pointer (some ⟨b, 0, none⟩)) (.pointer (some ⟨br, 0, none⟩)) X5 (newS kk) newN (newO kk) kk bf bm := by
    have hlt := hsd.inv.lt
    have hs5 := hsd.be.size
    have hfl := (Array.getElem?_eq_some_iff.1 hsd.fs).1
    exact ⟨hsd.low hb6, hR6, fun x hx => by have := hM6 x hx; omega, fun x hx hp => by have := hM6 x hx; have := hlt x hp; omega, fun hx => by have := hM6 _ hx; omega, hm6, by omega, fun hp => by have := hlt _ hp; omega, hnM6, by omega, rfl⟩
  have HS0 : Hid (∃ P X S N O, Psd w w6 P M d (.pointer (some ⟨b, 0, none⟩)) (.pointer (some ⟨br, 0, none⟩)) X S N O kk bf bm) := Lib.hid ⟨P5, X5, _, _, _, hp6⟩
  clear hsd hbf hm6 hR6 hM6 hbm6 hnM6 hb6 hp6 hb2 hb4 KF KN KS KA1
  go_wp2
  go_loopw [41] (fun t WI => ∃ c : Nat, c ≤ L ∧ t = .int .i64 c ∧ Hid (∃ P X S N O, Psd w WI P M d (.pointer (some ⟨b, 0, none⟩)) (.pointer (some ⟨br, 0, none⟩)) X S N O kk bf bm)) (fun t _ => L - (intOf t).toNat)
  case atStart => exact ⟨0, by omega, rfl, HS0⟩
  case round =>
    obtain ⟨c, hc, rfl, HS⟩ := hrel
    clear HS0
    by_cases hcl : c < L
    · obtain ⟨P, X, S, N, O, hsd⟩ := HS.out
      obtain ⟨bs, off, rfl, hcells⟩ := HC.out (by omega)
      obtain ⟨o, ho, hbl, hrg⟩ := hcells c hcl
      have ecl : (c : Int) < (L : Int) := by omega
      have hr := range_low hrg hsd.t.be hbl
      obtain ⟨y0, y3⟩ := range13 hr ho
      have hbd : Below wr.heap.size wr wr.drew := (Below.refl _ _).drew
      have HDO : Hid (∀ W, Below wr.heap.size wr W → Calls Tryz.prog 10 #[.pointer (some ⟨bm, 0, none⟩), .pointer (some ⟨bf, 0, none⟩), .agg o.cells.toArray] W (DoOut13 w M d (.pointer (some ⟨b, 0, none⟩)) (.pointer (some ⟨br, 0, none⟩)) kk bf bm (.bool true))) := Lib.hid fun W hb => do13_is (hsd.low hb) o ho
      have HSM : Hid (∀ nq, ∃ P X S N O, Psd w (wr.drewN nq) P M d (.pointer (some ⟨b, 0, none⟩)) (.pointer (some ⟨br, 0, none⟩)) X S N O kk bf bm) := Lib.hid fun nq => ⟨P, X, S, N, O, hsd.low (below_drewN' (Below.refl _ _) nq)⟩
      have HO32 := Lib.hid (o.cells_length ho)
      have HRD : Hid (∀ nq, (wr.drewN nq).rangeAt bs (off + c * 32) o.cells) := Lib.hid fun nq => hr
      have ymp := hsd.m.ptr
      have HOA : Hid (∀ j : Nat, j < 64 * kk → ∃ g cap u, wr.cell? ⟨br, 1, none⟩ = some (.slice (some ⟨g, 0, none⟩) (64 * kk) cap) ∧ wr.cell? ⟨g, j * 2, none⟩ = some (.int .u16 u)) := Lib.hid fun j hj => by
        have hol := hsd.t.ok.len
        obtain ⟨g, cap, a1, a2⟩ := hsd.sp.at (by omega)
        rw [hol] at a1 a2
        exact ⟨g, cap, _, a1, a2 j hj⟩
      clear hcells hrg hr ho hsd HS hbl
      go_upto_region 10 with (fail)
      by_cases hk5 : o.k = 5
      · rw [hk5] at y0
        by_cases hn0 : o.n < 0
        · have hn0' : ¬ 0 ≤ o.n := by omega
          have hnn : ¬ 64 * (kk : Int) ≤ o.n := by omega
          go_quiet (fail)
          go_upto_region 15 with (first
            | (with_reducible refine wpList_load_mid rfl 40 (.tmp 104) rfl bs (off + c * 32) rfl o.cells _ (HRD.out _) uOp rfl (by rw [sizeOp13, HO32.out]) ?_)
            | (go_at_call 10; refine (HDO.out _ (below_drewN' (Below.refl _ _) _)).mono ?_; rintro e w6 ⟨rfl, P6, X6, S6, N6, O6, hsd6⟩; have h12 := hsd6.t.tab.s12; have KU := Lib.hid hsd6.super)
            | (go_at_call 11; refine KU.out.mono ?_; rintro e w7 ⟨rfl, hb7⟩)
            | (with_reducible refine wpList_storeS rfl (.tmp 9) (.tmp 111) rfl w7.heap.size rfl S6 zeroS rfl h12 rfl _ (heap_alloc_new w7 _) ?_
               intro w8 hw8 hr8
               have hb8 : Below w6.heap.size w6 w8 := (hb7.trans ((below_box w7 (supO zeroS 49)).mono hb7.size)).trans (hw8.below hb7.size)))
          have hq8 := hsd6.low hb8.drew
          obtain ⟨xs, hxs⟩ : ∃ xs, xs = w7.heap.size := ⟨_, rfl⟩
          rw [← hxs] at hr8 ⊢
          have hS : w8.drew.rangeAt xs 0 (iC S6) ∧ w8.drew.rangeAt bm 672 (iC S6) := ⟨io_range (W := w8.drew) hr8, hq8.m.sup⟩
          have HQ8 : Hid (∃ P X S N O, Psd w w8.drew P M d (.pointer (some ⟨b, 0, none⟩)) (.pointer (some ⟨br, 0, none⟩)) X S N O kk bf bm) := Lib.hid ⟨P6, X6, S6, N6, O6, hq8⟩
          have H12 := Lib.hid h12
          clear hq8 hsd6 h12
          refine wp_region_held_drew (S := fun W => W.rangeAt xs 0 (iC S6) ∧ W.rangeAt bm 672 (iC S6)) (by kernel_rfl) hS (fun hHeld => ?_)
          clear hHeld
          refine tk 0 (.int .i64 0) rfl (by kernel_rfl) (fun _ _ _ h => h) (Or.inl ⟨by rfl, ?_⟩) (by assumption) ?_
          · rintro W ⟨hA, hB⟩; go_simp
          (try simp only [Act.put, q1, q2, q3, q4, q5])
          refine tk 1 (.bool false) rfl (by kernel_rfl) (fun _ _ _ h => h) (Or.inl ⟨by rfl, ?_⟩) (by assumption) ?_
          · rintro W ⟨hA, hB⟩; go_simp
          (try simp only [Act.put, q1, q2, q3, q4, q5, q6])
          refine tk 2 (.bool false) rfl (by kernel_rfl) (fun _ _ _ h => h) (Or.inl ⟨by rfl, ?_⟩) (by assumption) ?_
          · rintro W ⟨hA, hB⟩; go_simp
          (try simp only [Act.put, q1, q2, q3, q4, q5, q6])
          refine tk 3 (.agg (iC S6).toArray) rfl (by kernel_rfl) (fun _ _ _ h => h) (yieldsIf_load_mid rfl 49 (.tmp 9) rfl xs 0 rfl (iC S6) _ (fun W hW => hW.1) uSu rfl (by rw [infoS, iC_length, H12.out])) (by assumption) ?_
          (try simp only [Act.put, q1, q2, q3, q4, q5, q6])
          refine tk 4 (.pointer (some ⟨bm, 0, none⟩)) rfl (by kernel_rfl) (fun _ _ _ h => h) (Or.inl ⟨by rfl, ?_⟩) (by assumption) ?_
          · rintro W ⟨hA, hB⟩; go_simp
          (try simp only [Act.put, q1, q2, q3, q4, q5, q6])
          refine tk 5 (.pointer (some ⟨bm, 0, none⟩)) rfl (by kernel_rfl) (fun _ _ _ h => h) (Or.inl ⟨by rfl, ?_⟩) (by assumption) ?_
          · rintro W ⟨hA, hB⟩; go_simp
          (try simp only [Act.put, q1, q2, q3, q4, q5, q6])
          refine tk 6 (.pointer (some ⟨bm, 672, none⟩)) rfl (by kernel_rfl) (fun _ _ _ h => h) (Or.inl ⟨by rfl, ?_⟩) (by assumption) ?_
          · rintro W ⟨hA, hB⟩; go_simp
          (try simp only [Act.put, q1, q2, q3, q4, q5, q6])
          refine tk 7 (.agg (iC S6).toArray) rfl (by kernel_rfl) (fun _ _ _ h => h) (yieldsIf_load_mid rfl 35 (.tmp 119) rfl bm 672 rfl (iC S6) _ (fun W hW => hW.2) uRS rfl (by rw [sizeRS, iC_length, H12.out])) (by assumption) ?_
          (try simp only [Act.put, q1, q2, q3, q4, q5, q6])
          refine tk 8 (.bool false) rfl (by kernel_rfl) (fun _ _ _ h => h) (yields_neS rfl (.tmp 116) (.tmp 120) rfl S6 H12.out rfl rfl) (by assumption) ?_
          (try simp only [Act.put, q1, q2, q3, q4, q5, q6])
          refine tk 9 (.bool false) rfl (by kernel_rfl) (fun _ _ _ h => h) (Or.inl ⟨by rfl, ?_⟩) (by assumption) ?_
          · rintro W ⟨hA, hB⟩; go_simp
          (try simp only [Act.put, q1, q2, q3, q4, q5, q6])
          refine wpAnyH_done (by kernel_rfl) ?_ _
          go_wp2
          go_roundw
          case rel => exact ⟨c + 1, by omega, by go_num, HQ8⟩
          case measure => simp [intOf]; omega
        · by_cases hnk : o.n < 64 * (kk : Int)
          · obtain ⟨g, gcap, u, a1, a2⟩ := HOA.out o.n.toNat (by omega)
            have hn0' : 0 ≤ o.n := by omega
            have hnn : ¬ 64 * (kk : Int) ≤ o.n := by omega
            rcases hu : (u == 65534) with _ | _
            · go_quiet (fail)
              go_upto_region 15 with (first
                | (with_reducible refine wpList_load_mid rfl 40 (.tmp 104) rfl bs (off + c * 32) rfl o.cells _ (HRD.out _) uOp rfl (by rw [sizeOp13, HO32.out]) ?_)
                | (go_at_call 10; refine (HDO.out _ (below_drewN' (Below.refl _ _) _)).mono ?_; rintro e w6 ⟨rfl, P6, X6, S6, N6, O6, hsd6⟩; have h12 := hsd6.t.tab.s12; have KU := Lib.hid hsd6.super)
                | (go_at_call 11; refine KU.out.mono ?_; rintro e w7 ⟨rfl, hb7⟩)
                | (with_reducible refine wpList_storeS rfl (.tmp 9) (.tmp 111) rfl w7.heap.size rfl S6 zeroS rfl h12 rfl _ (heap_alloc_new w7 _) ?_
                   intro w8 hw8 hr8
                   have hb8 : Below w6.heap.size w6 w8 := (hb7.trans ((below_box w7 (supO zeroS 49)).mono hb7.size)).trans (hw8.below hb7.size)))
              have hq8 := hsd6.low hb8.drew
              obtain ⟨xs, hxs⟩ : ∃ xs, xs = w7.heap.size := ⟨_, rfl⟩
              rw [← hxs] at hr8 ⊢
              have hS : w8.drew.rangeAt xs 0 (iC S6) ∧ w8.drew.rangeAt bm 672 (iC S6) := ⟨io_range (W := w8.drew) hr8, hq8.m.sup⟩
              have HQ8 : Hid (∃ P X S N O, Psd w w8.drew P M d (.pointer (some ⟨b, 0, none⟩)) (.pointer (some ⟨br, 0, none⟩)) X S N O kk bf bm) := Lib.hid ⟨P6, X6, S6, N6, O6, hq8⟩
              have H12 := Lib.hid h12
              clear hq8 hsd6 h12
              refine wp_region_held_drew (S := fun W => W.rangeAt xs 0 (iC S6) ∧ W.rangeAt bm 672 (iC S6)) (by kernel_rfl) hS (fun hHeld => ?_)
              clear hHeld
              refine tk 0 (.int .i64 0) rfl (by kernel_rfl) (fun _ _ _ h => h) (Or.inl ⟨by rfl, ?_⟩) (by assumption) ?_
              · rintro W ⟨hA, hB⟩; go_simp
              (try simp only [Act.put, q1, q2, q3, q4, q5])
              refine tk 1 (.bool false) rfl (by kernel_rfl) (fun _ _ _ h => h) (Or.inl ⟨by rfl, ?_⟩) (by assumption) ?_
              · rintro W ⟨hA, hB⟩; go_simp
              (try simp only [Act.put, q1, q2, q3, q4, q5, q6])
              refine tk 2 (.bool false) rfl (by kernel_rfl) (fun _ _ _ h => h) (Or.inl ⟨by rfl, ?_⟩) (by assumption) ?_
              · rintro W ⟨hA, hB⟩; go_simp
              (try simp only [Act.put, q1, q2, q3, q4, q5, q6])
              refine tk 3 (.agg (iC S6).toArray) rfl (by kernel_rfl) (fun _ _ _ h => h) (yieldsIf_load_mid rfl 49 (.tmp 9) rfl xs 0 rfl (iC S6) _ (fun W hW => hW.1) uSu rfl (by rw [infoS, iC_length, H12.out])) (by assumption) ?_
              (try simp only [Act.put, q1, q2, q3, q4, q5, q6])
              refine tk 4 (.pointer (some ⟨bm, 0, none⟩)) rfl (by kernel_rfl) (fun _ _ _ h => h) (Or.inl ⟨by rfl, ?_⟩) (by assumption) ?_
              · rintro W ⟨hA, hB⟩; go_simp
              (try simp only [Act.put, q1, q2, q3, q4, q5, q6])
              refine tk 5 (.pointer (some ⟨bm, 0, none⟩)) rfl (by kernel_rfl) (fun _ _ _ h => h) (Or.inl ⟨by rfl, ?_⟩) (by assumption) ?_
              · rintro W ⟨hA, hB⟩; go_simp
              (try simp only [Act.put, q1, q2, q3, q4, q5, q6])
              refine tk 6 (.pointer (some ⟨bm, 672, none⟩)) rfl (by kernel_rfl) (fun _ _ _ h => h) (Or.inl ⟨by rfl, ?_⟩) (by assumption) ?_
              · rintro W ⟨hA, hB⟩; go_simp
              (try simp only [Act.put, q1, q2, q3, q4, q5, q6])
              refine tk 7 (.agg (iC S6).toArray) rfl (by kernel_rfl) (fun _ _ _ h => h) (yieldsIf_load_mid rfl 35 (.tmp 119) rfl bm 672 rfl (iC S6) _ (fun W hW => hW.2) uRS rfl (by rw [sizeRS, iC_length, H12.out])) (by assumption) ?_
              (try simp only [Act.put, q1, q2, q3, q4, q5, q6])
              refine tk 8 (.bool false) rfl (by kernel_rfl) (fun _ _ _ h => h) (yields_neS rfl (.tmp 116) (.tmp 120) rfl S6 H12.out rfl rfl) (by assumption) ?_
              (try simp only [Act.put, q1, q2, q3, q4, q5, q6])
              refine tk 9 (.bool false) rfl (by kernel_rfl) (fun _ _ _ h => h) (Or.inl ⟨by rfl, ?_⟩) (by assumption) ?_
              · rintro W ⟨hA, hB⟩; go_simp
              (try simp only [Act.put, q1, q2, q3, q4, q5, q6])
              refine wpAnyH_done (by kernel_rfl) ?_ _
              go_wp2
              go_roundw
              case rel => exact ⟨c + 1, by omega, by go_num, HQ8⟩
              case measure => simp [intOf]; omega
            · go_quiet (fail)
              go_wp2
              go_roundw
              case rel => exact ⟨c + 1, by omega, by go_num, Lib.hid (HSM.out _)⟩
              case measure => simp [intOf]; omega
          · have hn0' : 0 ≤ o.n := by omega
            have hnn : 64 * (kk : Int) ≤ o.n := by omega
            go_quiet (fail)
            go_wp2
            go_roundw
            case rel => exact ⟨c + 1, by omega, by go_num, Lib.hid (HSM.out _)⟩
            case measure => simp [intOf]; omega
      · have hkb : (o.k == 5) = false := by simpa using hk5
        go_quiet (fail)
        go_upto_region 15 with (first
          | (with_reducible refine wpList_load_mid rfl 40 (.tmp 104) rfl bs (off + c * 32) rfl o.cells _ (HRD.out _) uOp rfl (by rw [sizeOp13, HO32.out]) ?_)
          | (go_at_call 10; refine (HDO.out _ (below_drewN' (Below.refl _ _) _)).mono ?_; rintro e w6 ⟨rfl, P6, X6, S6, N6, O6, hsd6⟩; have h12 := hsd6.t.tab.s12; have KU := Lib.hid hsd6.super)
          | (go_at_call 11; refine KU.out.mono ?_; rintro e w7 ⟨rfl, hb7⟩)
          | (with_reducible refine wpList_storeS rfl (.tmp 9) (.tmp 111) rfl w7.heap.size rfl S6 zeroS rfl h12 rfl _ (heap_alloc_new w7 _) ?_
             intro w8 hw8 hr8
             have hb8 : Below w6.heap.size w6 w8 := (hb7.trans ((below_box w7 (supO zeroS 49)).mono hb7.size)).trans (hw8.below hb7.size)))
        have hq8 := hsd6.low hb8.drew
        obtain ⟨xs, hxs⟩ : ∃ xs, xs = w7.heap.size := ⟨_, rfl⟩
        rw [← hxs] at hr8 ⊢
        have hS : w8.drew.rangeAt xs 0 (iC S6) ∧ w8.drew.rangeAt bm 672 (iC S6) := ⟨io_range (W := w8.drew) hr8, hq8.m.sup⟩
        have HQ8 : Hid (∃ P X S N O, Psd w w8.drew P M d (.pointer (some ⟨b, 0, none⟩)) (.pointer (some ⟨br, 0, none⟩)) X S N O kk bf bm) := Lib.hid ⟨P6, X6, S6, N6, O6, hq8⟩
        have H12 := Lib.hid h12
        clear hq8 hsd6 h12
        refine wp_region_held_drew (S := fun W => W.rangeAt xs 0 (iC S6) ∧ W.rangeAt bm 672 (iC S6)) (by kernel_rfl) hS (fun hHeld => ?_)
        clear hHeld
        refine tk 0 (.int .i64 0) rfl (by kernel_rfl) (fun _ _ _ h => h) (Or.inl ⟨by rfl, ?_⟩) (by assumption) ?_
        · rintro W ⟨hA, hB⟩; go_simp
        (try simp only [Act.put, q1, q2, q3, q4, q5])
        refine tk 1 (.bool false) rfl (by kernel_rfl) (fun _ _ _ h => h) (Or.inl ⟨by rfl, ?_⟩) (by assumption) ?_
        · rintro W ⟨hA, hB⟩; go_simp
        (try simp only [Act.put, q1, q2, q3, q4, q5, q6])
        refine tk 2 (.bool false) rfl (by kernel_rfl) (fun _ _ _ h => h) (Or.inl ⟨by rfl, ?_⟩) (by assumption) ?_
        · rintro W ⟨hA, hB⟩; go_simp
        (try simp only [Act.put, q1, q2, q3, q4, q5, q6])
        refine tk 3 (.agg (iC S6).toArray) rfl (by kernel_rfl) (fun _ _ _ h => h) (yieldsIf_load_mid rfl 49 (.tmp 9) rfl xs 0 rfl (iC S6) _ (fun W hW => hW.1) uSu rfl (by rw [infoS, iC_length, H12.out])) (by assumption) ?_
        (try simp only [Act.put, q1, q2, q3, q4, q5, q6])
        refine tk 4 (.pointer (some ⟨bm, 0, none⟩)) rfl (by kernel_rfl) (fun _ _ _ h => h) (Or.inl ⟨by rfl, ?_⟩) (by assumption) ?_
        · rintro W ⟨hA, hB⟩; go_simp
        (try simp only [Act.put, q1, q2, q3, q4, q5, q6])
        refine tk 5 (.pointer (some ⟨bm, 0, none⟩)) rfl (by kernel_rfl) (fun _ _ _ h => h) (Or.inl ⟨by rfl, ?_⟩) (by assumption) ?_
        · rintro W ⟨hA, hB⟩; go_simp
        (try simp only [Act.put, q1, q2, q3, q4, q5, q6])
        refine tk 6 (.pointer (some ⟨bm, 672, none⟩)) rfl (by kernel_rfl) (fun _ _ _ h => h) (Or.inl ⟨by rfl, ?_⟩) (by assumption) ?_
        · rintro W ⟨hA, hB⟩; go_simp
        (try simp only [Act.put, q1, q2, q3, q4, q5, q6])
        refine tk 7 (.agg (iC S6).toArray) rfl (by kernel_rfl) (fun _ _ _ h => h) (yieldsIf_load_mid rfl 35 (.tmp 119) rfl bm 672 rfl (iC S6) _ (fun W hW => hW.2) uRS rfl (by rw [sizeRS, iC_length, H12.out])) (by assumption) ?_
        (try simp only [Act.put, q1, q2, q3, q4, q5, q6])
        refine tk 8 (.bool false) rfl (by kernel_rfl) (fun _ _ _ h => h) (yields_neS rfl (.tmp 116) (.tmp 120) rfl S6 H12.out rfl rfl) (by assumption) ?_
        (try simp only [Act.put, q1, q2, q3, q4, q5, q6])
        refine tk 9 (.bool false) rfl (by kernel_rfl) (fun _ _ _ h => h) (Or.inl ⟨by rfl, ?_⟩) (by assumption) ?_
        · rintro W ⟨hA, hB⟩; go_simp
        (try simp only [Act.put, q1, q2, q3, q4, q5, q6])
        refine wpAnyH_done (by kernel_rfl) ?_ _
        go_wp2
        go_roundw
        case rel => exact ⟨c + 1, by omega, by go_num, HQ8⟩
        case measure => simp [intOf]; omega
    · obtain rfl : c = L := by omega
      have HS1 := Lib.hid HS.out
      clear HS
      go_wp2
      go_loopw [11] (fun t WI => ∃ j : Nat, (1 ≤ j ∧ j ≤ 48) ∧ t = .int .i64 j ∧ Hid (∃ P X S N O, Psd w WI P M d (.pointer (some ⟨b, 0, none⟩)) (.pointer (some ⟨br, 0, none⟩)) X S N O kk bf bm)) (fun t _ => 48 - (intOf t).toNat)
      case atStart => exact ⟨1, by omega, rfl, HS1⟩
      case round =>
        obtain ⟨j, ⟨hj1, hj⟩, rfl, HS⟩ := hrel
        clear HS1
        by_cases hjl : j < 48
        · obtain ⟨P, X, S, N, O, hsd⟩ := HS.out
          have ejl : (j : Int) < 48 := by omega
          have KG := Lib.hid (hsd.get hj1 hjl)
          have hx14 : (N.getD j []).length = 14 := hsd.t.tab.n.get hjl
          have HMI := Lib.hid (hsd.m.ino hjl)
          obtain ⟨x, hx⟩ : ∃ x, x = N.getD j [] := ⟨_, rfl⟩
          rw [← hx] at KG hx14 HMI
          have HX := Lib.hid hx14
          have HML := Lib.hid hsd.m.lt
          have HSD : Hid (∀ W, Below wr.heap.size wr W → ∃ P X S N O, Psd w W P M d (.pointer (some ⟨b, 0, none⟩)) (.pointer (some ⟨br, 0, none⟩)) X S N O kk bf bm) := Lib.hid fun W hb => ⟨P, X, S, N, O, hsd.low hb⟩
          clear hx hx14 hsd HS
          go_upto_region 22 with (first
            | (go_at_call 12; refine KG.out.mono ?_; rintro e w7 ⟨rfl, hb7⟩)
            | (with_reducible refine wpList_storeI rfl (.tmp 12) (.tmp 132) rfl w7.heap.size rfl x zeroI rfl HX.out rfl _ (heap_alloc_new w7 _) ?_
               intro w8 hw8 hr8
               have hb8 : Below wr.heap.size wr w8 := (hb7.trans ((below_box w7 (iO zeroI 53)).mono hb7.size)).trans (hw8.below hb7.size)))
          have hb9 : Below wr.heap.size wr w8.drew := hb8.drew
          obtain ⟨xn, hxn⟩ : ∃ xn, xn = w7.heap.size := ⟨_, rfl⟩
          rw [← hxn] at hr8 ⊢
          have hS : w8.drew.rangeAt xn 0 (iC x) ∧ w8.drew.rangeAt bm (j * 14) (iC x) := ⟨io_range (W := w8.drew) hr8, range_low HMI.out hb9 HML.out⟩
          refine wp_region_held_drew (S := fun W => W.rangeAt xn 0 (iC x) ∧ W.rangeAt bm (j * 14) (iC x)) (by kernel_rfl) hS (fun hHeld => ?_)
          clear hHeld
          refine tk 0 (.int .i64 0) rfl (by kernel_rfl) (fun _ _ _ h => h) (Or.inl ⟨by rfl, ?_⟩) (by assumption) ?_
          · rintro W ⟨hA, hB⟩; go_simp
          (try simp only [Act.put, q1, q2, q3, q4, q5])
          refine tk 1 (.bool false) rfl (by kernel_rfl) (fun _ _ _ h => h) (Or.inl ⟨by rfl, ?_⟩) (by assumption) ?_
          · rintro W ⟨hA, hB⟩; go_simp
          (try simp only [Act.put, q1, q2, q3, q4, q5, q6])
          refine tk 2 (.bool false) rfl (by kernel_rfl) (fun _ _ _ h => h) (Or.inl ⟨by rfl, ?_⟩) (by assumption) ?_
          · rintro W ⟨hA, hB⟩; go_simp
          (try simp only [Act.put, q1, q2, q3, q4, q5, q6])
          refine tk 3 (.agg (iC x).toArray) rfl (by kernel_rfl) (fun _ _ _ h => h) (yieldsIf_load_mid rfl 53 (.tmp 12) rfl xn 0 rfl (iC x) _ (fun W hW => hW.1) uIn rfl (by rw [sizeIn, iC_length, HX.out])) (by assumption) ?_
          (try simp only [Act.put, q1, q2, q3, q4, q5, q6])
          refine tk 4 (.pointer (some ⟨bm, 0, none⟩)) rfl (by kernel_rfl) (fun _ _ _ h => h) (Or.inl ⟨by rfl, ?_⟩) (by assumption) ?_
          · rintro W ⟨hA, hB⟩; go_simp
          (try simp only [Act.put, q1, q2, q3, q4, q5, q6])
          refine tk 5 (.int .i64 j) rfl (by kernel_rfl) (fun _ _ _ h => h) (Or.inl ⟨by rfl, ?_⟩) (by assumption) ?_
          · rintro W ⟨hA, hB⟩; go_simp
          (try simp only [Act.put, q1, q2, q3, q4, q5, q6])
          refine tk 6 (.pointer (some ⟨bm, 0, none⟩)) rfl (by kernel_rfl) (fun _ _ _ h => h) (Or.inl ⟨by rfl, ?_⟩) (by assumption) ?_
          · rintro W ⟨hA, hB⟩; go_simp
          (try simp only [Act.put, q1, q2, q3, q4, q5, q6])
          refine tk 7 (.pointer (some ⟨bm, 0, none⟩)) rfl (by kernel_rfl) (fun _ _ _ h => h) (Or.inl ⟨by rfl, ?_⟩) (by assumption) ?_
          · rintro W ⟨hA, hB⟩; go_simp
          (try simp only [Act.put, q1, q2, q3, q4, q5, q6])
          refine tk 8 (.pointer (some ⟨bm, j * 14, none⟩)) rfl (by kernel_rfl) (fun _ _ _ h => h) (Or.inl ⟨by rfl, ?_⟩) (by assumption) ?_
          · rintro W ⟨hA, hB⟩; go_simp
          (try simp only [Act.put, q1, q2, q3, q4, q5, q6])
          refine tk 9 (.agg (iC x).toArray) rfl (by kernel_rfl) (fun _ _ _ h => h) (yieldsIf_load_mid rfl 32 (.tmp 142) rfl bm (j * 14) rfl (iC x) _ (fun W hW => hW.2) uRI rfl (by rw [sizeRI, iC_length, HX.out])) (by assumption) ?_
          (try simp only [Act.put, q1, q2, q3, q4, q5, q6])
          refine tk 10 (.bool false) rfl (by kernel_rfl) (fun _ _ _ h => h) (yields_neI rfl (.tmp 137) (.tmp 143) rfl x HX.out rfl rfl) (by assumption) ?_
          (try simp only [Act.put, q1, q2, q3, q4, q5, q6])
          refine tk 11 (.bool false) rfl (by kernel_rfl) (fun _ _ _ h => h) (Or.inl ⟨by rfl, ?_⟩) (by assumption) ?_
          · rintro W ⟨hA, hB⟩; go_simp
          (try simp only [Act.put, q1, q2, q3, q4, q5, q6])
          refine wpAnyH_done (by kernel_rfl) ?_ _
          go_wp2
          go_roundw
          case rel => exact ⟨j + 1, by omega, by go_num, Lib.hid (HSD.out _ hb9)⟩
          case measure => simp [intOf]; omega
        · obtain rfl : j = 48 := by omega
          obtain ⟨P, X, S, N, O, hsd⟩ := HS.out
          have hl64 : 64 ≤ X.cur.length := by rw [hsd.t.inv.xok.curLen, hsd.t.has.len]; have := HK.out.1; omega
          have cf := hsd.t.fs.cell
          have K0 : Hid (Calls Tryz.prog 13 #[.pointer (some ⟨b, 0, none⟩), .int .i64 0] wr fun e w' => ∃ v, e = .returned (.tuple #[v, .int .i64 0]) ∧ BSl w' v (encS S) ∧ Below wr.heap.size wr w') := Lib.hid (sGet_cur (n := 0) hsd.t.inv (by omega) (.inl (by decide)) hsd.t.cur.g0 (Below.refl _ _))
          have K63 : Hid (∀ W, Below wr.heap.size wr W → Calls Tryz.prog 13 #[.pointer (some ⟨b, 0, none⟩), .int .i64 63] W fun e w' => ∃ v, e = .returned (.tuple #[v, .int .i64 0]) ∧ BSl w' v (encS S) ∧ Below W.heap.size W w') := Lib.hid fun W hb => sGet_cur (n := 63) hsd.t.inv (by omega) (.inr (by decide)) hsd.t.cur.g63 hb
          have HCF : Hid (∀ W, Below wr.heap.size wr W → W.cell? ⟨bf, 0, none⟩ = some (.pointer (some ⟨b, 0, none⟩))) := Lib.hid fun W hb => (hsd.t.fs.low hb).cell
          have HBE := Lib.hid hsd.t.be
          clear hsd HS hl64
          go_upto_region 26 with (first
            | (go_at_call 13; (with_reducible refine K0.out.mono ?_); rintro e w7 ⟨va, rfl, hva, hb7⟩; have cf7 := HCF.out _ hb7)
            | (go_at_call 13; (with_reducible refine (K63.out _ hb7).mono ?_); rintro e w8 ⟨vb, rfl, hvb, hb8⟩))
          have q1 := conv_bsl (hva.below hb8)
          have q2 := conv_bsl hvb
          obtain ⟨s, hs⟩ : ∃ s, s = strOfNums (encS S) := ⟨_, rfl⟩
          rw [← hs] at q1 q2
          clear hs
          go_wp2
          go_ret
          exact ⟨rfl, HBE.out.trans ((hb7.trans (hb8.mono hb7.size)).mono HBE.out.size)⟩
theorem lTabPlays_of {w : World} {v : Value} {gr : Int} (hgr : 0 ≤ gr ∧ gr ≤ 255) {S : List O13} (hv : OpsU w v S) : Calls Tryz.prog 3 #[.int .u8 gr, v] w fun e w' => e = .returned (.bool true) ∧ Below w.heap.size w w' := by
  by_cases h : 80 < S.length
  · exact lTabP_long gr hv h
  · exact lTabP_short hgr hv (by omega)
end Go.Proofs.YtekeoljfdnfbgaaGreat
namespace Go.Proofs.YtekeoljfdnfbgaaGreat
set_option maxRecDepth 100000
open Go.RowKit Go.ChangeShapes Go.WideShapes
section
variable {H : Type} {enc : TypeId × Value → H} {W : World} {base : Nat} {spare : Nat → Bool} {held : Bool}
theorem isl_open {v : Value} {d : DataW H} {p : List MemPlace} {r : Reach} {b0 : Nat} (hv : Value.okWide Tryz.prog W r b0 69 v) (h : DataW.Trod enc Tryz.prog W base (fun _ => true) held 69 v d p) : ∃ l, ISl W v l := by
  obtain ⟨a0, len0, cap0, rfl⟩ := okWide_slice Tryz.underlying69 hv
  obtain ⟨fuel, hf⟩ := h
  rcases open_ints Tryz.underlying69 Tryz.underlying3 (by kernel_rfl) hf with ⟨hcs, _⟩ | ⟨x, l, c, zs, hcs, _, hl, hm, hz, hx, hcell, hwz⟩
  · simp [Value.cells] at hcs
    obtain ⟨rfl, rfl, rfl⟩ := hcs
    exact ⟨[], .inl ⟨rfl, rfl⟩⟩
  · simp [Value.cells] at hcs
    obtain ⟨rfl, rfl, rfl⟩ := hcs
    have hz' : zs.length = cap0 := by simpa using hz
    have hlen : (zs.take len0).length = len0 := by simp; omega
    refine ⟨zs.take len0, .inr ⟨x, cap0, by rw [hlen], fun j hj => ?_⟩⟩
    rw [hlen] at hj
    have h0 := hcell j (by omega)
    have hget : (zs.take len0).getD j 0 = zs.getD j 0 := by simp [List.getD_eq_getElem?_getD, hj]
    obtain ⟨b, off, spot⟩ := x
    have hspot : spot = none := by
      have h00 := hcell 0 (by omega)
      simpa [Addr.add] using World.cell?_spot h00
    subst hspot
    rw [Addr.add_lit] at h0
    exact ⟨by have := block_lt_of_cell h0; exact this, rfl, by rw [hget]; exact h0⟩
end
end Go.Proofs.YtekeoljfdnfbgaaGreat
