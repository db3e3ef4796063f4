/- The law's Theirs, theirs, same; both sides at once. -/
import Derived.Test.YtbikbglkecbgjaaInoO
namespace Go.Proofs.Ytbikbglkecbgjaa
open Go.RowKit
set_option linter.unusedVariables false

theorem list14_ex {x : List Int} (h : x.length = 14) : ∃ kd ln sz d0 d1 d2 d3 d4 d5 d6 d7 d8 d9 mp : Int, x = [kd, ln, sz, d0, d1, d2, d3, d4, d5, d6, d7, d8, d9, mp] := by
  match x, h with
  | [kd, ln, sz, d0, d1, d2, d3, d4, d5, d6, d7, d8, d9, mp], _ => exact ⟨kd, ln, sz, d0, d1, d2, d3, d4, d5, d6, d7, d8, d9, mp, rfl⟩
theorem Theirs7_at (kd ln sz d0 d1 d2 d3 d4 d5 d6 d7 d8 d9 mp : Int) (w : World) : Calls Try.prog 13 #[.agg #[.int .i64 kd, .int .i64 ln, .int .i64 sz, .int .i64 d0, .int .i64 d1, .int .i64 d2, .int .i64 d3, .int .i64 d4, .int .i64 d5, .int .i64 d6, .int .i64 d7, .int .i64 d8, .int .i64 d9, .int .i64 mp]] w fun e w' => e = .returned (.agg #[.int .i64 kd, .int .i64 ln, .int .i64 sz, .int .i64 d0, .int .i64 d1, .int .i64 d2, .int .i64 d3, .int .i64 d4, .int .i64 d5, .int .i64 d6, .int .i64 d7, .int .i64 d8, .int .i64 d9, .int .i64 mp]) ∧ Below w.heap.size w w' := by
  obtain ⟨w2, hw2⟩ : ∃ w2, w2 = (w.alloc (.cells #[.int .i64 kd, .int .i64 ln, .int .i64 sz, .int .i64 d0, .int .i64 d1, .int .i64 d2, .int .i64 d3, .int .i64 d4, .int .i64 d5, .int .i64 d6, .int .i64 d7, .int .i64 d8, .int .i64 d9, .int .i64 mp] 41)).alloc (.cells #[.int .i64 0, .int .i64 0, .int .i64 0, .int .i64 0, .int .i64 0, .int .i64 0, .int .i64 0, .int .i64 0, .int .i64 0, .int .i64 0, .int .i64 0, .int .i64 0, .int .i64 0, .int .i64 0] 39) := ⟨_, rfl⟩
  have hb2 : Below w.heap.size w w2 := by rw [hw2]; exact ((Below.refl _ _).alloc (Nat.le_refl _) _).alloc (by simp) _
  have hr0 : w2.heap[w.heap.size]? = some (iO [kd, ln, sz, d0, d1, d2, d3, d4, d5, d6, d7, d8, d9, mp] 41) := by rw [hw2, heap_alloc_old _ _ (by simp)]; exact heap_alloc_new _ _
  have hr1 : w2.heap[w.heap.size + 1]? = some (iO zeroI 39) := by rw [hw2]; exact heap_alloc2_new _ _ _
  have H2 := Lib.hid hw2.symm
  have HRG := Lib.hid (io_range hr0)
  have HR1 := Lib.hid hr1
  have u1 := Try.underlying41
  have u2 := Try.underlying39
  have HI : Hid ((Try.prog.info? 39).map (·.size) = some ([kd, ln, sz, d0, d1, d2, d3, d4, d5, d6, d7, d8, d9, mp] : List Int).length) := Lib.hid infoN7
  have HIR : Hid ((Try.prog.info? 41).map (·.size) = some ([kd, ln, sz, d0, d1, d2, d3, d4, d5, d6, d7, d8, d9, mp] : List Int).length) := Lib.hid infoR7
  clear hw2 hr0 hr1
  go_enter Try.func13, Try.ntmps13
  go_wp2_with (first
    | (rw [H2.out]; with_reducible refine wpList_load_nums rfl 41 (.tmp 1) rfl w.heap.size 0 rfl [kd, ln, sz, d0, d1, d2, d3, d4, d5, d6, d7, d8, d9, mp] _ HRG.out u1 rfl HIR.out ?_)
    | (with_reducible refine wpList_store_nums rfl 39 (.tmp 2) (.tmp 3) rfl (w.heap.size + 1) rfl [kd, ln, sz, d0, d1, d2, d3, d4, d5, d6, d7, d8, d9, mp] zeroI rfl rfl HI.out _ HR1.out ?_; intro w7 hw7 hr7))
  refine bodyPost_ret (ret_nums 39 rfl _ _ (w.heap.size + 1) _ _ _ u2 rfl HI.out rfl hr7) rfl ⟨rfl, hb2.trans (hw7.below (Nat.le_succ _))⟩
theorem Theirs7_of {L : List Int} (hL : L.length = 14) (w : World) : Calls Try.prog 13 #[.agg (iC L).toArray] w fun e w' => e = .returned (.agg (iC L).toArray) ∧ Below w.heap.size w w' := by
  obtain ⟨kd, ln, sz, d0, d1, d2, d3, d4, d5, d6, d7, d8, d9, mp, rfl⟩ := list14_ex hL
  exact Theirs7_at kd ln sz d0 d1 d2 d3 d4 d5 d6 d7 d8 d9 mp w
theorem take_more (O : List (List Int)) (k : Nat) (hk : k < O.length) : O.take (k + 1) = O.take k ++ [O.getD k []] := by
  rw [List.take_succ_eq_append_getElem hk]
  simp [List.getD_eq_getElem?_getD, hk]
theorem theirs7_any {w : World} {v : Value} {O : List (List Int)} (hO : O.length ≤ 1000) (hs : NSl w v O) : Calls Try.prog 7 #[v] w fun e w' => ∃ u, e = .returned u ∧ NSl w' u O ∧ Below w.heap.size w w' := by
  obtain ⟨ao, cap, rfl, hc⟩ := hs.open'
  have H14 := Lib.hid hs.1
  have HTK := Lib.hid (take_more O)
  have HTL : Hid (O.take O.length = O) := Lib.hid List.take_length
  have HLT := Lib.hid (fun k => List.length_take (i := k) (l := O))
  have HG := Lib.hid (fun k hk => len14_get hs.1 k hk)
  obtain ⟨n, hn⟩ : ∃ n, n = O.length := ⟨_, rfl⟩
  rw [← hn] at hc hO HTK HTL HLT HG ⊢
  have HC := Lib.hid hc
  have u1 := Try.underlying41
  have u2 := Try.underlying28
  clear hs hc hn
  go_enter Try.func7, Try.ntmps7
  go_wp2
  go_loopw [3, 7] (fun u i wr => ∃ k : Nat, k ≤ n ∧ i = .int .i64 k ∧ Hid (NR wr w.heap.size 39 u (O.take k)) ∧ Below w.heap.size w wr) (fun _ i _ => n - (intOf i).toNat)
  case atStart => exact ⟨0, by omega, rfl, nr_nil _ _ _, Below.refl _ _⟩
  case round =>
    obtain ⟨k, hk, rfl, HU, hbr⟩ := hrel
    by_cases hlt : k < n
    · obtain ⟨b, off, rfl, hb, hcc⟩ := HC.out (by omega)
      have hrg := range_low (hcc k hlt) hbr hb
      have h14 := HG.out k hlt
      have htk := HTK.out k hlt
      obtain ⟨x, hx⟩ : ∃ x, x = O.getD k [] := ⟨_, rfl⟩
      rw [← hx] at hrg h14 htk
      have ek : (k : Int) < (n : Int) := by omega
      have HRG := Lib.hid hrg
      have HX14 := Lib.hid h14
      have HI14 : Hid ((Try.prog.info? 41).map (·.size) = some x.length) := Lib.hid (by rw [infoR7, h14])
      have KT := Lib.hid (Theirs7_of h14)
      have HNX := Lib.hid htk
      have HLK : Hid ((O.take k).length ≤ 1000000) := Lib.hid (by rw [HLT.out]; omega)
      clear hx hrg h14 htk hcc
      go_wp2_with (first
        | (with_reducible refine wpList_load_nums rfl 41 (.tmp 13) rfl b (off + k * 14) rfl x _ HRG.out u1 rfl HI14.out ?_)
        | (go_at_call 13; refine (KT.out _).mono ?_; rintro e w5 ⟨rfl, hb5⟩
           have HB5 := Lib.hid (hbr.trans (hb5.mono hbr.size))
           have HN5 := Lib.hid (HU.out.below hb5))
        | (with_reducible refine wpList_slice_ino rfl 28 39 (.tmp 15) rfl u2 infoNz x HX14.out rfl ?_)
        | (at_builtin
           refine wpList_append_ino w5 x HX14.out rfl 28 39 (.tmp 10) (.tmp 16) rfl u2 infoNz w.heap.size _ (O.take k) rfl HN5.out HLK.out rfl HB5.out.size ?_
           intro v7 w7 hob7 hb7))
      go_roundw
      case rel => exact ⟨k + 1, by omega, by go_num, by show NR _ _ _ _ (O.take (k + 1)); rw [HNX.out]; exact hob7, HB5.out.trans hb7⟩
      case measure => simp [intOf]; omega
    · obtain rfl : k = n := by omega
      have hfin := HU.out
      rw [HTL.out] at hfin
      have HF := Lib.hid hfin.sl
      clear hfin
      go_wp2
      go_ret
      exact ⟨_, rfl, HF.out, hbr⟩
/-- An inode's cells, one by one. -/
theorem ino_cells {W : World} {b o : Nat} {kd ln sz d0 d1 d2 d3 d4 d5 d6 d7 d8 d9 mp : Int} (h : W.rangeAt b o (iC [kd, ln, sz, d0, d1, d2, d3, d4, d5, d6, d7, d8, d9, mp])) :
    (W.cell? ⟨b, o, none⟩ = some (.int .i64 kd) ∧ W.cell? ⟨b, o + 1, none⟩ = some (.int .i64 ln) ∧ W.cell? ⟨b, o + 2, none⟩ = some (.int .i64 sz) ∧ W.cell? ⟨b, o + 3, none⟩ = some (.int .i64 d0)) ∧
    (W.cell? ⟨b, o + 4, none⟩ = some (.int .i64 d1) ∧ W.cell? ⟨b, o + 5, none⟩ = some (.int .i64 d2) ∧ W.cell? ⟨b, o + 6, none⟩ = some (.int .i64 d3) ∧ W.cell? ⟨b, o + 7, none⟩ = some (.int .i64 d4)) ∧
    (W.cell? ⟨b, o + 8, none⟩ = some (.int .i64 d5) ∧ W.cell? ⟨b, o + 9, none⟩ = some (.int .i64 d6) ∧ W.cell? ⟨b, o + 10, none⟩ = some (.int .i64 d7) ∧ W.cell? ⟨b, o + 11, none⟩ = some (.int .i64 d8)) ∧
    W.cell? ⟨b, o + 12, none⟩ = some (.int .i64 d9) ∧ W.cell? ⟨b, o + 13, none⟩ = some (.int .i64 mp) :=
  ⟨⟨h 0 _ rfl, h 1 _ rfl, h 2 _ rfl, h 3 _ rfl⟩, ⟨h 4 _ rfl, h 5 _ rfl, h 6 _ rfl, h 7 _ rfl⟩, ⟨h 8 _ rfl, h 9 _ rfl, h 10 _ rfl, h 11 _ rfl⟩, h 12 _ rfl, h 13 _ rfl⟩
set_option maxHeartbeats 4000000 in
theorem same7_any {w : World} {v1 v2 : Value} {O : List (List Int)} (hO : O.length ≤ 1000) (h1 : NSl w v1 O) (h2 : NSl w v2 O) :
    Calls Try.prog 11 #[v1, v2] w fun e w' => e = .returned (.bool true) ∧ ∃ m, w' = w.drewN m := by
  obtain ⟨a1, c1, rfl, k1⟩ := h1.open'
  obtain ⟨a2, c2, rfl, k2⟩ := h2.open'
  have HG := Lib.hid (fun k hk => len14_get h1.1 k hk)
  obtain ⟨n, hn⟩ : ∃ n, n = O.length := ⟨_, rfl⟩
  clear h1 h2
  rw [← hn] at k1 k2 hO HG ⊢
  have H1 := Lib.hid k1
  have H2 := Lib.hid k2
  clear k1 k2 hn
  go_enter Try.func11, Try.ntmps11
  go_wp2
  go_loopw [13] (fun i wr => ∃ k : Nat, k ≤ n ∧ i = .int .i64 k ∧ ∃ m, wr = w.drewN m) (fun i _ => n - (intOf i).toNat)
  case atStart => exact ⟨0, by omega, rfl, 0, rfl⟩
  case round =>
    obtain ⟨k, hk, rfl, m, rfl⟩ := hrel
    by_cases hlt : k < n
    · obtain ⟨b1, o1, rfl, _, f1⟩ := H1.out (by omega)
      obtain ⟨b2, o2, rfl, _, f2⟩ := H2.out (by omega)
      have r1 := f1 k hlt
      have r2 := f2 k hlt
      obtain ⟨kd, ln, sz, d0, d1, d2, d3, d4, d5, d6, d7, d8, d9, mp, hx⟩ := list14_ex (HG.out k hlt)
      rw [hx] at r1 r2
      have q1 := ino_cells r1
      have q2 := ino_cells r2
      have heq := fun W => eq_arr10 d0 d1 d2 d3 d4 d5 d6 d7 d8 d9 d0 d1 d2 d3 d4 d5 d6 d7 d8 d9 W
      have ek : (k : Int) < (n : Int) := by omega
      clear f1 f2 r1 r2 hx
      go_wp2
      go_quiet (fail)
      go_wp2
      go_roundw
      case rel => exact ⟨k + 1, by omega, by go_num, _, rfl⟩
      case measure => simp [intOf]; omega
    · go_wp2
      go_ret
      exact ⟨rfl, m, rfl⟩
/-- Encode of both sides. -/
theorem encT_both (O : List (List Int)) (hO : Len14 O) : ∃ (x : List Int) (E : Int), Byt x ∧ (E = 0 ∧ hasT x ∧ rdT x 8 = O ∨ E = 1) ∧
    (∀ (W : World) (v : Value), NSl W v O → Calls Try.prog 6 #[v] W fun e w' => ∃ u, e = .returned (.tuple #[u, .int .i64 E]) ∧ BSl w' u x ∧ Below W.heap.size W w') ∧
    (∀ (W : World) (v : Value), NSl W v O → Calls Try.prog 8 #[v] W fun e w' => ∃ u, e = .returned (.tuple #[u, .int .i64 E]) ∧ BSl w' u x ∧ Below W.heap.size W w') := by
  cases h : allF O
  · exact ⟨[], 1, byt_nil, .inr rfl, fun W v hs => (iEnc_no hs h).mono fun e w' ⟨he, hb⟩ => ⟨_, he, bsl_nil _, hb⟩, fun W v hs => (rEncI_no hs h).mono fun e w' ⟨he, hb⟩ => ⟨_, he, bsl_nil _, hb⟩⟩
  · exact ⟨encT O, 0, encK7_byt _ 8, .inl ⟨rfl, has_enc7 hO h, rdT_enc hO h⟩, fun W v hs => (iEnc_yes hs h).mono fun e w' ⟨u, he, ho, hb⟩ => ⟨u, he, ho.bsl, hb⟩, fun W v hs => (rEncI_yes hs h).mono fun e w' ⟨u, he, ho, hb⟩ => ⟨u, he, ho.bsl, hb⟩⟩
/-- Decode of both sides. -/
theorem decT_both (b : List Int) : ∃ (O : List (List Int)) (E : Int), O.length ≤ 8 ∧ (hasT b → E = 0 ∧ O = rdT b 8) ∧
    (∀ (W : World) (v : Value), BSl W v b → Calls Try.prog 9 #[v] W fun e w' => ∃ u, e = .returned (.tuple #[u, .int .i64 E]) ∧ NSl w' u O ∧ Below W.heap.size W w') ∧
    (∀ (W : World) (v : Value), BSl W v b → Calls Try.prog 10 #[v] W fun e w' => ∃ u, e = .returned (.tuple #[u, .int .i64 E]) ∧ NSl w' u O ∧ Below W.heap.size W w') := by
  have key : ∀ (W : World) (e : Ending) (w' : World), DecT7 b W e w' → (hasT b → ∃ u, e = .returned (.tuple #[u, .int .i64 0]) ∧ NSl w' u (rdT b 8) ∧ Below W.heap.size W w') ∧ (¬ hasT b → ∃ u, e = .returned (.tuple #[u, .int .i64 18]) ∧ NSl w' u [] ∧ Below W.heap.size W w') := by
    rintro W e w' (⟨h, u, he, ho, hb⟩ | ⟨h, he, hb⟩)
    · exact ⟨fun _ => ⟨u, he, ho, hb⟩, fun hn => absurd h hn⟩
    · exact ⟨fun hp => absurd hp h, fun _ => ⟨_, he, nsl_nil _, hb⟩⟩
  by_cases h : hasT b
  · exact ⟨rdT b 8, 0, by rw [rdT_length]; exact Nat.le_refl _, fun _ => ⟨rfl, rfl⟩, fun W v hs => (iDec_any hs).mono fun e w' ho => (key W e w' ho).1 h, fun W v hs => (rDecI_any hs).mono fun e w' ho => (key W e w' ho).1 h⟩
  · exact ⟨[], 18, by decide, fun hh => absurd hh h, fun W v hs => (iDec_any hs).mono fun e w' ho => (key W e w' ho).2 h, fun W v hs => (rDecI_any hs).mono fun e w' ho => (key W e w' ho).2 h⟩
end Go.Proofs.Ytbikbglkecbgjaa
