/- GroupPages: the walk of the law itself. -/
import Derived.Test.YtflkggoknmgbnaaGrpG
import Derived.Test.YtflkggoknmgbnaaGrpC
import Derived.Deep.RegionHeld3
namespace Go.Proofs.Ytflkggoknmgbnaa
open Go.RowKit BM
set_option linter.unusedVariables false

theorem page_both (O : List (Int × Int)) : ∃ (l : List Int) (E : Int), (∀ (W : World) (v : Value), OwSl W v O → Calls Try.prog 13 #[v] W fun e w' => ∃ u, e = .returned (.tuple #[u, .int .i64 E]) ∧ BSl w' u l ∧ Below W.heap.size W w') ∧
    (∀ (W : World) (v : Value), OwSl W v O → Calls Try.prog 14 #[v] W fun e w' => ∃ u, e = .returned (.tuple #[u, .int .i64 E]) ∧ BSl w' u l ∧ Below W.heap.size W w') := by
  cases h : allO O
  · exact ⟨[], 1, fun W v hs => (grPage_no hs h).mono fun e w' ⟨he, hb⟩ => ⟨_, he, bsl_nil _, hb⟩, fun W v hs => (rrPage_not hs h).mono fun e w' ⟨he, hb⟩ => ⟨_, he, bsl_nil _, hb⟩⟩
  · exact ⟨pageS O, 0, fun W v hs => (grPage_yes hs h).mono fun e w' ⟨u, he, ho, hb⟩ => ⟨u, he, ho.bsl, hb⟩, fun W v hs => rrPage_is hs h⟩
theorem owsl_nil (w : World) : OwSl w (.slice none 0 0) [] := (owr_nil w 0).sl
theorem own_both (l : List Int) : ∃ (O : List (Int × Int)) (E : Int), O.length ≤ 64 ∧ (∀ (W : World) (v : Value), BSl W v l → Calls Try.prog 15 #[v] W fun e w' => ∃ u, e = .returned (.tuple #[u, .int .i64 E]) ∧ OwSl w' u O ∧ Below W.heap.size W w') ∧
    (∀ (W : World) (v : Value), BSl W v l → Calls Try.prog 16 #[v] W fun e w' => ∃ u, e = .returned (.tuple #[u, .int .i64 E]) ∧ OwSl w' u O ∧ Below W.heap.size W w') := by
  have key : ∀ (W : World) (e : Ending) (w' : World), OwnOut l W e w' → (pagesB l → ∃ u, e = .returned (.tuple #[u, .int .i64 0]) ∧ OwSl w' u (ownK l 64) ∧ Below W.heap.size W w') ∧ (¬ pagesB l → ∃ u, e = .returned (.tuple #[u, .int .i64 18]) ∧ OwSl w' u [] ∧ Below W.heap.size W w') := by
    rintro W e w' (⟨h, u, he, ho, hb⟩ | ⟨h, he, hb⟩)
    · exact ⟨fun _ => ⟨u, he, ho.sl, hb⟩, fun hn => absurd h hn⟩
    · exact ⟨fun hp => absurd hp h, fun _ => ⟨_, he, owsl_nil _, hb⟩⟩
  by_cases h : pagesB l
  · exact ⟨ownK l 64, 0, by rw [ownK_length]; exact Nat.le_refl _, fun W v hs => (grOwn_any hs).mono fun e w' ho => (key W e w' ho).1 h, fun W v hs => (rrOwn_any hs).mono fun e w' ho => (key W e w' ho).1 h⟩
  · exact ⟨[], 18, by decide, fun W v hs => (grOwn_any hs).mono fun e w' ho => (key W e w' ho).2 h, fun W v hs => (rrOwn_any hs).mono fun e w' ho => (key W e w' ho).2 h⟩
theorem fresh_both (g : Int) : ∃ O : List (Int × Int), O.length ≤ 64 ∧ (∀ W : World, Calls Try.prog 22 #[.int .i64 g] W fun e w' => ∃ u, e = .returned u ∧ OwSl w' u O ∧ Below W.heap.size W w') ∧
    (∀ W : World, Calls Try.prog 23 #[.int .i64 g] W fun e w' => ∃ u, e = .returned u ∧ OwSl w' u O ∧ Below W.heap.size W w') := by
  by_cases h : 0 ≤ g ∧ g < 12
  · exact ⟨freshK g 64, by rw [freshK_length]; exact Nat.le_refl _, fun W => (grFresh_yes g h.1 h.2 W).mono fun e w' ⟨u, he, ho, hb⟩ => ⟨u, he, ho.sl, hb⟩, fun W => (rrFresh_yes g h.1 h.2 W).mono fun e w' ⟨u, he, ho, hb⟩ => ⟨u, he, ho.sl, hb⟩⟩
  · exact ⟨[], by decide, fun W => (grFresh_no g h W).mono fun e w' ⟨he, hw⟩ => ⟨_, he, owsl_nil _, by rw [← hw]; exact Below.refl _ _⟩, fun W => (rrFresh_no g h W).mono fun e w' ⟨he, hw⟩ => ⟨_, he, owsl_nil _, by rw [← hw]; exact Below.refl _ _⟩⟩
theorem awake6_from {w0 w : World} (hb : Below w0.heap.size w0 w) : Calls Try.prog 6 #[] w fun e w' => e = .returned (.bool true) ∧ Below w0.heap.size w0 w' :=
  (awake6_any w).mono fun _ _ ⟨h1, h2⟩ => ⟨h1, hb.trans (h2.mono hb.size)⟩

theorem lPages_long (g : Int) (v2 : Value) (ao : Option Addr) (len cap : Nat) (w : World) (h : 200 < len) :
    Calls Try.prog 4 #[.int .i64 g, .slice ao len cap, v2] w fun e w' => e = .returned (.bool true) ∧ Below w.heap.size w w' := by
  have hb00 : Below w.heap.size w w := Below.refl _ _
  go_enter Try.func4, Try.ntmps4
  go_wp2_with (go_at_call 6; refine (awake6_from (by assumption)).mono ?_; rintro e w1 ⟨rfl, hb⟩)
  go_ret
  exact ⟨rfl, hb⟩

set_option maxHeartbeats 4000000 in
theorem lPages_any (g : Int) {w : World} {v1 v2 : Value} {O : List (Int × Int)} {l : List Int} (h1 : OwSl w v1 O) (h2 : BSl w v2 l) (hO : O.length ≤ 200) :
    Calls Try.prog 4 #[.int .i64 g, v1, v2] w fun e w' => e = .returned (.bool true) ∧ Below w.heap.size w w' := by
  obtain ⟨lp, Ep, P1, P2⟩ := page_both O
  obtain ⟨Oo, Eo, hOo, Q1, Q2⟩ := own_both l
  obtain ⟨Of, hOf, F1, F2⟩ := fresh_both g
  have HO1 := Lib.hid h1
  have HO2 := Lib.hid h2
  have HP1 := Lib.hid P1
  have HP2 := Lib.hid P2
  have HQ1 := Lib.hid Q1
  have HQ2 := Lib.hid Q2
  have HF1 := Lib.hid F1
  have HF2 := Lib.hid F2
  have HOO : Hid (Oo.length ≤ 1000) := Lib.hid (by omega)
  have HOF : Hid (Of.length ≤ 1000) := Lib.hid (by omega)
  obtain ⟨ao, cap, rfl, hx⟩ := h1.open'
  obtain ⟨n, hn⟩ : ∃ n, n = O.length := ⟨_, rfl⟩
  have HX := Lib.hid hx
  have HN := Lib.hid hn
  have hdl : decide ((200 : Int) < (n : Int)) = false := by simp; omega
  rw [← hn] at hO HO1 ⊢
  clear h1 h2 P1 P2 Q1 Q2 F1 F2 hOo hOf hx hn
  go_enter Try.func4, Try.ntmps4
  go_wp2_with (first
    | (go_at_call 6; refine (awake6_any _).mono ?_; rintro e w2 ⟨rfl, hb2⟩)
    | (go_at_call 13; refine (HP1.out _ _ (HO1.out.below hb2)).mono ?_; rintro e w3 ⟨u3, rfl, hs3, hb3⟩; have hb03 := hb2.trans (hb3.mono hb2.size))
    | (go_at_call 14; refine (HP2.out _ _ (HO1.out.below hb03)).mono ?_; rintro e w4 ⟨u4, rfl, hs4, hb4⟩; have hb04 := hb03.trans (hb4.mono hb03.size))
    | (go_at_call 15; refine (HQ1.out _ _ (HO2.out.below hb04)).mono ?_; rintro e w5 ⟨u5, rfl, ho5, hb5⟩; have hb05 := hb04.trans (hb5.mono hb04.size))
    | (go_at_call 16; refine (HQ2.out _ _ (HO2.out.below hb05)).mono ?_; rintro e w6 ⟨u6, rfl, ho6, hb6⟩; have hb06 := hb05.trans (hb6.mono hb05.size)
       have hc4 := conv_bsl ((hs4.below hb5).below hb6)
       have hc3 := conv_bsl (((hs3.below hb4).below hb5).below hb6)
       generalize strOfNums lp = T at hc4 hc3
       have HO5 := Lib.hid (ho5.below hb6)
       have HO6 := Lib.hid ho6
       clear hs3 hs4 hb3 hb4 hb5 hb6 ho5 ho6 hb03 hb04 hb05)
    | (go_at_call 17; refine (sameO6_any HOO.out HO5.out HO6.out).mono ?_; rintro e w7 ⟨rfl, m7, rfl⟩))
  have hb08 : Below w.heap.size w (w6.drewN m7) := below_drewN' hb06 m7
  clear hc3 hc4 hb06 hb2 HP1 HP2 HQ1 HQ2 HO5 HO6 HOO HO2
  generalize w6.drewN m7 = w8 at hb08 ⊢
  go_loopw [69] (fun i wr => ∃ k : Nat, k ≤ n ∧ i = .int .i64 k ∧ Below w.heap.size w wr) (fun i _ => n - (intOf i).toNat)
  case atStart => exact ⟨0, by omega, rfl, hb08⟩
  case round =>
    obtain ⟨k, hk, rfl, hbr⟩ := hrel
    clear hb08
    by_cases hlt : k < n
    · obtain ⟨b, off, rfl, hbl, hcc⟩ := HX.out (by have := HN.out; omega)
      have hck := hcc k (by have := HN.out; omega)
      have hbd := HO1.out.1 k
      obtain ⟨x, hx⟩ : ∃ x, x = (O.getD k (0, 0)).1 := ⟨_, rfl⟩
      obtain ⟨y, hy⟩ : ∃ y, y = (O.getD k (0, 0)).2 := ⟨_, rfl⟩
      rw [← hx, ← hy] at hck hbd
      obtain ⟨B, hB⟩ : ∃ B, frmO x y = B := ⟨_, rfl⟩
      have HG1 := Lib.hid (grForm_is x y hbd.1 hbd.2 B hB)
      have HG2 := Lib.hid (rrForm_is x y hbd.1 hbd.2 B hB)
      have ek : (k : Int) < (n : Int) := by omega
      have SK := Lib.hid (fun W (h : Below w.heap.size w W) => And.intro ((h.cell (p := ⟨b, off + k * 2, none⟩) hbl).trans hck.1) ((h.cell (p := ⟨b, off + k * 2 + 1, none⟩) hbl).trans hck.2))
      obtain ⟨d1, d2⟩ := SK.out _ hbr.drew
      have hbd0 : Below w.heap.size w wr.drew := hbr.drew
      clear hx hy hB hck hcc
      go_wp2
      go_region_held3 (fun W => W.cell? ⟨b, off + k * 2, none⟩ = some (.int .u16 x) ∧ W.cell? ⟨b, off + k * 2 + 1, none⟩ = some (.int .u16 y)) (exact SK.out _ (by assumption)) (first
        | (go_at_call 18; refine (HG1.out _).mono ?_; rintro e w9 ⟨rfl, hb9⟩; have hb09 : Below w.heap.size w w9 := hbd0.trans (hb9.mono hbd0.size))
        | (go_at_call 19; refine (HG2.out _).mono ?_; rintro e w10 ⟨rfl, hb10⟩; have hb010 : Below w.heap.size w w10 := hb09.trans (hb10.mono hb09.size)))
      go_wp2_with fail
      go_roundw
      case rel => first | exact ⟨k + 1, by omega, by go_num, hb010⟩ | ((repeat apply Exists.intro); exact ⟨⟨k + 1, by omega, by go_num, hb010⟩, rfl⟩)
      case measure => simp [intOf]; omega
    · have HBR := Lib.hid hbr
      have hso := HO1.out.below hbr
      by_cases hgd : (0 ≤ g ∧ g < 12) ∧ allO O = true
      · have K1 := Lib.hid (grOf_good hso g hgd.1.1 hgd.1.2 hgd.2)
        have K2 := Lib.hid (fun W (v : Value) (h : OwSl W v O) => rrOf_good h g hgd.1.1 hgd.1.2 hgd.2)
        have HSO := Lib.hid hso
        clear hgd hso
        go_wp2_with (first
          | (go_at_call 20; refine K1.out.mono ?_; rintro e w9 ⟨p, r, rfl, hrow9, hb9⟩)
          | (with_reducible refine wpList_store2 rfl 30 sizeD (.tmp 16) (.tmp 88) rfl w9.heap.size rfl _ _ _ _ rfl rfl rfl _ (heap_alloc_new w9 _) ?_; intro w10 hw10 hr10
             have hb10 : Below w9.heap.size w9 w10 := (below_box w9 _).trans (hw10.below (Nat.le_refl _))
             have hbr10 : Below wr.heap.size wr w10 := hb9.trans (hb10.mono hb9.size))
          | (go_at_call 21; refine (K2.out _ _ (HSO.out.below hbr10)).mono ?_; rintro e w11 ⟨vL, rfl, hkr11, hb11⟩
             have hr11 := below_hold hr10 hb11
             obtain ⟨aL, cL, rfl⟩ := hkr11.ksl.shape)
          | (with_reducible refine wpList_store2 rfl 34 sizeRD (.tmp 17) (.tmp 94) rfl w11.heap.size rfl _ _ _ _ rfl rfl rfl _ (heap_alloc_new w11 _) ?_; intro w12 hw12 hr12
             have hb12 : Below w11.heap.size w11 w12 := (below_box w11 _).trans (hw12.below (Nat.le_refl _))
             have hd12 := below_hold hr11 hb12
             have c0 : w12.cell? ⟨w9.heap.size, 0, none⟩ = some (.int .i64 g) := by rw [cell_of_row _ _ _ _ _ _ hd12]; rfl
             have c1 : w12.cell? ⟨w9.heap.size, 1, none⟩ = some (.pointer (some ⟨p, 0, none⟩)) := by rw [cell_of_row _ _ _ _ _ _ hd12]; rfl
             have e0 : w12.cell? ⟨w11.heap.size, 0, none⟩ = some (.int .i64 g) := by rw [cell_of_row _ _ _ _ _ _ hr12]; rfl
             have e1 : w12.cell? ⟨w11.heap.size, 1, none⟩ = some (.slice aL (usedK O 64).length cL) := by rw [cell_of_row _ _ _ _ _ _ hr12]; rfl
             have HD := Lib.hid (sameD6_eq g (((hrow9.below hb10 hrow9.lt.1 hrow9.lt.2).below hb11 (by have := hrow9.lt; have := hb10.size; omega) (by have := hrow9.lt; have := hb10.size; omega)).below hb12 (by have := hrow9.lt; have := hb10.size; have := hb11.size; omega) (by have := hrow9.lt; have := hb10.size; have := hb11.size; omega)) (hkr11.ksl.below hb12))
             have hbr12 : Below wr.heap.size wr w12 := (hbr10.trans (hb11.mono hbr10.size)).trans (hb12.mono (Nat.le_trans hbr10.size hb11.size))
             clear hd12 hr12 hr11 hr10)
          | (go_at_call 11; refine HD.out.mono ?_; rintro e w13 ⟨rfl, hb13⟩
             have hbr13 : Below wr.heap.size wr w13 := hbr12.trans (hb13.mono hbr12.size))
          | (go_at_call 22; refine (HF1.out _).mono ?_; rintro e w14 ⟨f1, rfl, hf1, hb14⟩
             have hbr14 : Below wr.heap.size wr w14 := hbr13.trans (hb14.mono hbr13.size))
          | (go_at_call 23; refine (HF2.out _).mono ?_; rintro e w15 ⟨f2, rfl, hf2, hb15⟩
             have hbr15 : Below wr.heap.size wr w15 := hbr14.trans (hb15.mono hbr14.size)
             have hf15 := hf1.below hb15)
          | (go_at_call 17; refine (sameO6_any HOF.out hf15 hf2).mono ?_; rintro e w16 ⟨rfl, m16, rfl⟩))
        go_ret
        exact ⟨rfl, below_drewN' (HBR.out.trans (hbr15.mono HBR.out.size)) m16⟩
      · have K1 := Lib.hid (grOf_bad hso g hgd)
        have K2 := Lib.hid (fun W (v : Value) (h : OwSl W v O) => rrOf_bad h g hgd)
        have HSO := Lib.hid hso
        clear hgd hso
        go_wp2_with (first
          | (go_at_call 20; refine K1.out.mono ?_; rintro e w9 ⟨rfl, hb9⟩)
          | (with_reducible refine wpList_store2 rfl 30 sizeD (.tmp 16) (.tmp 88) rfl w9.heap.size rfl _ _ _ _ rfl rfl rfl _ (heap_alloc_new w9 _) ?_; intro w10 hw10 hr10
             have hb10 : Below w9.heap.size w9 w10 := (below_box w9 _).trans (hw10.below (Nat.le_refl _))
             have hbr10 : Below wr.heap.size wr w10 := hb9.trans (hb10.mono hb9.size))
          | (go_at_call 21; refine (K2.out _ _ (HSO.out.below hbr10)).mono ?_; rintro e w11 ⟨rfl, hb11⟩)
          | (with_reducible refine wpList_store2 rfl 34 sizeRD (.tmp 17) (.tmp 94) rfl w11.heap.size rfl _ _ _ _ rfl rfl rfl _ (heap_alloc_new w11 _) ?_; intro w12 hw12 hr12
             have hb12 : Below w11.heap.size w11 w12 := (below_box w11 _).trans (hw12.below (Nat.le_refl _))
             have hbr13 : Below wr.heap.size wr w12 := (hbr10.trans (hb11.mono hbr10.size)).trans (hb12.mono (Nat.le_trans hbr10.size hb11.size)))
          | (go_at_call 22; refine (HF1.out _).mono ?_; rintro e w14 ⟨f1, rfl, hf1, hb14⟩
             have hbr14 : Below wr.heap.size wr w14 := hbr13.trans (hb14.mono hbr13.size))
          | (go_at_call 23; refine (HF2.out _).mono ?_; rintro e w15 ⟨f2, rfl, hf2, hb15⟩
             have hbr15 : Below wr.heap.size wr w15 := hbr14.trans (hb15.mono hbr14.size)
             have hf15 := hf1.below hb15)
          | (go_at_call 17; refine (sameO6_any HOF.out hf15 hf2).mono ?_; rintro e w16 ⟨rfl, m16, rfl⟩))
        go_ret
        exact ⟨rfl, below_drewN' (HBR.out.trans (hbr15.mono HBR.out.size)) m16⟩
theorem lPages_of (g : Int) {w : World} {v1 v2 : Value} (h1 : ∃ O, OwSl w v1 O) (h2 : ∃ l, BSl w v2 l) : Calls Try.prog 4 #[.int .i64 g, v1, v2] w fun e w' => e = .returned (.bool true) ∧ Below w.heap.size w w' := by
  obtain ⟨O, h1⟩ := h1
  obtain ⟨l, h2⟩ := h2
  by_cases h : O.length ≤ 200
  · exact lPages_any g h1 h2 h
  · obtain ⟨ao, cap, rfl⟩ := h1.shape
    exact lPages_long g v2 ao _ cap w (by omega)
end Go.Proofs.Ytflkggoknmgbnaa
