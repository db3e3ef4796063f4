/- The reference's owners: FormedOwner, Page, two, Owners, Fresh. -/
import Derived.Test.YtflkggoknmgbnaaGrpB
import Derived.Test.YtflkggoknmgbnaaGeomR
import Derived.RegionTactic
import Derived.BigRegion
import Derived.Deep.RegionHeld3
namespace Go.Proofs.Ytflkggoknmgbnaa
open Go.RowKit BM
set_option linter.unusedVariables false

theorem rrForm_any (i a : Int) (hi0 : 0 ≤ i) (hi : i ≤ 65535) (ha0 : 0 ≤ a) (ha : a ≤ 65535) (w : World) :
    Calls Try.prog 19 #[.agg #[.int .u16 i, .int .u16 a]] w fun e w' => e = .returned (.bool (frmO i a)) ∧ Below w.heap.size w w' := by
  have hob := below_box w (.cells #[.int .u16 i, .int .u16 a] 49)
  obtain ⟨B, hB⟩ : ∃ B, B = frmO i a := ⟨_, rfl⟩
  rw [← hB]
  unfold frmO at hB
  by_cases h0 : i = 0
  · rw [if_pos (.inl h0)] at hB
    subst h0
    cases hd : decide (a = 0)
    all_goals
      rw [hd] at hB
      have HB := Lib.hid hB
      have hda : (a == 0) = _ := hd
      clear hB hd
      go_enter Try.func19, Try.ntmps19
      go_wp2
      go_ret
      exact ⟨by rw [HB.out]; rfl, hob⟩
  · have e0 : (i == 0) = false := by simpa using h0
    by_cases h1 : i = 65535
    · rw [if_pos (.inr h1)] at hB
      subst h1
      cases hd : decide (a = 0)
      all_goals
        rw [hd] at hB
        have HB := Lib.hid hB
        have hda : (a == 0) = _ := hd
        clear hB hd h0
        go_enter Try.func19, Try.ntmps19
        go_wp2
        go_ret
        exact ⟨by rw [HB.out]; rfl, hob⟩
    · rw [if_neg (by omega)] at hB
      have e1 : (i == 65535) = false := by simpa using h1
      by_cases h2 : i = 65534
      · rw [if_pos h2] at hB
        subst h2
        cases hd : decide (a < 6)
        all_goals
          rw [hd] at hB
          have HB := Lib.hid hB
          clear hB h0 h1
          go_enter Try.func19, Try.ntmps19
          go_wp2
          go_ret
          exact ⟨by rw [HB.out]; rfl, hob⟩
      · rw [if_neg h2] at hB
        have e2 : (i == 65534) = false := by simpa using h2
        clear h0 h1 h2
        by_cases h3 : i < 48
        · by_cases h4 : a < 138
          · have HB : Hid (B = true) := Lib.hid (by rw [hB]; simp [h3, h4])
            clear hB
            go_enter Try.func19, Try.ntmps19
            go_wp2
            go_ret
            exact ⟨by rw [HB.out]; rfl, hob⟩
          · have hda : (a == 65535) = B := by rw [hB, decide_eq_true h3, decide_eq_false h4]; rfl
            have hb2 : B = true ∨ B = false := by cases B <;> simp
            clear hB
            rcases hb2 with rfl | rfl
            all_goals
              go_enter Try.func19, Try.ntmps19
              go_wp2
              go_ret
              exact ⟨rfl, hob⟩
        · have HB : Hid (B = false) := Lib.hid (by rw [hB]; simp [h3])
          clear hB
          go_enter Try.func19, Try.ntmps19
          go_wp2
          go_ret
          exact ⟨by rw [HB.out]; rfl, hob⟩

theorem rrForm_is (i a : Int) (hi : 0 ≤ i ∧ i ≤ 65535) (ha : 0 ≤ a ∧ a ≤ 65535) (B : Bool) (h : frmO i a = B) (w : World) :
    Calls Try.prog 19 #[.agg #[.int .u16 i, .int .u16 a]] w fun e w' => e = .returned (.bool B) ∧ Below w.heap.size w w' := by
  rw [← h]; exact rrForm_any i a hi.1 hi.2 ha.1 ha.2 w

theorem rrPage_len {w : World} (ao : Option Addr) (len cap : Nat) (h : len ≠ 64) : Calls Try.prog 14 #[.slice ao len cap] w fun e w' => e = .returned (.tuple #[.slice none 0 0, .int .i64 1]) ∧ w = w' := by
  have hne : ((len : Int) != 64) = true := by simp; omega
  go_enter Try.func14, Try.ntmps14
  go_wp2
  go_ret2
  exact ⟨rfl, rfl⟩

theorem rPut2_c {w0 w : World} {u : Value} {l : List Int} (hs : BSl w0 u l) (hl : l.length ≤ 1000) (x : Int) (hx0 : 0 ≤ x) (hx : x ≤ 65535) (hb : Below w0.heap.size w0 w) :
    Calls Try.prog 32 #[u, .int .u64 x, .int .i64 2] w fun e w' => ∃ v, e = .returned v ∧ BSl w' v (l ++ lowB x 2) ∧ Below w0.heap.size w0 w' :=
  (rPut_at (hs.below hb) (by omega) x 2 2 (by omega) (by omega) rfl hx0 (by omega)).mono fun e w' ⟨v, he, hob, hb2⟩ => ⟨v, he, hob.bsl, hb.trans (hb2.mono hb.size)⟩
theorem u64_in (x : Int) (h0 : 0 ≤ x) (h1 : x < 18446744073709551616) : IntKind.u64.wrap x = x := by rw [IntKind.wrap_u64]; omega
/-- What the reference's Page hands back. -/
def RPageOut (O : List (Int × Int)) (w : World) (e : Ending) (w' : World) : Prop :=
  (allO O = true ∧ ∃ v, e = .returned (.tuple #[v, .int .i64 0]) ∧ BSl w' v (pageS O) ∧ Below w.heap.size w w') ∨
  (allO O = false ∧ e = .returned (.tuple #[.slice none 0 0, .int .i64 1]) ∧ Below w.heap.size w w')
set_option maxHeartbeats 2000000 in
theorem rrPage_64 {w : World} {b off cap : Nat} {O : List (Int × Int)} (hO : O.length = 64) (hB : OwB O) (hb : b < w.heap.size)
    (hc : ∀ j, j < O.length → w.cell? ⟨b, off + j * 2, none⟩ = some (.int .u16 (O.getD j (0, 0)).1) ∧ w.cell? ⟨b, off + j * 2 + 1, none⟩ = some (.int .u16 (O.getD j (0, 0)).2)) :
    Calls Try.prog 14 #[.slice (some ⟨b, off, none⟩) 64 cap] w (RPageOut O w) := by
  have HC := Lib.hid hc
  have HO := Lib.hid hO
  have HBB := Lib.hid hB
  have hall : allO O = frmK O 64 := by rw [allO, hO]; rfl
  have HA := Lib.hid hall
  have hpo : pageS O = pageK O 64 := by unfold pageS; rw [hO]
  have HPO := Lib.hid hpo
  clear hc hO hB hall hpo
  go_enter Try.func14, Try.ntmps14
  go_wp2
  go_loopw [4, 11] (fun u i wr => ∃ k : Nat, k ≤ 64 ∧ i = .int .i64 k ∧ Hid (frmK O k = true) ∧ Hid (BSl wr u (pageK O k)) ∧ Below w.heap.size w wr) (fun _ i _ => 64 - (intOf i).toNat)
  case atStart => exact ⟨0, by omega, rfl, rfl, bsl_nil _, Below.refl _ _⟩
  case round =>
    obtain ⟨k, hk, rfl, HK, HU, hbr⟩ := hrel
    by_cases hlt : k < 64
    · have hck := HC.out k (by rw [HO.out]; exact hlt)
      have hbd := HBB.out k
      have hj : frmJ O k = frmO (O.getD k (0, 0)).1 (O.getD k (0, 0)).2 := rfl
      obtain ⟨x, hx⟩ : ∃ x, x = (O.getD k (0, 0)).1 := ⟨_, rfl⟩
      obtain ⟨y, hy⟩ : ∃ y, y = (O.getD k (0, 0)).2 := ⟨_, rfl⟩
      rw [← hx, ← hy] at hck hbd hj
      have c1 := (hbr.cell (p := ⟨b, off + k * 2, none⟩) hb).trans hck.1
      have c2 := (hbr.cell (p := ⟨b, off + k * 2 + 1, none⟩) hb).trans hck.2
      have ek : (k : Int) < 64 := by omega
      have HPK := Lib.hid (pageK_succ' O k x y hx hy)
      have hpl := pageK_length O k
      have HL1 : Hid ((pageK O k).length ≤ 1000) := Lib.hid (by omega)
      have HL2 : Hid ((pageK O k ++ lowB x 2).length ≤ 1000) := Lib.hid (by rw [List.length_append, lowB_length]; omega)
      clear hx hy hck hpl
      cases hf : frmO x y
      · have HF := Lib.hid hf
        rw [hf] at hj
        have HJ := Lib.hid hj
        clear hf hj
        go_wp2_with (go_at_call 19; refine (rrForm_is x y hbd.1 hbd.2 false HF.out _).mono ?_; rintro e w2 ⟨rfl, hb2⟩)
        go_ret2
        exact .inr ⟨by rw [HA.out, frmK_no HJ.out hlt], rfl, hbr.trans (hb2.mono hbr.size)⟩
      · have HF := Lib.hid hf
        rw [hf] at hj
        have HJ := Lib.hid hj
        clear hf hj
        go_wp2_with (go_at_call 19; refine (rrForm_is x y hbd.1 hbd.2 true HF.out _).mono ?_; rintro e w2 ⟨rfl, hb2⟩)
        have b0 : b < wr.heap.size := Nat.lt_of_lt_of_le hb hbr.size
        have b2 : b < w2.drew.heap.size := Nat.lt_of_lt_of_le b0 hb2.size
        have hbd2 : Below wr.heap.size wr w2.drew := hb2.drew
        have d1 : w2.drew.cell? ⟨b, off + k * 2, none⟩ = some (.int .u16 x) := (hbd2.cell (p := ⟨b, off + k * 2, none⟩) b0).trans c1
        have d2 : w2.drew.cell? ⟨b, off + k * 2 + 1, none⟩ = some (.int .u16 y) := (hbd2.cell (p := ⟨b, off + k * 2 + 1, none⟩) b0).trans c2
        have HC1 := Lib.hid (fun W (h : Below wr.heap.size wr W) => (hbr.trans (h.mono hbr.size)))
        have HX := Lib.hid (fun W (h : Below wr.heap.size wr W) => And.intro ((h.cell (p := ⟨b, off + k * 2, none⟩) b0).trans c1) ((h.cell (p := ⟨b, off + k * 2 + 1, none⟩) b0).trans c2))
        have HP1 := Lib.hid (fun W (h : Below wr.heap.size wr W) => rPut2_c HU.out HL1.out x hbd.1.1 hbd.1.2 h)
        have hwx : IntKind.u64.wrap x = x := u64_in x hbd.1.1 (by omega)
        have hwy : IntKind.u64.wrap y = y := u64_in y hbd.2.1 (by omega)
        clear c1 c2 hb2 b2
        go_region_held3 (fun W => W.cell? ⟨b, off + k * 2, none⟩ = some (.int .u16 x) ∧ W.cell? ⟨b, off + k * 2 + 1, none⟩ = some (.int .u16 y)) (first | exact ⟨f1, f2⟩ | exact ⟨e1, e2⟩ | exact ⟨d1, d2⟩) (first
          | (go_at_call 32; (with_reducible refine (HP1.out _ hbd2).mono ?_); rintro e w3 ⟨v3, rfl, hs3, hb3⟩
             obtain ⟨e1, e2⟩ := HX.out _ hb3
             have HP2 := Lib.hid (fun W (h : Below w3.heap.size w3 W) => rPut2_c hs3 HL2.out y hbd.2.1 hbd.2.2 h))
          | (go_at_call 32; (with_reducible refine (HP2.out _ (Below.refl _ _)).mono ?_); rintro e w4 ⟨v4, rfl, hs4, hb4⟩
             obtain ⟨f1, f2⟩ := HX.out _ (hb3.trans (hb4.mono hb3.size))))
        go_wp2_with fail
        go_roundw
        case rel => exact ⟨k + 1, by omega, by go_num, by show frmK O (k + 1) = true; rw [frmK, HK.out, HJ.out]; rfl, by show BSl _ _ (pageK O (k + 1)); rw [HPK.out]; exact hs4, HC1.out _ (hb3.trans (hb4.mono hb3.size))⟩
        case measure => simp [intOf]; omega
    · obtain rfl : k = 64 := by omega
      go_wp2
      go_ret2
      exact .inl ⟨by rw [HA.out, HK.out], _, rfl, by rw [HPO.out]; exact HU.out, hbr⟩

theorem rrPage_any {w : World} {v : Value} {O : List (Int × Int)} (hs : OwSl w v O) : Calls Try.prog 14 #[v] w (RPageOut O w) := by
  by_cases h : O.length = 64
  · obtain ⟨b, off, cap, rfl, hb, hc⟩ := hs.at (by omega)
    rw [h]
    exact rrPage_64 h hs.1 hb hc
  · obtain ⟨ao, cap, rfl⟩ := hs.shape
    refine (rrPage_len ao _ cap h).mono fun e w' ⟨he, hw⟩ => .inr ⟨?_, he, by rw [← hw]; exact Below.refl _ _⟩
    rw [allO, decide_eq_false h]; rfl

theorem rTwo_n {w : World} {v : Value} {c : List Int} (hs : BSl w v c) (hc : c.length ≤ 100000) (a : Nat) (ha : a + 2 ≤ c.length) (y : Int) (hy : y = getV c a 2) : Calls Try.prog 42 #[v, .int .i64 (a : Int)] w fun e w' => e = .returned (.int .i64 y) ∧ w = w' := by
  have hb := getV_bound (byt_mem hs.1) a 2
  have e2 : (256 : Int) ^ 2 = 65536 := rfl
  have hg := rGet_any' hs (by omega) (a : Int) 2 (by omega) (by omega)
  have hn : getN c (a : Int) 2 = y := by unfold getN; rw [if_pos (by omega), hy]; rfl
  rw [hn] at hg
  rw [← hy, e2] at hb
  have HG := Lib.hid hg
  clear hs hc ha hy hn hg e2
  go_enter Try.func42, Try.ntmps42
  go_wp2_with (go_at_call 54; refine HG.out.mono ?_; rintro e w' ⟨rfl, rfl⟩)
  go_ret
  exact ⟨rfl, rfl⟩

theorem rrFresh_no (g : Int) (h : ¬ (0 ≤ g ∧ g < 12)) (w : World) : Calls Try.prog 23 #[.int .i64 g] w fun e w' => e = .returned (.slice none 0 0) ∧ w = w' := by
  by_cases h0 : g < 0
  · go_enter Try.func23, Try.ntmps23
    go_wp2
    go_ret
    exact ⟨rfl, rfl⟩
  · have h1 : 11 < g := by omega
    clear h
    go_enter Try.func23, Try.ntmps23
    go_wp2
    go_ret
    exact ⟨rfl, rfl⟩
theorem owr_nil (w : World) (B : Nat) : OwR w B (.slice none 0 0) [] := ⟨owB_of fun j h => by simp at h, by simp [ownC], .inl ⟨rfl, rfl⟩⟩
theorem rrFresh_yes (g : Int) (h1 : 0 ≤ g) (h2 : g < 12) (w : World) : Calls Try.prog 23 #[.int .i64 g] w fun e w' => ∃ v, e = .returned v ∧ OwR w' w.heap.size v (freshK g 64) ∧ Below w.heap.size w w' := by
  have h3 : g ≤ 11 := by omega
  go_enter Try.func23, Try.ntmps23
  go_wp2
  go_loopw [3, 12] (fun u i wr => ∃ k : Nat, k ≤ 64 ∧ i = .int .i64 k ∧ Hid (OwR wr w.heap.size u (freshK g k)) ∧ Below w.heap.size w wr) (fun _ i _ => 64 - (intOf i).toNat)
  case atStart => exact ⟨0, by omega, rfl, owr_nil _ _, Below.refl _ _⟩
  case round =>
    obtain ⟨k, hk, rfl, HU, hbr⟩ := hrel
    by_cases hlt : k < 64
    · have ek : (k : Int) < 64 := by omega
      have HS := Lib.hid (freshK_succ g k)
      have HL := Lib.hid (freshK_length g k)
      cases hf : fixB (64 * g + (k : Int))
      · have HF := Lib.hid hf
        have hj : freshJ g k = (0, 0) := by unfold freshJ; rw [hf]; rfl
        have HJ := Lib.hid hj
        clear hf hj
        go_wp2_with (first
          | (go_at_call 45; refine (rFixed_is _ (by omega) _ HF.out _).mono ?_; rintro e w3 ⟨rfl, rfl⟩)
          | (at_builtin
             refine wpList_append_ow _ 0 0 (by decide) (by decide) rfl (.tmp 22) (.tmp 24) rfl w.heap.size _ (freshK g k) rfl (HU.out.below (by first | exact below_box _ _ | exact (below_box _ _).setCell (p := ⟨wr.heap.size, 0, none⟩) (Nat.le_refl _) _)) (by rw [HL.out]; omega) (by simp; rfl) (by simp [World.setCell]; have := hbr.size; omega) ?_
             intro v4 w4 hob4 hb4))
        go_roundw
        case rel => exact ⟨k + 1, by omega, by go_num, by show OwR _ _ _ (freshK g (k + 1)); rw [HS.out, HJ.out]; exact hob4, (hbr.trans ((by first | exact below_box _ _ | exact (below_box _ _).setCell (p := ⟨wr.heap.size, 0, none⟩) (Nat.le_refl _) _ : Below wr.heap.size wr _).mono hbr.size)).trans hb4⟩
        case measure => simp [intOf]; omega
      · have HF := Lib.hid hf
        have hj : freshJ g k = (65535, 0) := by unfold freshJ; rw [hf]; rfl
        have HJ := Lib.hid hj
        clear hf hj
        go_wp2_with (first
          | (go_at_call 45; refine (rFixed_is _ (by omega) _ HF.out _).mono ?_; rintro e w3 ⟨rfl, rfl⟩)
          | (at_builtin
             refine wpList_append_ow _ 65535 0 (by decide) (by decide) rfl (.tmp 22) (.tmp 24) rfl w.heap.size _ (freshK g k) rfl (HU.out.below (by first | exact below_box _ _ | exact (below_box _ _).setCell (p := ⟨wr.heap.size, 0, none⟩) (Nat.le_refl _) _)) (by rw [HL.out]; omega) (by simp; rfl) (by simp [World.setCell]; have := hbr.size; omega) ?_
             intro v4 w4 hob4 hb4))
        go_roundw
        case rel => exact ⟨k + 1, by omega, by go_num, by show OwR _ _ _ (freshK g (k + 1)); rw [HS.out, HJ.out]; exact hob4, (hbr.trans ((by first | exact below_box _ _ | exact (below_box _ _).setCell (p := ⟨wr.heap.size, 0, none⟩) (Nat.le_refl _) _ : Below wr.heap.size wr _).mono hbr.size)).trans hb4⟩
        case measure => simp [intOf]; omega
    · obtain rfl : k = 64 := by omega
      go_wp2
      go_ret
      exact ⟨_, rfl, HU.out, hbr⟩

/-- Bytes that are an owners' page. -/
def pagesB (l : List Int) : Prop := l.length = 256 ∧ frmK (ownK l 64) 64 = true
/-- What Owners hands back. -/
def OwnOut (l : List Int) (w : World) (e : Ending) (w' : World) : Prop :=
  (pagesB l ∧ ∃ v, e = .returned (.tuple #[v, .int .i64 0]) ∧ OwR w' w.heap.size v (ownK l 64) ∧ Below w.heap.size w w') ∨
  (¬ pagesB l ∧ e = .returned (.tuple #[.slice none 0 0, .int .i64 18]) ∧ Below w.heap.size w w')
theorem rrOwn_len {w : World} (ao : Option Addr) (len cap : Nat) (h : len ≠ 256) : Calls Try.prog 16 #[.slice ao len cap] w fun e w' => e = .returned (.tuple #[.slice none 0 0, .int .i64 18]) ∧ w = w' := by
  have hne : ((len : Int) != 256) = true := by simp; omega
  go_enter Try.func16, Try.ntmps16
  go_wp2
  go_ret2
  exact ⟨rfl, rfl⟩
theorem ownJ_frm (l : List Int) (k : Nat) (hk : k < 64) : frmJ (ownK l 64) k = frmO (getV l (4 * k) 2) (getV l (4 * k + 2) 2) := by
  rw [frmJ, ownK_getD l 64 k hk]; rfl
theorem rrOwn_256 {w : World} {v : Value} {l : List Int} (hs : BSl w v l) (hl : l.length = 256) : Calls Try.prog 16 #[v] w (OwnOut l w) := by
  obtain ⟨ao, cap, rfl, _⟩ := hs.shape
  have HS := Lib.hid hs
  have HL := Lib.hid hl
  rw [hl] at HS ⊢
  clear hs hl
  go_enter Try.func16, Try.ntmps16
  go_wp2
  go_loopw [4, 10] (fun u i wr => ∃ k : Nat, k ≤ 64 ∧ i = .int .i64 k ∧ Hid (frmK (ownK l 64) k = true) ∧ Hid (OwR wr w.heap.size u (ownK l k)) ∧ Below w.heap.size w wr) (fun _ i _ => 64 - (intOf i).toNat)
  case atStart => exact ⟨0, by omega, rfl, rfl, owr_nil _ _, Below.refl _ _⟩
  case round =>
    obtain ⟨k, hk, rfl, HK, HU, hbr⟩ := hrel
    by_cases hlt : k < 64
    · have ek : (k : Int) < 64 := by omega
      have hsr := HS.out.below hbr
      have T1 := rTwo_n hsr (by rw [HL.out]; decide) (4 * k) (by rw [HL.out]; omega) _ rfl
      have T2 := rTwo_n hsr (by rw [HL.out]; decide) (4 * k + 2) (by rw [HL.out]; omega) _ rfl
      have b1 := getV2_bd (byt_mem hsr.1) (4 * k)
      have b2 := getV2_bd (byt_mem hsr.1) (4 * k + 2)
      have hj := ownJ_frm l k hlt
      have hsu := ownK_succ l k
      rw [ownJ] at hsu
      obtain ⟨x, hx⟩ : ∃ x, x = getV l (4 * k) 2 := ⟨_, rfl⟩
      obtain ⟨y, hy⟩ : ∃ y, y = getV l (4 * k + 2) 2 := ⟨_, rfl⟩
      rw [← hx] at T1 b1 hj hsu
      rw [← hy] at T2 b2 hj hsu
      rw [show ((4 * k : Nat) : Int) = 4 * (k : Int) by push_cast; rfl] at T1
      rw [show ((4 * k + 2 : Nat) : Int) = 4 * (k : Int) + 2 by push_cast; rfl] at T2
      have H1 := Lib.hid T1
      have H2 := Lib.hid T2
      have HSU := Lib.hid hsu
      have HKL := Lib.hid (ownK_length l k)
      clear T1 T2 hx hy hsr hsu
      obtain ⟨b10, b11⟩ := b1
      obtain ⟨b20, b21⟩ := b2
      cases hf : frmO x y
      all_goals
        have HF := Lib.hid hf
        rw [hf] at hj
        have HJ := Lib.hid hj
        clear hf hj
      · go_wp2_with (first
          | (go_at_call 42; (with_reducible refine H1.out.mono ?_); rintro e w2 ⟨rfl, rfl⟩)
          | (go_at_call 42; (with_reducible refine H2.out.mono ?_); rintro e w2 ⟨rfl, rfl⟩)
          | (go_at_call 19; refine (rrForm_is x y ⟨b10, b11⟩ ⟨b20, b21⟩ false HF.out _).mono ?_; rintro e w3 ⟨rfl, hb3⟩))
        go_ret2
        exact .inr ⟨(fun h => by have h2 := h.2; rw [frmK_no HJ.out hlt] at h2; cases h2), rfl, (hbr.trans ((below_box _ _).mono hbr.size)).trans (hb3.mono (by have := hbr.size; simp; omega))⟩
      · go_wp2_with (first
          | (go_at_call 42; (with_reducible refine H1.out.mono ?_); rintro e w2 ⟨rfl, rfl⟩)
          | (go_at_call 42; (with_reducible refine H2.out.mono ?_); rintro e w2 ⟨rfl, rfl⟩)
          | (go_at_call 19
             have hbx := below_box wr (.cells #[.int .u16 x, .int .u16 y] 49)
             have hhx := heap_alloc_new wr (.cells #[.int .u16 x, .int .u16 y] 49)
             generalize wr.alloc (.cells #[.int .u16 x, .int .u16 y] 49) = W1 at hbx hhx ⊢
             have hgl := (Array.getElem?_eq_some_iff.1 hhx).1
             refine (rrForm_is x y ⟨b10, b11⟩ ⟨b20, b21⟩ true HF.out _).mono ?_
             rintro e w3 ⟨rfl, hb3⟩
             have hr3 := (hb3.block _ hgl).trans hhx
             have d1 : w3.cell? ⟨wr.heap.size, 0, none⟩ = some (.int .u16 x) := by rw [cell_of_row _ _ _ _ _ _ hr3]; rfl
             have d2 : w3.cell? ⟨wr.heap.size, 1, none⟩ = some (.int .u16 y) := by rw [cell_of_row _ _ _ _ _ _ hr3]; rfl
             have hb23 : Below wr.heap.size wr w3 := hbx.trans (hb3.mono hbx.size)
             clear hr3 hhx hgl hbx hb3)
          | (at_builtin
             refine wpList_append_ow w3 x y ⟨b10, b11⟩ ⟨b20, b21⟩ rfl (.tmp 28) (.tmp 30) rfl w.heap.size _ (ownK l k) rfl (HU.out.below hb23) (by rw [HKL.out]; omega) rfl (Nat.le_trans hbr.size hb23.size) ?_
             intro v4 w4 hob4 hb4))
        go_roundw
        case rel => exact ⟨k + 1, by omega, by go_num, by show frmK _ (k + 1) = true; rw [frmK, HK.out, HJ.out]; rfl, by show OwR _ _ _ (ownK l (k + 1)); rw [HSU.out]; exact hob4, (hbr.trans (hb23.mono hbr.size)).trans hb4⟩
        case measure => simp [intOf]; omega
    · obtain rfl : k = 64 := by omega
      go_wp2
      go_ret2
      exact .inl ⟨⟨HL.out, HK.out⟩, _, rfl, HU.out, hbr⟩
theorem rrOwn_any {w : World} {v : Value} {l : List Int} (hs : BSl w v l) : Calls Try.prog 16 #[v] w (OwnOut l w) := by
  by_cases h : l.length = 256
  · exact rrOwn_256 hs h
  · obtain ⟨ao, cap, rfl, _⟩ := hs.shape
    exact (rrOwn_len ao _ cap h).mono fun e w' ⟨he, hw⟩ => .inr ⟨fun hp => h hp.1, he, by rw [← hw]; exact Below.refl _ _⟩

end Go.Proofs.Ytflkggoknmgbnaa
