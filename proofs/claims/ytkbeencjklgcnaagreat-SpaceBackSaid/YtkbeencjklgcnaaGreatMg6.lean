/- The reference's owners: FormedOwner, Page, two, Owners, Fresh. -/
import Derived.RegionTactic
import Derived.BigRegion
import Derived.Deep.RegionHeld3
import Derived.OrdersHeld
import Derived.BigQuiet
import Derived.Laws.ResultCell
import Derived.Laws.Tables
import Derived.Laws.Rows
import Derived.Test.YtkbeencjklgcnaaGreatMg2
import Derived.Test.YtkbeencjklgcnaaGreatMg3
import Derived.Test.YtkbeencjklgcnaaGreatMg4
import Derived.Test.YtkbeencjklgcnaaGreatMg5
namespace Go.Proofs.YtkbeencjklgcnaaGreat
set_option maxRecDepth 100000
open Go.RowKit BM
set_option linter.unusedVariables false

theorem rrForm_any (i a : Int) (hi0 : 0 ≤ i) (hi : i ≤ 65535) (ha0 : 0 ≤ a) (ha : a ≤ 65535) (w : World) :
    Calls Tryz.prog 13 #[.agg #[.int .u16 i, .int .u16 a]] w fun e w' => e = .returned (.bool (frmO i a)) ∧ Below w.heap.size w w' := by
  have hob := below_box w (.cells #[.int .u16 i, .int .u16 a] 32)
  obtain ⟨B, hB⟩ : ∃ B, B = frmO i a := ⟨_, rfl⟩
  rw [← hB]
  unfold frmO at hB
  by_cases h0 : i = 0
  · rw [if_pos (.inl h0)] at hB
    subst h0
    cases hd : decide (a = 0)
    all_goals
      rw [hd] at hB
      have HB := Lib.hid hB
      have hda : (a == 0) = _ := hd
      clear hB hd
      go_enter Tryz.func13, Tryz.ntmps13
      go_wp2
      go_ret
      exact ⟨by rw [HB.out]; rfl, hob⟩
  · have e0 : (i == 0) = false := by simpa using h0
    by_cases h1 : i = 65535
    · rw [if_pos (.inr h1)] at hB
      subst h1
      cases hd : decide (a = 0)
      all_goals
        rw [hd] at hB
        have HB := Lib.hid hB
        have hda : (a == 0) = _ := hd
        clear hB hd h0
        go_enter Tryz.func13, Tryz.ntmps13
        go_wp2
        go_ret
        exact ⟨by rw [HB.out]; rfl, hob⟩
    · rw [if_neg (by omega)] at hB
      have e1 : (i == 65535) = false := by simpa using h1
      by_cases h2 : i = 65534
      · rw [if_pos h2] at hB
        subst h2
        cases hd : decide (a < 6)
        all_goals
          rw [hd] at hB
          have HB := Lib.hid hB
          clear hB h0 h1
          go_enter Tryz.func13, Tryz.ntmps13
          go_wp2
          go_ret
          exact ⟨by rw [HB.out]; rfl, hob⟩
      · rw [if_neg h2] at hB
        have e2 : (i == 65534) = false := by simpa using h2
        clear h0 h1 h2
        by_cases h3 : i < 48
        · by_cases h4 : a < 138
          · have HB : Hid (B = true) := Lib.hid (by rw [hB]; simp [h3, h4])
            clear hB
            go_enter Tryz.func13, Tryz.ntmps13
            go_wp2
            go_ret
            exact ⟨by rw [HB.out]; rfl, hob⟩
          · have hda : (a == 65535) = B := by rw [hB, decide_eq_true h3, decide_eq_false h4]; rfl
            have hb2 : B = true ∨ B = false := by cases B <;> simp
            clear hB
            rcases hb2 with rfl | rfl
            all_goals
              go_enter Tryz.func13, Tryz.ntmps13
              go_wp2
              go_ret
              exact ⟨rfl, hob⟩
        · have HB : Hid (B = false) := Lib.hid (by rw [hB]; simp [h3])
          clear hB
          go_enter Tryz.func13, Tryz.ntmps13
          go_wp2
          go_ret
          exact ⟨by rw [HB.out]; rfl, hob⟩

theorem rrForm_is (i a : Int) (hi : 0 ≤ i ∧ i ≤ 65535) (ha : 0 ≤ a ∧ a ≤ 65535) (B : Bool) (h : frmO i a = B) (w : World) :
    Calls Tryz.prog 13 #[.agg #[.int .u16 i, .int .u16 a]] w fun e w' => e = .returned (.bool B) ∧ Below w.heap.size w w' := by
  rw [← h]; exact rrForm_any i a hi.1 hi.2 ha.1 ha.2 w

theorem rrPage_len {w : World} (ao : Option Addr) (len cap : Nat) (h : len ≠ 64) : Calls Tryz.prog 52 #[.slice ao len cap] w fun e w' => e = .returned (.tuple #[.slice none 0 0, .int .i64 1]) ∧ w = w' := by
  have hne : ((len : Int) != 64) = true := by simp; omega
  go_enter Tryz.func52, Tryz.ntmps52
  go_wp2
  go_ret2
  exact ⟨rfl, rfl⟩

theorem rPut2_c {w0 w : World} {u : Value} {l : List Int} (hs : BSl w0 u l) (hl : l.length ≤ 1000) (x : Int) (hx0 : 0 ≤ x) (hx : x ≤ 65535) (hb : Below w0.heap.size w0 w) :
    Calls Tryz.prog 86 #[u, .int .u64 x, .int .i64 2] w fun e w' => ∃ v, e = .returned v ∧ BSl w' v (l ++ lowB x 2) ∧ Below w0.heap.size w0 w' :=
  (rPut_at (hs.below hb) (by omega) x 2 2 (by omega) (by omega) rfl hx0 (by omega)).mono fun e w' ⟨v, he, hob, hb2⟩ => ⟨v, he, hob.bsl, hb.trans (hb2.mono hb.size)⟩
theorem u64_in (x : Int) (h0 : 0 ≤ x) (h1 : x < 18446744073709551616) : IntKind.u64.wrap x = x := by rw [IntKind.wrap_u64]; omega
/-- What the reference's Page hands back. -/
def RPageOut (O : List (Int × Int)) (w : World) (e : Ending) (w' : World) : Prop :=
  (allO O = true ∧ ∃ v, e = .returned (.tuple #[v, .int .i64 0]) ∧ BSl w' v (pageS O) ∧ Below w.heap.size w w') ∨
  (allO O = false ∧ e = .returned (.tuple #[.slice none 0 0, .int .i64 1]) ∧ Below w.heap.size w w')
set_option maxHeartbeats 2000000 in
theorem rrPage_64 {w : World} {b off cap : Nat} {O : List (Int × Int)} (hO : O.length = 64) (hB : OwB O) (hb : b < w.heap.size)
    (hc : ∀ j, j < O.length → w.cell? ⟨b, off + j * 2, none⟩ = some (.int .u16 (O.getD j (0, 0)).1) ∧ w.cell? ⟨b, off + j * 2 + 1, none⟩ = some (.int .u16 (O.getD j (0, 0)).2)) :
    Calls Tryz.prog 52 #[.slice (some ⟨b, off, none⟩) 64 cap] w (RPageOut O w) := by
  have HC := Lib.hid hc
  have HO := Lib.hid hO
  have HBB := Lib.hid hB
  have hall : allO O = frmK O 64 := by rw [allO, hO]; rfl
  have HA := Lib.hid hall
  have hpo : pageS O = pageK O 64 := by unfold pageS; rw [hO]
  have HPO := Lib.hid hpo
  clear hc hO hB hall hpo
  go_enter Tryz.func52, Tryz.ntmps52
  go_wp2
  go_loopw [4, 11] (fun u i wr => ∃ k : Nat, k ≤ 64 ∧ i = .int .i64 k ∧ Hid (frmK O k = true) ∧ Hid (BSl wr u (pageK O k)) ∧ Below w.heap.size w wr) (fun _ i _ => 64 - (intOf i).toNat)
  case atStart => exact ⟨0, by omega, rfl, rfl, bsl_nil _, Below.refl _ _⟩
  case round =>
    obtain ⟨k, hk, rfl, HK, HU, hbr⟩ := hrel
    by_cases hlt : k < 64
    · have hck := HC.out k (by rw [HO.out]; exact hlt)
      have hbd := HBB.out k
      have hj : frmJ O k = frmO (O.getD k (0, 0)).1 (O.getD k (0, 0)).2 := rfl
      obtain ⟨x, hx⟩ : ∃ x, x = (O.getD k (0, 0)).1 := ⟨_, rfl⟩
      obtain ⟨y, hy⟩ : ∃ y, y = (O.getD k (0, 0)).2 := ⟨_, rfl⟩
      rw [← hx, ← hy] at hck hbd hj
      have c1 := (hbr.cell (p := ⟨b, off + k * 2, none⟩) hb).trans hck.1
      have c2 := (hbr.cell (p := ⟨b, off + k * 2 + 1, none⟩) hb).trans hck.2
      have ek : (k : Int) < 64 := by omega
      have HPK := Lib.hid (pageK_succ' O k x y hx hy)
      have hpl := pageK_length O k
      have HL1 : Hid ((pageK O k).length ≤ 1000) := Lib.hid (by omega)
      have HL2 : Hid ((pageK O k ++ lowB x 2).length ≤ 1000) := Lib.hid (by rw [List.length_append, lowB_length]; omega)
      clear hx hy hck hpl
      cases hf : frmO x y
      · have HF := Lib.hid hf
        rw [hf] at hj
        have HJ := Lib.hid hj
        clear hf hj
        go_wp2_with (go_at_call 13; refine (rrForm_is x y hbd.1 hbd.2 false HF.out _).mono ?_; rintro e w2 ⟨rfl, hb2⟩)
        go_ret2
        exact .inr ⟨by rw [HA.out, frmK_no HJ.out hlt], rfl, hbr.trans (hb2.mono hbr.size)⟩
      · have HF := Lib.hid hf
        rw [hf] at hj
        have HJ := Lib.hid hj
        clear hf hj
        go_wp2_with (go_at_call 13; refine (rrForm_is x y hbd.1 hbd.2 true HF.out _).mono ?_; rintro e w2 ⟨rfl, hb2⟩)
        have b0 : b < wr.heap.size := Nat.lt_of_lt_of_le hb hbr.size
        have b2 : b < w2.drew.heap.size := Nat.lt_of_lt_of_le b0 hb2.size
        have hbd2 : Below wr.heap.size wr w2.drew := hb2.drew
        have d1 : w2.drew.cell? ⟨b, off + k * 2, none⟩ = some (.int .u16 x) := (hbd2.cell (p := ⟨b, off + k * 2, none⟩) b0).trans c1
        have d2 : w2.drew.cell? ⟨b, off + k * 2 + 1, none⟩ = some (.int .u16 y) := (hbd2.cell (p := ⟨b, off + k * 2 + 1, none⟩) b0).trans c2
        have HC1 := Lib.hid (fun W (h : Below wr.heap.size wr W) => (hbr.trans (h.mono hbr.size)))
        have HX := Lib.hid (fun W (h : Below wr.heap.size wr W) => And.intro ((h.cell (p := ⟨b, off + k * 2, none⟩) b0).trans c1) ((h.cell (p := ⟨b, off + k * 2 + 1, none⟩) b0).trans c2))
        have HP1 := Lib.hid (fun W (h : Below wr.heap.size wr W) => rPut2_c HU.out HL1.out x hbd.1.1 hbd.1.2 h)
        have hwx : IntKind.u64.wrap x = x := u64_in x hbd.1.1 (by omega)
        have hwy : IntKind.u64.wrap y = y := u64_in y hbd.2.1 (by omega)
        clear c1 c2 hb2 b2
        go_region_held3 (fun W => W.cell? ⟨b, off + k * 2, none⟩ = some (.int .u16 x) ∧ W.cell? ⟨b, off + k * 2 + 1, none⟩ = some (.int .u16 y)) (first | exact ⟨f1, f2⟩ | exact ⟨e1, e2⟩ | exact ⟨d1, d2⟩) (first
          | (go_at_call 86; (with_reducible refine (HP1.out _ hbd2).mono ?_); rintro e w3 ⟨v3, rfl, hs3, hb3⟩
             obtain ⟨e1, e2⟩ := HX.out _ hb3
             have HP2 := Lib.hid (fun W (h : Below w3.heap.size w3 W) => rPut2_c hs3 HL2.out y hbd.2.1 hbd.2.2 h))
          | (go_at_call 86; (with_reducible refine (HP2.out _ (Below.refl _ _)).mono ?_); rintro e w4 ⟨v4, rfl, hs4, hb4⟩
             obtain ⟨f1, f2⟩ := HX.out _ (hb3.trans (hb4.mono hb3.size))))
        go_wp2_with fail
        go_roundw
        case rel => exact ⟨k + 1, by omega, by go_num, by show frmK O (k + 1) = true; rw [frmK, HK.out, HJ.out]; rfl, by show BSl _ _ (pageK O (k + 1)); rw [HPK.out]; exact hs4, HC1.out _ (hb3.trans (hb4.mono hb3.size))⟩
        case measure => simp [intOf]; omega
    · obtain rfl : k = 64 := by omega
      go_wp2
      go_ret2
      exact .inl ⟨by rw [HA.out, HK.out], _, rfl, by rw [HPO.out]; exact HU.out, hbr⟩

theorem rrPage_any {w : World} {v : Value} {O : List (Int × Int)} (hs : OwSl w v O) : Calls Tryz.prog 52 #[v] w (RPageOut O w) := by
  by_cases h : O.length = 64
  · obtain ⟨b, off, cap, rfl, hb, hc⟩ := hs.at (by omega)
    rw [h]
    exact rrPage_64 h hs.1 hb hc
  · obtain ⟨ao, cap, rfl⟩ := hs.shape
    refine (rrPage_len ao _ cap h).mono fun e w' ⟨he, hw⟩ => .inr ⟨?_, he, by rw [← hw]; exact Below.refl _ _⟩
    rw [allO, decide_eq_false h]; rfl

theorem rrFresh_no (g : Int) (h : ¬ (0 ≤ g ∧ g < 12)) (w : World) : Calls Tryz.prog 29 #[.int .i64 g] w fun e w' => e = .returned (.slice none 0 0) ∧ w = w' := by
  by_cases h0 : g < 0
  · go_enter Tryz.func29, Tryz.ntmps29
    go_wp2
    go_ret
    exact ⟨rfl, rfl⟩
  · have h1 : 11 < g := by omega
    clear h
    go_enter Tryz.func29, Tryz.ntmps29
    go_wp2
    go_ret
    exact ⟨rfl, rfl⟩
theorem owr_nil (w : World) (B : Nat) : OwR w B (.slice none 0 0) [] := ⟨owB_of fun j h => by simp at h, by simp [ownC], .inl ⟨rfl, rfl⟩⟩
theorem rrFresh_yes (g : Int) (h1 : 0 ≤ g) (h2 : g < 12) (w : World) : Calls Tryz.prog 29 #[.int .i64 g] w fun e w' => ∃ v, e = .returned v ∧ OwR w' w.heap.size v (freshK g 64) ∧ Below w.heap.size w w' := by
  have h3 : g ≤ 11 := by omega
  go_enter Tryz.func29, Tryz.ntmps29
  go_wp2
  go_loopw [3, 12] (fun u i wr => ∃ k : Nat, k ≤ 64 ∧ i = .int .i64 k ∧ Hid (OwR wr w.heap.size u (freshK g k)) ∧ Below w.heap.size w wr) (fun _ i _ => 64 - (intOf i).toNat)
  case atStart => exact ⟨0, by omega, rfl, owr_nil _ _, Below.refl _ _⟩
  case round =>
    obtain ⟨k, hk, rfl, HU, hbr⟩ := hrel
    by_cases hlt : k < 64
    · have ek : (k : Int) < 64 := by omega
      have HS := Lib.hid (freshK_succ g k)
      have HL := Lib.hid (freshK_length g k)
      cases hf : fixB (64 * g + (k : Int))
      · have HF := Lib.hid hf
        have hj : freshJ g k = (0, 0) := by unfold freshJ; rw [hf]; rfl
        have HJ := Lib.hid hj
        clear hf hj
        go_wp2_with (first
          | (go_at_call 47; refine (rFixed_is _ (by omega) _ HF.out _).mono ?_; rintro e w3 ⟨rfl, rfl⟩)
          | (at_builtin
             refine wpList_append_ow _ 0 0 (by decide) (by decide) rfl (.tmp 22) (.tmp 24) rfl w.heap.size _ (freshK g k) rfl (HU.out.below (by first | exact below_box _ _ | exact (below_box _ _).setCell (p := ⟨wr.heap.size, 0, none⟩) (Nat.le_refl _) _)) (by rw [HL.out]; omega) (by simp; rfl) (by simp [World.setCell]; have := hbr.size; omega) ?_
             intro v4 w4 hob4 hb4))
        go_roundw
        case rel => exact ⟨k + 1, by omega, by go_num, by show OwR _ _ _ (freshK g (k + 1)); rw [HS.out, HJ.out]; exact hob4, (hbr.trans ((by first | exact below_box _ _ | exact (below_box _ _).setCell (p := ⟨wr.heap.size, 0, none⟩) (Nat.le_refl _) _ : Below wr.heap.size wr _).mono hbr.size)).trans hb4⟩
        case measure => simp [intOf]; omega
      · have HF := Lib.hid hf
        have hj : freshJ g k = (65535, 0) := by unfold freshJ; rw [hf]; rfl
        have HJ := Lib.hid hj
        clear hf hj
        go_wp2_with (first
          | (go_at_call 47; refine (rFixed_is _ (by omega) _ HF.out _).mono ?_; rintro e w3 ⟨rfl, rfl⟩)
          | (at_builtin
             refine wpList_append_ow _ 65535 0 (by decide) (by decide) rfl (.tmp 22) (.tmp 24) rfl w.heap.size _ (freshK g k) rfl (HU.out.below (by first | exact below_box _ _ | exact (below_box _ _).setCell (p := ⟨wr.heap.size, 0, none⟩) (Nat.le_refl _) _)) (by rw [HL.out]; omega) (by simp; rfl) (by simp [World.setCell]; have := hbr.size; omega) ?_
             intro v4 w4 hob4 hb4))
        go_roundw
        case rel => exact ⟨k + 1, by omega, by go_num, by show OwR _ _ _ (freshK g (k + 1)); rw [HS.out, HJ.out]; exact hob4, (hbr.trans ((by first | exact below_box _ _ | exact (below_box _ _).setCell (p := ⟨wr.heap.size, 0, none⟩) (Nat.le_refl _) _ : Below wr.heap.size wr _).mono hbr.size)).trans hb4⟩
        case measure => simp [intOf]; omega
    · obtain rfl : k = 64 := by omega
      go_wp2
      go_ret
      exact ⟨_, rfl, HU.out, hbr⟩

/-- Bytes that are an owners' page. -/
def pagesB (l : List Int) : Prop := l.length = 256 ∧ frmK (ownK l 64) 64 = true
/-- What Owners hands back. -/
def OwnOut (l : List Int) (w : World) (e : Ending) (w' : World) : Prop :=
  (pagesB l ∧ ∃ v, e = .returned (.tuple #[v, .int .i64 0]) ∧ OwR w' w.heap.size v (ownK l 64) ∧ Below w.heap.size w w') ∨
  (¬ pagesB l ∧ e = .returned (.tuple #[.slice none 0 0, .int .i64 18]) ∧ Below w.heap.size w w')
theorem ownJ_frm (l : List Int) (k : Nat) (hk : k < 64) : frmJ (ownK l 64) k = frmO (getV l (4 * k) 2) (getV l (4 * k + 2) 2) := by
  rw [frmJ, ownK_getD l 64 k hk]; rfl
end Go.Proofs.YtkbeencjklgcnaaGreat

/- Layer 12's reference: contract of Set. -/
namespace Go.Proofs.YtkbeencjklgcnaaGreat
set_option maxRecDepth 100000
open Go.RowKit
set_option linter.unusedVariables false

theorem step_store_owp {ops : Array Oper} {o : Oper} {a : Act} {w : World} {K : Act → World → Prop} {Q : Exit → Act → World → Prop} {E : Prop} (hgd : o.guard = none) (x y : Operand) (ho : o.op = .store 32 x y)
    (g k : Nat) (O : List (Int × Int)) (cur : Array Value) (i j : Int) (hx : a.eval x = .pointer (some ⟨g, k * 2, none⟩)) (hy : a.eval y = .agg #[.int .u16 i, .int .u16 j])
    (hg : w.heap[g]? = some (.cells cur 32 (0, 0))) (hc : cur.toList.take (O.length * 2) = ownC O) (hs : O.length * 2 ≤ cur.size) (hk : k < O.length)
    (h : ∀ w' cur', Wrote w w' g → w'.heap[g]? = some (.cells cur' 32 (0, 0)) → cur'.size = cur.size → cur'.toList.take (O.length * 2) = ownC (O.set k (i, j)) → K (a.put o.dst undef) w') : if Region.wanted o (yielded ops a.tmps) = true then Oper.wp Tryz.prog o a w K Q else E := by
  rw [if_pos (by simp [Region.wanted, hgd])]
  have hz : (Tryz.prog.info? 32).map (·.size) = some 2 := by kernel_rfl
  have hg' : w.heap[g]? = some (.cells cur.toList.toArray 32 (0, 0)) := by rw [Array.toArray_toList]; exact hg
  have hl : k * 2 + (cO (i, j)).length ≤ cur.toList.length := by rw [show (cO (i, j)).length = 2 from rfl]; simpa using (show k * 2 + 2 ≤ cur.size by omega)
  have h1 : ∀ v ∈ cO (i, j), v.oneCell' = true := fun v hv => by simp [cO] at hv; rcases hv with rfl | rfl <;> rfl
  refine wp_store_mid 32 x y ho g (k * 2) #[.int .u16 i, .int .u16 j] hx hy (there_row hg' hl) (by rw [hz]; rfl) (all_oneCell_toArray (cs := cO (i, j)) h1) ?_
  have e := setCells_row hg' hl h1
  rw [show (#[Value.int .u16 i, Value.int .u16 j] : Array Value).toList = cO (i, j) from rfl, e]
  refine h _ (splice cur.toList (k * 2) (cO (i, j))).toArray (Wrote.setRow _ _ _) (setRow_heap _ _ _ _ _ _ hg) ?_ ?_
  · simp [splice, cO]; omega
  · rw [List.toList_toArray, splice_take (show k * 2 + 2 ≤ _ by omega) (by rw [Array.length_toList]; exact hs), hc, ownC, flat_set (f := cO) (s := 2) (fun x _ => cO_len x) k hk (i, j) (cO_len _)]
    rfl
section
variable {w : World} {M : Nat → Prop} {p : Value} {n : Int} {O : List (Int × Int)}
theorem RSp.below (h : RSp w M p n O) {w' : World} (hb : Below w.heap.size w w') : RSp w' M p n O := by
  obtain ⟨b, v, e, hr, ho, hM⟩ := h
  exact ⟨b, v, e, (hb.block b (Array.getElem?_eq_some_iff.1 hr).1).trans hr, ho.below hb, hM⟩
theorem rSpSet_yes (h : RSp w M p n O) (hO : O.length ≤ 100000) {k : Nat} (hk : k < O.length) (hx : fixB (k : Int) = false) {i j : Int} (hi : 0 ≤ i ∧ i ≤ 65535) (hj : 0 ≤ j ∧ j ≤ 65535) (hf : frmO i j = true) (hn : i ≠ 65535) : Calls Tryz.prog 31 #[p, .int .i64 k, .agg #[.int .u16 i, .int .u16 j]] w fun e w' => e = .returned (.int .i64 0) ∧ RSp w' M p n (O.set k (i, j)) ∧ Chg M M w w' := by
  obtain ⟨u, hu⟩ : ∃ u, u = w.alloc (.cells #[.int .u16 i, .int .u16 j] 32) := ⟨_, rfl⟩
  have hbx : Below w.heap.size w u := by rw [hu]; exact below_box w _
  have hnx : u.heap[w.heap.size]? = some (.cells #[.int .u16 i, .int .u16 j] 32 (0, 0)) := by rw [hu]; exact heap_alloc_new w _
  have KF := Lib.hid (rFixed_any (k : Int) (by omega) u)
  rw [hx] at KF
  have KG := Lib.hid (rrForm_is i j hi hj true hf u)
  have HU := Lib.hid hu
  have HH := Lib.hid (h.below hbx)
  have HLT : Hid (∀ k, M k → k < w.heap.size) := Lib.hid (fun k hk => h.lt hk)
  have HBX := Lib.hid hbx
  have HNX := Lib.hid hnx
  have b0 : u.cell? ⟨w.heap.size, 0, none⟩ = some (.int .u16 i) := by rw [cell_of_row _ _ _ _ _ _ hnx]; rfl
  have b1 : u.cell? ⟨w.heap.size, 1, none⟩ = some (.int .u16 j) := by rw [cell_of_row _ _ _ _ _ _ hnx]; rfl
  obtain ⟨bp, g, off, cap, rfl, c0, c1, _⟩ := (h.below hbx).cells (by omega)
  have HK := Lib.hid hk
  have HO := Lib.hid hO
  have HIJ := Lib.hid (And.intro hi hj)
  have e1 : (i == 65535) = false := by simpa using hn
  have HLX := Lib.hid (Array.getElem?_eq_some_iff.1 hnx).1
  obtain ⟨m, hm⟩ : ∃ m, m = O.length := ⟨_, rfl⟩
  have hkm : k < m := by omega
  have hm1 : m ≤ 100000 := by omega
  have HM := Lib.hid hm
  rw [← hm] at c1
  obtain ⟨xb, hxb⟩ : ∃ xb, xb = w.heap.size := ⟨_, rfl⟩
  have HXB := Lib.hid hxb
  clear h hO hk hx hi hj hf hbx hnx hu hm hxb
  go_enter Tryz.func31, Tryz.ntmps31
  go_upto_region 1 with (fail)
  rw [← HU.out]
  go_upto_region 3 with (first
    | (go_at_call 47; (with_reducible refine KF.out.mono ?_); rintro e w' ⟨rfl, rfl⟩)
    | (go_at_call 13; (with_reducible refine KG.out.mono ?_); rintro e w3 ⟨rfl, hb3⟩
       have HB3 := Lib.hid hb3
       have d0 := (hb3.cell (p := ⟨w.heap.size, 0, none⟩) HLX.out).trans b0
       have d1 := (hb3.cell (p := ⟨w.heap.size, 1, none⟩) HLX.out).trans b1
       clear hb3 b0 b1))
  have hbd : Below u.heap.size u w3.drew := HB3.out.drew
  have h3 := HH.out.below hbd
  obtain ⟨b, g', cap', cur, he, hb, hg, ht, hnc, hcm, hcs, hB, hMM⟩ := h3.row (by have := HK.out; omega)
  obtain rfl : bp = b := by injection he with e; injection e with e; injection e with e
  have c1' : w3.drew.cell? ⟨bp, 1, none⟩ = some (.slice (some ⟨g', 0, none⟩) m cap') := by rw [cell_of_row _ _ _ _ _ _ hb, HM.out]; rfl
  have hS : w3.drew.cell? ⟨bp, 1, none⟩ = some (.slice (some ⟨g', 0, none⟩) m cap') ∧ w3.drew.cell? ⟨w.heap.size, 0, none⟩ = some (.int .u16 i) ∧ w3.drew.cell? ⟨w.heap.size, 1, none⟩ = some (.int .u16 j) := ⟨c1', d0, d1⟩
  have HFIN := Lib.hid (fun (w' : World) (cur' : Array Value) (hw : Wrote w3.drew w' g') (hg' : w'.heap[g']? = some (.cells cur' 32 (0, 0))) (hs : cur'.size = cur.size) (ht' : cur'.toList.take (O.length * 2) = ownC (O.set k (i, j))) => RSp.stored hb hg hnc hcm hB hMM hw hg' (hs.trans hcs) ht' HIJ.out)
  have HCH : Hid (Chg M M w w3.drew) := Lib.hid (Chg.of_below (HBX.out.trans (hbd.mono HBX.out.size)))
  have HNG : Hid (w.heap.size ≠ g') := Lib.hid (fun e => by have := HLT.out g' ((hMM g').2 (.inr rfl)); omega)
  have HG := Lib.hid hg
  have HT := Lib.hid ht
  have HS : Hid (O.length * 2 ≤ cur.size) := Lib.hid (by omega)
  clear he hb hg ht hnc hcm hcs hB hMM h3 hbd c0 c1 c1' d0 d1
  refine wp_region_held_drew (S := fun W => W.cell? ⟨bp, 1, none⟩ = some (.slice (some ⟨g', 0, none⟩) m cap') ∧ W.cell? ⟨w.heap.size, 0, none⟩ = some (.int .u16 i) ∧ W.cell? ⟨w.heap.size, 1, none⟩ = some (.int .u16 j)) (by kernel_rfl) hS (fun hHeld => ?_)
  clear hHeld
  refine wpAnyH_take (i := 0) (v := .pointer (some ⟨bp, 0, none⟩)) rfl (by kernel_rfl) (by kernel_rfl) (by kernel_rfl) (fun _ _ _ h => h) (Or.inl ⟨by rfl, ?_⟩) (by assumption) ?_
  · intro W hSw
    obtain ⟨s0, s1, s2⟩ := hSw
    go_simp
  (try simp only [Act.put, List.setIfInBounds_toArray, List.set_cons_zero, List.set_cons_succ, List.getElem_toArray, List.getElem_cons_zero, List.getElem_cons_succ])
  refine wpAnyH_take (i := 1) (v := .pointer (some ⟨bp, 0, none⟩)) rfl (by kernel_rfl) (by kernel_rfl) (by kernel_rfl) (fun _ _ _ h => h) (Or.inl ⟨by rfl, ?_⟩) (by assumption) ?_
  · intro W hSw
    obtain ⟨s0, s1, s2⟩ := hSw
    go_simp
  (try simp only [Act.put, List.setIfInBounds_toArray, List.set_cons_zero, List.set_cons_succ, List.getElem_toArray, List.getElem_cons_zero, List.getElem_cons_succ])
  refine wpAnyH_take (i := 2) (v := .pointer (some ⟨bp, 1, none⟩)) rfl (by kernel_rfl) (by kernel_rfl) (by kernel_rfl) (fun _ _ _ h => h) (Or.inl ⟨by rfl, ?_⟩) (by assumption) ?_
  · intro W hSw
    obtain ⟨s0, s1, s2⟩ := hSw
    go_simp
  (try simp only [Act.put, List.setIfInBounds_toArray, List.set_cons_zero, List.set_cons_succ, List.getElem_toArray, List.getElem_cons_zero, List.getElem_cons_succ])
  refine wpAnyH_take (i := 3) (v := .slice (some ⟨g', 0, none⟩) m cap') rfl (by kernel_rfl) (by kernel_rfl) (by kernel_rfl) (fun _ _ _ h => h) (Or.inl ⟨by rfl, ?_⟩) (by assumption) ?_
  · intro W hSw
    obtain ⟨s0, s1, s2⟩ := hSw
    go_simp
  (try simp only [Act.put, List.setIfInBounds_toArray, List.set_cons_zero, List.set_cons_succ, List.getElem_toArray, List.getElem_cons_zero, List.getElem_cons_succ])
  refine wpAnyH_take (i := 4) (v := .int .i64 k) rfl (by kernel_rfl) (by kernel_rfl) (by kernel_rfl) (fun _ _ _ h => h) (Or.inl ⟨by rfl, ?_⟩) (by assumption) ?_
  · intro W hSw
    obtain ⟨s0, s1, s2⟩ := hSw
    go_simp
  (try simp only [Act.put, List.setIfInBounds_toArray, List.set_cons_zero, List.set_cons_succ, List.getElem_toArray, List.getElem_cons_zero, List.getElem_cons_succ])
  refine wpAnyH_take (i := 5) (v := .agg #[.int .u16 i, .int .u16 j]) rfl (by kernel_rfl) (by kernel_rfl) (by kernel_rfl) (fun _ _ _ h => h) (Or.inl ⟨by rfl, ?_⟩) (by assumption) ?_
  · intro W hSw
    obtain ⟨s0, s1, s2⟩ := hSw
    go_simp
  (try simp only [Act.put, List.setIfInBounds_toArray, List.set_cons_zero, List.set_cons_succ, List.getElem_toArray, List.getElem_cons_zero, List.getElem_cons_succ])
  refine wpAnyH_take (i := 6) (v := .pointer (some ⟨g', k * 2, none⟩)) rfl (by kernel_rfl) (by kernel_rfl) (by kernel_rfl) (fun _ _ _ h => h) (Or.inl ⟨by rfl, ?_⟩) (by assumption) ?_
  · intro W hSw
    obtain ⟨s0, s1, s2⟩ := hSw
    go_simp
  (try simp only [Act.put, List.setIfInBounds_toArray, List.set_cons_zero, List.set_cons_succ, List.getElem_toArray, List.getElem_cons_zero, List.getElem_cons_succ])
  refine wpAnyH_ready (rs := [7]) (by kernel_rfl) (by simp) (AllReadyH.cons rfl (fun K hK => ?_) AllReadyH.nil)
  refine step_store_owp (by rfl) (.tmp 38) (.tmp 37) (by rfl) g' k O cur i j (by rfl) (by rfl) HG.out HT.out HS.out HK.out ?_
  intro w5 cur5 hw5 hg5 hs5 ht5
  have HE := Lib.hid (HFIN.out w5 cur5 hw5 hg5 hs5 ht5)
  have hg0 : bp ≠ g' := fun e => by
    obtain ⟨b9, v9, e9, hr9, _⟩ := HE.out.1
    obtain rfl : bp = b9 := by injection e9 with e; injection e with e; injection e with e
    rw [e, hg5] at hr9
    injection hr9 with hr9
    injection hr9 with _ hr9 _
    exact absurd hr9 (by decide)
  have hS5 : w5.cell? ⟨bp, 1, none⟩ = some (.slice (some ⟨g', 0, none⟩) m cap') ∧ w5.cell? ⟨w.heap.size, 0, none⟩ = some (.int .u16 i) ∧ w5.cell? ⟨w.heap.size, 1, none⟩ = some (.int .u16 j) :=
    ⟨(World.cell?_of_block (a := ⟨bp, 1, none⟩) (hw5.2.2.2.2 bp hg0)).trans hS.1, (World.cell?_of_block (a := ⟨w.heap.size, 0, none⟩) (hw5.2.2.2.2 _ HNG.out)).trans hS.2.1, (World.cell?_of_block (a := ⟨w.heap.size, 1, none⟩) (hw5.2.2.2.2 _ HNG.out)).trans hS.2.2⟩
  refine hK.out _ _ hS5 (fun hHeld => ?_)
  clear hK K hHeld hS hS5 hw5 hg5 hs5 ht5 hg0
  (try simp only [Act.put, List.setIfInBounds_toArray, List.set_cons_zero, List.set_cons_succ, List.getElem_toArray, List.getElem_cons_zero, List.getElem_cons_succ])
  refine wpAnyH_done (by kernel_rfl) ?_ _
  go_wp2
  go_ret
  exact ⟨rfl, HE.out.1, HCH.out.trans HE.out.2⟩
end
end Go.Proofs.YtkbeencjklgcnaaGreat

/- Layer 12's reference: contract of Find. -/
namespace Go.Proofs.YtkbeencjklgcnaaGreat
set_option maxRecDepth 100000
open Go.RowKit
set_option linter.unusedVariables false

/-- The goal that counts. -/
def goalS (L : Nat) (g : Int) : Nat := if g < 0 ∨ (L : Int) ≤ g then 0 else g.toNat
theorem rSpFind_any {w : World} {M : Nat → Prop} {p : Value} {n : Int} {O : List (Int × Int)} (h : RSp w M p n O) {L : Nat} (hL : L ≤ O.length) (hO : O.length ≤ 100000) (h0 : 0 < L) (g : Int) : Calls Tryz.prog 33 #[p, .int .i64 L, .int .i64 g] w fun e w' => e = .returned (.int .i64 (findS O L (goalS L g))) ∧ w = w' := by
  obtain ⟨bp, gb, off, cap, rfl, c0, c1, hc⟩ := h.cells (by omega)
  have HC := Lib.hid hc
  obtain ⟨m, hm⟩ : ∃ m, m = O.length := ⟨_, rfl⟩
  have HL := Lib.hid hL
  rw [← hm] at c1 hL hO
  clear hm hc h
  by_cases hg : g < 0
  · rw [show goalS L g = 0 from if_pos (.inl hg)]
    go_enter Tryz.func33, Tryz.ntmps33
    go_wp2
    go_loopw [17] (fun i wr => wr = w ∧ ∃ k : Nat, i = .int .i64 k ∧ k ≤ L ∧ Hid (∀ j, j < k → freeJ O ((0 + j) % L) = false)) (fun i _ => L - (intOf i).toNat)
    case atStart => exact ⟨rfl, 0, rfl, Nat.zero_le _, Lib.hid (fun j hj => absurd hj (Nat.not_lt_zero _))⟩
    case round =>
      obtain ⟨rfl, k, rfl, hkL, HK⟩ := hrel
      by_cases hlt : k < L
      · have ek : (k : Int) < (L : Int) := by omega
        obtain ⟨a, ha⟩ : ∃ a, a = (0 + k) % L := ⟨_, rfl⟩
        have hal : a < L := by rw [ha]; exact Nat.mod_lt _ h0
        obtain rfl : a = k := by rw [ha, Nat.zero_add]; exact Nat.mod_eq_of_lt hlt
        have hmod : (a : Int) % (L : Int) = (a : Int) := Int.emod_eq_of_lt (by omega) (by omega)
        have hmod2 : (a : Int).tmod (L : Int) = (a : Int) := by rw [Int.tmod_eq_emod_of_nonneg (by omega)]; exact hmod
        obtain ⟨d0, d1⟩ := HC.out a (by have := HL.out; omega)
        have HA := Lib.hid ha
        obtain ⟨x, hx⟩ : ∃ x, x = (O.getD a (0, 0)).1 := ⟨_, rfl⟩
        have HF : Hid (freeJ O a = decide (x = 0)) := Lib.hid (by unfold freeJ; rw [hx])
        rw [← hx] at d0
        have hG : 0 + (a : Int) < 9223372036854775807 := by omega
        have hL0 : ¬ (L : Int) = 0 := by omega
        clear hx ha
        by_cases hfr : x = 0
        · subst hfr
          have HR : Hid (findS O L 0 = (a : Int)) := Lib.hid (by rw [HA.out]; exact findS_hit hlt (by rw [← HA.out, HF.out]; rfl) HK.out)
          go_wp2
          go_ret
          exact ⟨by rw [HR.out]; rfl, rfl⟩
        · have e1 : (x == 0) = false := by simp [hfr]
          have HK2 : Hid (∀ j, j < a + 1 → freeJ O ((0 + j) % L) = false) := Lib.hid (fun j hj => by
            by_cases e : j < a
            · exact HK.out j e
            · obtain rfl : j = a := by omega
              rw [← HA.out, HF.out]
              exact decide_eq_false hfr)
          go_wp2
          go_roundw
          case rel => exact ⟨trivial, a + 1, by go_num, by omega, HK2⟩
          case measure => simp [intOf]; omega
      · obtain rfl : k = L := by omega
        have HR := Lib.hid (findS_none HK.out)
        go_wp2
        go_ret
        exact ⟨by rw [HR.out]; rfl, rfl⟩
  by_cases hg2 : (L : Int) ≤ g
  · rw [show goalS L g = 0 from if_pos (.inr hg2)]
    go_enter Tryz.func33, Tryz.ntmps33
    go_wp2
    go_loopw [17] (fun i wr => wr = w ∧ ∃ k : Nat, i = .int .i64 k ∧ k ≤ L ∧ Hid (∀ j, j < k → freeJ O ((0 + j) % L) = false)) (fun i _ => L - (intOf i).toNat)
    case atStart => exact ⟨rfl, 0, rfl, Nat.zero_le _, Lib.hid (fun j hj => absurd hj (Nat.not_lt_zero _))⟩
    case round =>
      obtain ⟨rfl, k, rfl, hkL, HK⟩ := hrel
      by_cases hlt : k < L
      · have ek : (k : Int) < (L : Int) := by omega
        obtain ⟨a, ha⟩ : ∃ a, a = (0 + k) % L := ⟨_, rfl⟩
        have hal : a < L := by rw [ha]; exact Nat.mod_lt _ h0
        obtain rfl : a = k := by rw [ha, Nat.zero_add]; exact Nat.mod_eq_of_lt hlt
        have hmod : (a : Int) % (L : Int) = (a : Int) := Int.emod_eq_of_lt (by omega) (by omega)
        have hmod2 : (a : Int).tmod (L : Int) = (a : Int) := by rw [Int.tmod_eq_emod_of_nonneg (by omega)]; exact hmod
        obtain ⟨d0, d1⟩ := HC.out a (by have := HL.out; omega)
        have HA := Lib.hid ha
        obtain ⟨x, hx⟩ : ∃ x, x = (O.getD a (0, 0)).1 := ⟨_, rfl⟩
        have HF : Hid (freeJ O a = decide (x = 0)) := Lib.hid (by unfold freeJ; rw [hx])
        rw [← hx] at d0
        have hG : 0 + (a : Int) < 9223372036854775807 := by omega
        have hL0 : ¬ (L : Int) = 0 := by omega
        clear hx ha
        by_cases hfr : x = 0
        · subst hfr
          have HR : Hid (findS O L 0 = (a : Int)) := Lib.hid (by rw [HA.out]; exact findS_hit hlt (by rw [← HA.out, HF.out]; rfl) HK.out)
          go_wp2
          go_ret
          exact ⟨by rw [HR.out]; rfl, rfl⟩
        · have e1 : (x == 0) = false := by simp [hfr]
          have HK2 : Hid (∀ j, j < a + 1 → freeJ O ((0 + j) % L) = false) := Lib.hid (fun j hj => by
            by_cases e : j < a
            · exact HK.out j e
            · obtain rfl : j = a := by omega
              rw [← HA.out, HF.out]
              exact decide_eq_false hfr)
          go_wp2
          go_roundw
          case rel => exact ⟨trivial, a + 1, by go_num, by omega, HK2⟩
          case measure => simp [intOf]; omega
      · obtain rfl : k = L := by omega
        have HR := Lib.hid (findS_none HK.out)
        go_wp2
        go_ret
        exact ⟨by rw [HR.out]; rfl, rfl⟩
  · rw [show goalS L g = g.toNat from if_neg (by omega)]
    obtain ⟨G, rfl⟩ : ∃ G : Nat, g = G := ⟨g.toNat, by omega⟩
    rw [Int.toNat_natCast]
    go_enter Tryz.func33, Tryz.ntmps33
    go_wp2
    go_loopw [17] (fun i wr => wr = w ∧ ∃ k : Nat, i = .int .i64 k ∧ k ≤ L ∧ Hid (∀ j, j < k → freeJ O ((G + j) % L) = false)) (fun i _ => L - (intOf i).toNat)
    case atStart => exact ⟨rfl, 0, rfl, Nat.zero_le _, Lib.hid (fun j hj => absurd hj (Nat.not_lt_zero _))⟩
    case round =>
      obtain ⟨rfl, k, rfl, hkL, HK⟩ := hrel
      by_cases hlt : k < L
      · have ek : (k : Int) < (L : Int) := by omega
        obtain ⟨a, ha⟩ : ∃ a, a = (G + k) % L := ⟨_, rfl⟩
        have hal : a < L := by rw [ha]; exact Nat.mod_lt _ h0
        have hmod : ((G : Int) + (k : Int)) % (L : Int) = (a : Int) := by rw [ha]; simp
        have hmod2 : ((G : Int) + (k : Int)).tmod (L : Int) = (a : Int) := by rw [Int.tmod_eq_emod_of_nonneg (by omega)]; exact hmod
        obtain ⟨d0, d1⟩ := HC.out a (by have := HL.out; omega)
        have HA := Lib.hid ha
        obtain ⟨x, hx⟩ : ∃ x, x = (O.getD a (0, 0)).1 := ⟨_, rfl⟩
        have HF : Hid (freeJ O a = decide (x = 0)) := Lib.hid (by unfold freeJ; rw [hx])
        rw [← hx] at d0
        have hG : (G : Int) + (k : Int) < 9223372036854775807 := by omega
        have hL0 : ¬ (L : Int) = 0 := by omega
        clear hx ha
        by_cases hfr : x = 0
        · subst hfr
          have HR : Hid (findS O L G = (a : Int)) := Lib.hid (by rw [HA.out]; exact findS_hit hlt (by rw [← HA.out, HF.out]; rfl) HK.out)
          go_wp2
          go_ret
          exact ⟨by rw [HR.out]; rfl, rfl⟩
        · have e1 : (x == 0) = false := by simp [hfr]
          have HK2 : Hid (∀ j, j < k + 1 → freeJ O ((G + j) % L) = false) := Lib.hid (fun j hj => by
            by_cases e : j < k
            · exact HK.out j e
            · obtain rfl : j = k := by omega
              rw [← HA.out, HF.out]
              exact decide_eq_false hfr)
          go_wp2
          go_roundw
          case rel => exact ⟨trivial, k + 1, by go_num, by omega, HK2⟩
          case measure => simp [intOf]; omega
      · obtain rfl : k = L := by omega
        have HR := Lib.hid (findS_none HK.out)
        go_wp2
        go_ret
        exact ⟨by rw [HR.out]; rfl, rfl⟩
end Go.Proofs.YtkbeencjklgcnaaGreat

/- Contracts: group's Owners, the law's sameOwners. -/
namespace Go.Proofs.YtkbeencjklgcnaaGreat
set_option maxRecDepth 100000
open Go.RowKit BM
set_option linter.unusedVariables false

theorem pGet2 {w : World} {v : Value} {c : List Int} (hs : BSl w v c) (hc : c.length ≤ 100000) (a : Nat) (ha : a + 2 ≤ c.length) (y : Int) (hy : y = getV c a 2) : Calls Tryz.prog 105 #[v, .int .i64 (a : Int), .int .i64 2] w fun e w' => e = .returned (.tuple #[.int .u64 y, .bool true]) ∧ w = w' := by
  have hg := pGet_any hs (by omega) (a : Int) 2 (by omega) (by omega)
  have hn : getN c (a : Int) 2 = y := by unfold getN; rw [if_pos (by omega), hy]; rfl
  have hb : gotB c (a : Int) 2 = true := decide_eq_true (by omega)
  rw [hn, hb] at hg
  exact hg
theorem grOwn_len {w : World} (ao : Option Addr) (len cap : Nat) (h : len ≠ 256) : Calls Tryz.prog 68 #[.slice ao len cap] w fun e w' => e = .returned (.tuple #[.slice none 0 0, .int .i64 18]) ∧ w = w' := by
  have hne : ((len : Int) != 256) = true := by simp; omega
  go_enter Tryz.func68, Tryz.ntmps68
  go_wp2
  go_ret2
  exact ⟨rfl, rfl⟩
theorem own_all (l : List Int) : allO (ownK l 64) = frmK (ownK l 64) 64 := by rw [allO, ownK_length]; rfl
theorem grOwn_256 {w : World} {v : Value} {l : List Int} (hs : BSl w v l) (hl : l.length = 256) : Calls Tryz.prog 68 #[v] w (OwnOut l w) := by
  obtain ⟨ao, cap, rfl, _⟩ := hs.shape
  obtain ⟨M, hMM⟩ : ∃ M : Nat, M = 64 := ⟨_, rfl⟩
  have HMI : Hid ((64 : Int) = (M : Int)) := Lib.hid (by omega)
  have hM1 : M ≤ 1000 := by omega
  have HM := Lib.hid hMM
  have HS := Lib.hid hs
  have HL := Lib.hid hl
  rw [hl] at HS ⊢
  clear hMM hs hl
  go_enter Tryz.func68, Tryz.ntmps68
  go_wp2_with (at_make; refine wpList_make_ow _ rfl _ _ rfl _ M rfl rfl HMI.out (by omega) ?_)
  have hz : (w.alloc (.cells (ownC (List.replicate M (0, 0))).toArray 32)).heap[w.heap.size]? = some (.cells (ownC (pref (ownJ l) 0)).toArray 32 (0, 0)) := by
    rw [pref_zero, ← HM.out]; exact heap_alloc_new w _
  have hb2 : Below w.heap.size w (w.alloc (.cells (ownC (List.replicate M (0, 0))).toArray 32)) := below_box _ _
  generalize w.alloc (.cells (ownC (List.replicate M (0, 0))).toArray 32) = w2 at hz hb2 ⊢
  have HZ := Lib.hid hz
  clear hz
  go_loopw [16] (fun i wr => ∃ k : Nat, k ≤ 64 ∧ i = .int .i64 k ∧ Hid (wr.heap[w.heap.size]? = some (.cells (ownC (pref (ownJ l) k)).toArray 32 (0, 0))) ∧ Below w.heap.size w wr) (fun i _ => 64 - (intOf i).toNat)
  case atStart => exact ⟨0, by omega, rfl, HZ, hb2⟩
  case round =>
    obtain ⟨k, hk, rfl, HR, hbr⟩ := hrel
    clear HZ hb2
    by_cases hlt : k < 64
    · have ekM : (k : Int) < (M : Int) := by have := HMI.out; omega
      have ekN : k < M := by have := HM.out; omega
      have ek : (k : Int) < 64 := by omega
      have hsr := HS.out.below hbr
      have T1 := pGet2 hsr (by rw [HL.out]; decide) (4 * k) (by rw [HL.out]; omega) _ rfl
      have T2 := pGet2 hsr (by rw [HL.out]; decide) (4 * k + 2) (by rw [HL.out]; omega) _ rfl
      have b1 := getV2_bd (byt_mem hsr.1) (4 * k)
      have b2 := getV2_bd (byt_mem hsr.1) (4 * k + 2)
      have hps := pref_set (ownJ l) k
      rw [ownJ] at hps
      obtain ⟨x, hx⟩ : ∃ x, x = getV l (4 * k) 2 := ⟨_, rfl⟩
      obtain ⟨y, hy⟩ : ∃ y, y = getV l (4 * k + 2) 2 := ⟨_, rfl⟩
      rw [← hx] at T1 b1 hps
      rw [← hy] at T2 b2 hps
      rw [show ((4 * k : Nat) : Int) = (k : Int) * 4 by push_cast; omega] at T1
      rw [show ((4 * k + 2 : Nat) : Int) = (k : Int) * 4 + 2 by push_cast; omega] at T2
      have H1 := Lib.hid T1
      have H2 := Lib.hid T2
      have HPS := Lib.hid hps
      clear T1 T2 hx hy hsr hps
      obtain ⟨b10, b11⟩ := b1
      obtain ⟨b20, b21⟩ := b2
      go_wp2_with (first
        | (go_at_call 105; (with_reducible refine H1.out.mono ?_); rintro e w3 ⟨rfl, rfl⟩)
        | (go_at_call 105; (with_reducible refine H2.out.mono ?_); rintro e w3 ⟨rfl, rfl⟩)
        | (with_reducible refine wpList_store_ow rfl (.tmp 41) (.tmp 40) rfl w.heap.size k (pref (ownJ l) k) x y rfl rfl HR.out (by rw [pref_length]; exact hlt) ?_; intro w4 hw4 hr4
           rw [HPS.out] at hr4))
      go_roundw
      case rel => exact ⟨k + 1, by omega, by go_num, hr4, hbr.trans (hw4.below (Nat.le_refl _))⟩
      case measure => simp [intOf]; omega
    · obtain rfl : k = 64 := by omega
      have hkM : ¬ (64 : Nat) < M := by have := HM.out; omega
      have hr := HR.out
      rw [pref_full] at hr
      have hob0 := OwR.of_row (B := w.heap.size) (owB_ownK (byt_mem HS.out.1) 64) (Nat.le_refl _) hr (by rw [ownK_length]; decide)
      rw [ownK_length] at hob0
      have hob : OwR wr w.heap.size (.slice (some ⟨w.heap.size, 0, none⟩) M M) (ownK l 64) := by rw [HM.out]; exact hob0
      clear hob0
      have HOB := Lib.hid hob
      have ho := own_all l
      cases hf : frmK (ownK l 64) 64
      all_goals
        rw [hf] at ho
        have HF := Lib.hid hf
        have HA := Lib.hid (grAll_is hob.sl _ ho)
        clear hf ho hr
      all_goals clear hob
      · go_wp2_with (go_at_call 106; refine HA.out.mono ?_; rintro e w3 ⟨rfl, hb3⟩)
        go_ret2
        exact .inr ⟨(fun h => by have h2 := h.2; rw [HF.out] at h2; cases h2), rfl, hbr.trans (hb3.mono hbr.size)⟩
      · go_wp2_with (go_at_call 106; refine HA.out.mono ?_; rintro e w3 ⟨rfl, hb3⟩)
        go_ret2
        exact .inl ⟨⟨HL.out, HF.out⟩, _, rfl, HOB.out.below hb3, hbr.trans (hb3.mono hbr.size)⟩
theorem grOwn_any {w : World} {v : Value} {l : List Int} (hs : BSl w v l) : Calls Tryz.prog 68 #[v] w (OwnOut l w) := by
  by_cases h : l.length = 256
  · exact grOwn_256 hs h
  · obtain ⟨ao, cap, rfl, _⟩ := hs.shape
    exact (grOwn_len ao _ cap h).mono fun e w' ⟨he, hw⟩ => .inr ⟨fun hp => h hp.1, he, by rw [← hw]; exact Below.refl _ _⟩

theorem OwSl.open' {w : World} {v : Value} {O : List (Int × Int)} (h : OwSl w v O) : ∃ ao cap, v = .slice ao O.length cap ∧ (0 < O.length → ∃ b off, ao = some ⟨b, off, none⟩ ∧ b < w.heap.size ∧
    ∀ j, j < O.length → w.cell? ⟨b, off + j * 2, none⟩ = some (.int .u16 (O.getD j (0, 0)).1) ∧ w.cell? ⟨b, off + j * 2 + 1, none⟩ = some (.int .u16 (O.getD j (0, 0)).2)) := by
  by_cases h0 : 0 < O.length
  · obtain ⟨b, off, cap, rfl, hb, hc⟩ := h.at h0
    exact ⟨_, cap, rfl, fun _ => ⟨b, off, rfl, hb, hc⟩⟩
  · obtain ⟨ao, cap, rfl⟩ := h.shape
    exact ⟨ao, cap, rfl, fun h => absurd h h0⟩
end Go.Proofs.YtkbeencjklgcnaaGreat

/- Structs of two cells; contracts: group's Of, the law's desc. -/
namespace Go.Proofs.YtkbeencjklgcnaaGreat
set_option maxRecDepth 100000
open Go.RowKit BM
set_option linter.unusedVariables false

theorem sizeD : (Tryz.prog.info? 153).map (·.size) = some 2 := by kernel_rfl
theorem sizeRD : (Tryz.prog.info? 92).map (·.size) = some 2 := by kernel_rfl
theorem one2 {p q : Value} (hp : p.oneCell' = true) (hq : q.oneCell' = true) : (#[p, q] : Array Value).all (·.oneCell') = true := by simp [hp, hq]
/-- A struct of two cells into a variable; out of it; as a result. -/
theorem wpList_store2 {ops : Array Oper} {rest : List Oper} {o : Oper} {a : Act} {w : World} {Q : Exit → Act → World → Prop} (hgd : o.guard = none) (ty : TypeId) (hi : (Tryz.prog.info? ty).map (·.size) = some 2) (x y : Operand) (ho : o.op = .store ty x y)
    (g : Nat) (hx : a.eval x = .pointer (some ⟨g, 0, none⟩)) (p q p' q' : Value) (hy : a.eval y = .agg #[p, q]) (hp : p.oneCell' = true) (hq : q.oneCell' = true) (T : TypeId) (hg : w.heap[g]? = some (.cells #[p', q'] T (0, 0)))
    (h : ∀ w', Wrote w w' g → w'.heap[g]? = some (.cells #[p, q] T (0, 0)) → wpList Tryz.prog ops Q rest (a.put o.dst undef) w') : wpList Tryz.prog ops Q (o :: rest) a w :=
  wpList_store_row hgd ty x y ho g #[p, q] hx hy T _ hg hi rfl (one2 hp hq) (h _ (Wrote.setRow _ _ _) (setRow_heap _ _ _ _ _ _ hg))
theorem ret_cell2 {fn : Func} {p u : Tmp} {ty : TypeId} {fs} (h : fn.results = #[.cell p ty, .tmp u]) (hu : Tryz.prog.underlying ty = some (.struct fs)) (hi : (Tryz.prog.info? ty).map (·.size) = some 2)
    (tmps : Array Value) (w : World) (g : Nat) (T : TypeId) (a b x : Value) (hp : tmps.getD p undef = .pointer (some ⟨g, 0, none⟩)) (hg : w.heap[g]? = some (.cells #[a, b] T (0, 0))) (hx : tmps.getD u undef = x) :
    (results fn tmps).run Tryz.prog w = .ok (.tuple #[.agg #[a, b], x]) w := by
  rw [results_cell_tmp h, hp, hx]
  simp only [asAddr, Sem.run_pure, Result.andThen_ok]
  rw [run_loadVar_row w g T ty _ (0, 0) _ hg hu rfl (by rw [hi]; rfl)]
  rfl
theorem below_hold {w w1 : World} {g : Nat} {o : Obj} (h : w.heap[g]? = some o) (hb : Below w.heap.size w w1) : w1.heap[g]? = some o := (hb.block _ (Array.getElem?_eq_some_iff.1 h).1).trans h

/-- A row of 64 bits of which the first k are laid. -/
def preB (f : Nat → Bool) (k : Nat) : List Bool := (List.range 64).map fun i => if i < k then f i else false
theorem preB_length (f : Nat → Bool) (k : Nat) : (preB f k).length = 64 := by simp [preB]
theorem preB_set (f : Nat → Bool) (k : Nat) : (preB f k).set k (f k) = preB f (k + 1) := by
  apply List.ext_getElem (by simp [preB])
  intro i h1 h2
  simp only [preB, List.getElem_set, List.getElem_map, List.getElem_range]
  by_cases e : k = i
  · subst e; rw [if_pos rfl, if_pos (by omega)]
  · rw [if_neg e]
    by_cases h : i < k
    · rw [if_pos h, if_pos (by omega)]
    · rw [if_neg h, if_neg (by omega)]
theorem preB_zero (f : Nat → Bool) : preB f 0 = List.replicate 64 false := by
  rw [List.eq_replicate_iff]
  refine ⟨preB_length f 0, fun b hb => ?_⟩
  obtain ⟨i, _, rfl⟩ := List.mem_map.1 hb
  rw [if_neg (by omega)]
theorem preB_full (f : Nat → Bool) : preB f 64 = (List.range 64).map f := by
  unfold preB
  apply List.map_congr_left
  intro i hi
  rw [if_pos (List.mem_range.1 hi)]

/-- What Of hands back. -/
def OfOut (g : Int) (O : List (Int × Int)) (w : World) (e : Ending) (w' : World) : Prop :=
  (((0 ≤ g ∧ g < 12) ∧ allO O = true) ∧ ∃ p r, e = .returned (.tuple #[.agg #[.int .i64 g, .pointer (some ⟨p, 0, none⟩)], .int .i64 0]) ∧ BRow w' p r (usedK O 64) ∧ Below w.heap.size w w') ∨
  (¬ ((0 ≤ g ∧ g < 12) ∧ allO O = true) ∧ e = .returned (.tuple #[.agg #[.int .i64 0, .pointer none], .int .i64 1]) ∧ Below w.heap.size w w')
theorem grOf_bad {w : World} {v : Value} {O : List (Int × Int)} (hs : OwSl w v O) (g : Int) (h : ¬ ((0 ≤ g ∧ g < 12) ∧ allO O = true)) :
    Calls Tryz.prog 107 #[.int .i64 g, v] w fun e w' => e = .returned (.tuple #[.agg #[.int .i64 0, .pointer none], .int .i64 1]) ∧ Below w.heap.size w w' := by
  have hb1 := below_box w (.cells #[.int .i64 0, .pointer none] 153)
  have hr1 := heap_alloc_new w (.cells #[.int .i64 0, .pointer none] 153)
  obtain ⟨w1, hw1⟩ : ∃ w1, w1 = w.alloc (.cells #[.int .i64 0, .pointer none] 153) := ⟨_, rfl⟩
  rw [← hw1] at hb1 hr1
  have H1 := Lib.hid hw1.symm
  have HR1 := Lib.hid hr1
  have hs1 := hs.below hb1
  by_cases hg : 0 ≤ g ∧ g < 12
  · have ha : allO O = false := by cases hb : allO O <;> simp_all
    have HA := Lib.hid (grAll_is hs1 false ha)
    obtain ⟨hg1, hg2⟩ := hg
    clear hs hs1 h ha hw1 hr1
    go_enter Tryz.func107, Tryz.ntmps107
    go_wp2_with (first
      | (go_at_call 132; rw [H1.out]; refine (grPoss_yes g hg1 hg2 _).mono ?_; rintro e w2 ⟨rfl, rfl⟩)
      | (go_at_call 106; refine HA.out.mono ?_; rintro e w2 ⟨rfl, hb2⟩; have hr2 := below_hold HR1.out hb2)
      | (with_reducible refine wpList_store2 rfl 153 sizeD (.tmp 4) (.tmp 17) rfl w.heap.size rfl _ _ _ _ rfl rfl rfl _ hr2 ?_; intro w3 hw3 hr3))
    exact bodyPost_ret (ret_cell2 rfl Tryz.underlying153 sizeD _ _ w.heap.size _ _ _ _ rfl hr3 rfl) rfl ⟨rfl, (hb1.trans (hb2.mono hb1.size)).trans (hw3.below (Nat.le_refl _))⟩
  · clear hs hs1 h hw1 hr1
    have hr1 := HR1.out
    go_enter Tryz.func107, Tryz.ntmps107
    go_wp2_with (first
      | (go_at_call 132; rw [H1.out]; refine (grPoss_no g hg _).mono ?_; rintro e w2 ⟨rfl, rfl⟩)
      | (with_reducible refine wpList_store2 rfl 153 sizeD (.tmp 4) (.tmp 17) rfl w.heap.size rfl _ _ _ _ rfl rfl rfl _ hr1 ?_; intro w3 hw3 hr3))
    exact bodyPost_ret (ret_cell2 rfl Tryz.underlying153 sizeD _ _ w.heap.size _ _ _ _ rfl hr3 rfl) rfl ⟨rfl, hb1.trans (hw3.below (Nat.le_refl _))⟩
theorem bNew_64 (w : World) : Calls Tryz.prog 77 #[.int .i64 64] w fun e w' => e = .returned (.pointer (some ⟨w.heap.size + 1, 0, none⟩)) ∧ BRow w' (w.heap.size + 1) w.heap.size (List.replicate 64 false) ∧ Below w.heap.size w w' :=
  (bNew_at 64 64 (by decide) w (by decide)).mono fun _ _ ⟨h1, h2, h3, _⟩ => ⟨h1, h2, h3⟩
theorem bSet_nat {w : World} {p g : Nat} {L : List Bool} (h : BRow w p g L) (i : Nat) (hi : i < L.length) (on : Bool) :
    Calls Tryz.prog 78 #[.pointer (some ⟨p, 0, none⟩), .int .i64 i, .bool on] w fun e w' => e = .returned (.int .i64 0) ∧ BRow w' p g (L.set i on) ∧ Wrote w w' g :=
  (bSet_any h i on).mono fun e w' he => by rw [if_pos (by omega), if_pos (by omega)] at he; exact he
theorem frm_zero {y : Int} (h : frmO 0 y = true) : y = 0 := by
  unfold frmO at h
  rw [if_pos (.inl rfl)] at h
  exact of_decide_eq_true h
theorem grOf_good {w : World} {v : Value} {O : List (Int × Int)} (hs : OwSl w v O) (g : Int) (hg1 : 0 ≤ g) (hg2 : g < 12) (ha : allO O = true) :
    Calls Tryz.prog 107 #[.int .i64 g, v] w fun e w' => ∃ p r, e = .returned (.tuple #[.agg #[.int .i64 g, .pointer (some ⟨p, 0, none⟩)], .int .i64 0]) ∧ BRow w' p r (usedK O 64) ∧ Below w.heap.size w w' := by
  have hb1 := below_box w (.cells #[.int .i64 0, .pointer none] 153)
  have hr1 := heap_alloc_new w (.cells #[.int .i64 0, .pointer none] 153)
  obtain ⟨w1, hw1⟩ : ∃ w1, w1 = w.alloc (.cells #[.int .i64 0, .pointer none] 153) := ⟨_, rfl⟩
  rw [← hw1] at hb1 hr1
  have hz1 : w.heap.size < w1.heap.size := by rw [hw1]; simp
  have H1 := Lib.hid hw1.symm
  have HR1 := Lib.hid hr1
  have hs1 := hs.below hb1
  have HA := Lib.hid (grAll_is hs1 true ha)
  have hO := allO_len ha
  obtain ⟨b, off, cap, rfl, hb, hc⟩ := hs.at (by omega)
  have hfr : ∀ j, j < 64 → frmJ O j = true := by
    have : frmK O 64 = true := by rw [allO, hO] at ha; simpa using ha
    exact (frmK_iff O 64).1 this
  have HBB := Lib.hid hs.1
  have HC := Lib.hid hc
  have HO := Lib.hid hO
  have HFR := Lib.hid hfr
  rw [hO] at HA ⊢
  clear hs hs1 hw1 ha hc hO hfr hr1
  go_enter Tryz.func107, Tryz.ntmps107
  go_wp2_with (first
    | (go_at_call 132; rw [H1.out]; refine (grPoss_yes g hg1 hg2 _).mono ?_; rintro e w2 ⟨rfl, rfl⟩)
    | (go_at_call 106; refine HA.out.mono ?_; rintro e w2 ⟨rfl, hb2⟩; have hr2 := below_hold HR1.out hb2)
    | (go_at_call 77; refine (bNew_64 _).mono ?_; rintro e w3 ⟨rfl, hrow3, hb3⟩; have hr3 := below_hold hr2 hb3))
  obtain ⟨r, hr⟩ : ∃ r, r = w2.heap.size := ⟨_, rfl⟩
  rw [← hr] at hrow3 ⊢
  obtain ⟨p, hp⟩ : ∃ p, p = r + 1 := ⟨_, rfl⟩
  rw [← hp] at hrow3 ⊢
  have hwr : w.heap.size < r := by have := hb2.size; omega
  have hwp : w.heap.size < p := by omega
  have hb03 : Below w.heap.size w w3 := (hb1.trans (hb2.mono hb1.size)).trans (hb3.mono (by omega))
  rw [← preB_zero (usedJ O)] at hrow3
  have HROW3 := Lib.hid hrow3
  have HR3 := Lib.hid hr3
  clear hr hp hrow3 hr3 hr2 hb3 hb2
  go_loopw [21] (fun i wr => ∃ k : Nat, k ≤ 64 ∧ i = .int .i64 k ∧ Hid (BRow wr p r (preB (usedJ O) k)) ∧ Hid (wr.heap[w.heap.size]? = some (.cells #[.int .i64 0, .pointer none] 153 (0, 0))) ∧ Below w.heap.size w wr) (fun i _ => 64 - (intOf i).toNat)
  case atStart => exact ⟨0, by omega, rfl, HROW3, HR3, hb03⟩
  case round =>
    obtain ⟨k, hk, rfl, HROW, HRC, hbr⟩ := hrel
    clear HROW3 HR3 hb03
    by_cases hlt : k < 64
    · have hck := HC.out k (by rw [HO.out]; exact hlt)
      have hbd := HBB.out k
      have hfk := HFR.out k hlt
      have hus : usedJ O k = decide ((O.getD k (0, 0)).1 ≠ 0) := rfl
      rw [frmJ] at hfk
      obtain ⟨x, hx⟩ : ∃ x, x = (O.getD k (0, 0)).1 := ⟨_, rfl⟩
      obtain ⟨y, hy⟩ : ∃ y, y = (O.getD k (0, 0)).2 := ⟨_, rfl⟩
      rw [← hx, ← hy] at hck hbd hfk
      rw [← hx] at hus
      have c1 := (hbr.cell (p := ⟨b, off + k * 2, none⟩) hb).trans hck.1
      have c2 := (hbr.cell (p := ⟨b, off + k * 2 + 1, none⟩) hb).trans hck.2
      have ek : (k : Int) < 64 := by omega
      have hps := preB_set (usedJ O) k
      rw [hus] at hps
      have HRL := HROW.out.lt
      clear hx hy hck hus
      by_cases h0 : x = 0
      · subst h0
        obtain rfl := frm_zero hfk
        have HPS := Lib.hid hps
        have HSET := Lib.hid (bSet_nat (HROW.out.below (below_box wr (.cells #[.int .u16 0, .int .u16 0] 32)) HRL.1 HRL.2) k (by rw [preB_length]; exact hlt) false)
        clear hfk hps
        go_wp2_with (go_at_call 78; refine HSET.out.mono ?_; rintro e w4 ⟨rfl, hrow4, hw4⟩)
        go_roundw
        case rel => exact ⟨k + 1, by omega, by go_num, by show BRow _ _ _ (preB (usedJ O) (k + 1)); rw [← HPS.out]; exact hrow4, by show w4.heap[w.heap.size]? = _; rw [hw4.2.2.2.2 _ (by omega)]; exact below_hold HRC.out (below_box _ _), (hbr.trans ((below_box _ _).mono hbr.size)).trans (hw4.below (by omega))⟩
        case measure => simp [intOf]; omega
      · have hx0 : (x == 0) = false := by simpa using h0
        rw [decide_eq_true h0] at hps
        have HPS := Lib.hid hps
        have HSET := Lib.hid (bSet_nat (HROW.out.below (below_box wr (.cells #[.int .u16 x, .int .u16 y] 32)) HRL.1 HRL.2) k (by rw [preB_length]; exact hlt) true)
        clear hfk hps h0
        go_wp2_with (go_at_call 78; refine HSET.out.mono ?_; rintro e w4 ⟨rfl, hrow4, hw4⟩)
        go_roundw
        case rel => exact ⟨k + 1, by omega, by go_num, by show BRow _ _ _ (preB (usedJ O) (k + 1)); rw [← HPS.out]; exact hrow4, by show w4.heap[w.heap.size]? = _; rw [hw4.2.2.2.2 _ (by omega)]; exact below_hold HRC.out (below_box _ _), (hbr.trans ((below_box _ _).mono hbr.size)).trans (hw4.below (by omega))⟩
        case measure => simp [intOf]; omega
    · obtain rfl : k = 64 := by omega
      have hrc := HRC.out
      have HRL := HROW.out.lt
      go_wp2_with (with_reducible refine wpList_store2 rfl 153 sizeD (.tmp 4) (.tmp 35) rfl w.heap.size rfl _ _ _ _ rfl rfl rfl _ hrc ?_; intro w5 hw5 hr5)
      refine bodyPost_ret (ret_cell2 rfl Tryz.underlying153 sizeD _ _ w.heap.size _ _ _ _ rfl hr5 rfl) rfl ⟨p, r, rfl, ?_, hbr.trans (hw5.below (Nat.le_refl _))⟩
      have hrow := HROW.out
      rw [preB_full] at hrow
      exact hrow.of_heap (hw5.2.2.2.2 _ (by omega)) (hw5.2.2.2.2 _ (by omega))
theorem grOf_any {w : World} {v : Value} {O : List (Int × Int)} (hs : OwSl w v O) (g : Int) : Calls Tryz.prog 107 #[.int .i64 g, v] w (OfOut g O w) := by
  by_cases h : (0 ≤ g ∧ g < 12) ∧ allO O = true
  · exact (grOf_good hs g h.1.1 h.1.2 h.2).mono fun e w' he => .inl ⟨h, he⟩
  · exact (grOf_bad hs g h).mono fun e w' he => .inr ⟨h, he⟩
end Go.Proofs.YtkbeencjklgcnaaGreat

/- Contracts of the reference's rows (layer 1): New, Get, Set, Count, Run, First. -/
namespace Go.Proofs.YtkbeencjklgcnaaGreat
set_option maxRecDepth 100000
open Go.RowKit BM

theorem infoBool1 : (Tryz.prog.info? 4).map (fun i => (i.zero, i.size, i.bytes)) = some (some (.bool false), 1, 1) := by kernel_rfl

/-- At block p of the world lies the reference's Row, its bools at block g. -/
def RRow (w : World) (p g : Nat) (L : List Bool) : Prop :=
  L.length ≤ 4096 ∧ w.heap[p]? = some (.cells #[.slice (some ⟨g, 0, none⟩) L.length L.length] 130 (0, 0)) ∧ w.heap[g]? = some (.cells (L.map Value.bool).toArray 4 (0, 0))
theorem RRow.drewN {w : World} {p g : Nat} {L : List Bool} (h : RRow w p g L) (n : Nat) : RRow (w.drewN n) p g L := h
theorem RRow.of_heap {w w' : World} {p g : Nat} {L : List Bool} (h : RRow w p g L) (hp : w'.heap[p]? = w.heap[p]?) (hg : w'.heap[g]? = w.heap[g]?) : RRow w' p g L :=
  ⟨h.1, by rw [hp, h.2.1], by rw [hg, h.2.2]⟩
theorem RRow.lt {w : World} {p g : Nat} {L : List Bool} (h : RRow w p g L) : p < w.heap.size ∧ g < w.heap.size :=
  ⟨(Array.getElem?_eq_some_iff.1 h.2.1).1, (Array.getElem?_eq_some_iff.1 h.2.2).1⟩
theorem RRow.ne {w : World} {p g : Nat} {L : List Bool} (h : RRow w p g L) : p ≠ g := fun e => by
  have h1 := h.2.1; have h2 := h.2.2
  rw [e, h2] at h1; simp at h1
theorem RRow.below {w w' : World} {p g B : Nat} {L : List Bool} (h : RRow w p g L) (hb : Below B w w') (h1 : p < B) (h2 : g < B) : RRow w' p g L :=
  h.of_heap (hb.block p h1) (hb.block g h2)
theorem RRow.cells {w : World} {p g : Nat} {L : List Bool} (h : RRow w p g L) : w.cell? ⟨p, 0, none⟩ = some (.slice (some ⟨g, 0, none⟩) L.length L.length) ∧
    (∀ j, j < L.length → w.cell? ⟨g, j, none⟩ = some (.bool (L.getD j false))) ∧ (∀ j, w.frozen? ⟨g, j, none⟩ = false) := by
  refine ⟨by rw [cell_of_row _ _ _ _ _ _ h.2.1]; rfl, fun j hj => ?_, fun j => frozen_of_row _ _ _ _ _ h.2.2⟩
  rw [cell_of_row _ _ _ _ _ _ h.2.2]
  simp [List.getD_eq_getElem?_getD, hj]

theorem wpList_make_bool (w : World) {ops : Array Oper} {rest : List Oper} {o : Oper} {a : Act} {Q : Exit → Act → World → Prop}
    (hg : o.guard = none) (l c : Operand) (hop : o.op = Op.makeSlice 90 l c) (C : Int) (n : Nat) (hl : a.eval l = .int .i64 C) (hc : a.eval c = .int .i64 C) (hC : C = n) (hn : n ≤ 1000000000)
    (hK : wpList Tryz.prog ops Q rest (a.put o.dst (.slice (some ⟨w.heap.size, 0, none⟩) n n)) (w.alloc (.cells (Array.replicate n (.bool false)) 4))) :
    wpList Tryz.prog ops Q (o :: rest) a w := by
  refine wpList_plain hg fun K hK' => ?_
  obtain ⟨i, h2, h3, h4, h5⟩ := info_parts infoBool1
  subst hC
  have hrun := run_make (P := Tryz.prog) w 90 4 i (.bool false) Tryz.underlying90 h2 h3 .i64 .i64 n n (by omega) (by omega) (by rw [h5]; omega) (by omega)
  unfold Oper.wp
  simp only [Int.toNat_natCast, h4, Nat.mul_one] at hrun
  have e : madeCells (Value.bool false).cells n = Array.replicate n (.bool false) := by
    apply Array.ext'
    rw [show (Value.bool false).cells = #[Value.bool false] from rfl, toList_madeCells_one]
    simp
  rw [e] at hrun
  simp [execOp, hop, hl, hc, hrun, Result.andThen]
  exact hK' _ _ hK

theorem rCount_any {w : World} {p g : Nat} {L : List Bool} (h : RRow w p g L) :
    Calls Tryz.prog 87 #[.pointer (some ⟨p, 0, none⟩)] w fun e w' => e = .returned (.int .i64 (countB L)) ∧ w = w' := by
  have hn := h.1
  obtain ⟨hs, hx, hf⟩ := h.cells
  have HX := Lib.hid hx
  clear hf hx
  go_enter Tryz.func87, Tryz.ntmps87
  go_wp2_with fail
  go_loop [3, 10] (fun c i => ∃ k : Nat, k ≤ L.length ∧ i = .int .i64 k ∧ c = .int .i64 (countB (L.take k))) (fun _ i => L.length - (intOf i).toNat)
  case atStart => exact ⟨0, by omega, rfl, rfl⟩
  case round =>
    obtain ⟨k, hk, rfl, rfl⟩ := hrel
    have hle := countB_take_le L k
    obtain ⟨C, hC⟩ : ∃ C, C = countB (L.take k) := ⟨_, rfl⟩
    rw [← hC] at hle ⊢
    by_cases hlt : k < L.length
    · have hstep := countB_take hlt
      have hc := HX.out k hlt
      cases hb : L.getD k false
      · rw [hb, if_neg (by decide), ← hC] at hstep
        rw [hb] at hc
        have HS := Lib.hid hstep
        clear hb hstep hC
        go_wp2_with fail
        go_round
        case rel => exact ⟨k + 1, by omega, by go_num, by rw [HS.out]; go_num⟩
        case measure => simp [intOf]; omega
      · rw [hb, if_pos rfl, ← hC] at hstep
        rw [hb] at hc
        have HS := Lib.hid hstep
        clear hb hstep hC
        go_wp2_with fail
        go_round
        case rel => exact ⟨k + 1, by omega, by go_num, by rw [HS.out]; go_num⟩
        case measure => simp [intOf]; omega
    · have HC := Lib.hid hC
      clear hC
      go_wp2_with fail
      go_ret
      exact ⟨ret_int (by rw [HC.out, List.take_of_length_le (by omega)]), rfl⟩

end Go.Proofs.YtkbeencjklgcnaaGreat
