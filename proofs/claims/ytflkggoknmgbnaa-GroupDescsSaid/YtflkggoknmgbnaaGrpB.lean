/- Contracts of package group: Page, Fresh. -/
import Derived.Test.YtflkggoknmgbnaaGrpA
import Derived.Test.YtflkggoknmgbnaaPackD
namespace Go.Proofs.Ytflkggoknmgbnaa
open Go.RowKit BM
set_option linter.unusedVariables false

theorem bsl_nil (w : World) : BSl w (.slice none 0 0) [] := ⟨byt_nil, .inl ⟨rfl, rfl⟩⟩
theorem pPut_nil (x : Int) (h0 : 0 ≤ x) (h1 : x ≤ 65535) (w : World) : Calls Try.prog 26 #[.slice none 0 0, .int .u64 x, .int .i64 2] w (NewB w (lowB x 2)) :=
  pPut_at (bsl_nil w) (by simp) x 2 2 (by omega) (by omega) rfl h0 (by omega)
theorem pageK_succ' (O : List (Int × Int)) (k : Nat) (x y : Int) (hx : x = (O.getD k (0, 0)).1) (hy : y = (O.getD k (0, 0)).2) : pageK O (k + 1) = pageK O k ++ lowB x 2 ++ lowB y 2 := by
  rw [hx, hy]; rfl
/-- A block of one's own, under another that was made since, is what append may turn. -/
theorem grown_cell {w w' : World} {row : Option Nat} (h : w.grownBy w' row) (b o : Nat) (hb : b < w.heap.size) (hne : ∀ k, row = some k → k ≠ b) : w'.cell? ⟨b, o, none⟩ = w.cell? ⟨b, o, none⟩ := by
  apply World.cell?_of_block
  exact h.block b hb (fun e => hne b e.symm rfl)

/-- What Page hands back. -/
def PageOut (O : List (Int × Int)) (w : World) (e : Ending) (w' : World) : Prop :=
  (allO O = true ∧ ∃ v, e = .returned (.tuple #[v, .int .i64 0]) ∧ OB w' w.heap.size v (pageS O) ∧ Below w.heap.size w w') ∨
  (allO O = false ∧ e = .returned (.tuple #[.slice none 0 0, .int .i64 1]) ∧ Below w.heap.size w w')

theorem grAll_is {w : World} {v : Value} {O : List (Int × Int)} (hs : OwSl w v O) (B : Bool) (h : allO O = B) : Calls Try.prog 43 #[v] w fun e w' => e = .returned (.bool B) ∧ Below w.heap.size w w' := by
  rw [← h]; exact grAll_any hs
theorem grPage_no {w : World} {v : Value} {O : List (Int × Int)} (hs : OwSl w v O) (h : allO O = false) : Calls Try.prog 13 #[v] w fun e w' => e = .returned (.tuple #[.slice none 0 0, .int .i64 1]) ∧ Below w.heap.size w w' := by
  have HA := Lib.hid (grAll_is hs false h)
  clear hs h
  go_enter Try.func13, Try.ntmps13
  go_wp2_with (go_at_call 43; refine HA.out.mono ?_; rintro e w2 ⟨rfl, hb2⟩)
  go_ret2
  exact ⟨rfl, hb2⟩
theorem allO_len {O : List (Int × Int)} (h : allO O = true) : O.length = 64 := by
  unfold allO at h
  rw [Bool.and_eq_true] at h
  exact of_decide_eq_true h.1
theorem ob_make (w : World) (M : Nat) (hM : M ≤ 1000) : OB (w.alloc (.cells (Array.replicate M (.int .u8 0)) 5)) w.heap.size (.slice (some ⟨w.heap.size, 0, none⟩) 0 M) [] := by
  have h := OB.of_heap (w := w.alloc (.cells (Array.replicate M (.int .u8 0)) 5)) (B := w.heap.size) (g := w.heap.size) (cap := M) (l := []) (rest := List.replicate M (.int .u8 0)) byt_nil (Nat.le_refl _) (by rw [heap_alloc_new]; simp) (by simp) (by unfold maxLen; omega)
  exact h
set_option maxHeartbeats 1000000 in
theorem grPage_yes {w : World} {v : Value} {O : List (Int × Int)} (hs : OwSl w v O) (h : allO O = true) : Calls Try.prog 13 #[v] w fun e w' => ∃ v, e = .returned (.tuple #[v, .int .i64 0]) ∧ OB w' w.heap.size v (pageS O) ∧ Below w.heap.size w w' := by
  have hO := allO_len h
  have HA := Lib.hid (grAll_is hs true h)
  obtain ⟨b, off, cap, rfl, hb, hc⟩ := hs.at (by omega)
  obtain ⟨M, hMM⟩ : ∃ M : Nat, M = 256 := ⟨_, rfl⟩
  have hMI : (256 : Int) = (M : Int) := by omega
  have HBB := Lib.hid hs.1
  have HC := Lib.hid hc
  have HO := Lib.hid hO
  have HMI := Lib.hid hMI
  have hM1 : M ≤ 1000 := by omega
  have hpo : pageS O = pageK O 64 := by unfold pageS; rw [hO]
  have HPO := Lib.hid hpo
  rw [hO] at HA ⊢
  clear hs h hc hO hMM hMI hpo
  go_enter Try.func13, Try.ntmps13
  go_wp2_with (first
    | (go_at_call 43; refine HA.out.mono ?_; rintro e w2 ⟨rfl, hb2⟩)
    | (at_make; refine wpList_make_u8c _ rfl _ _ rfl 0 256 0 M rfl rfl rfl HMI.out (Nat.zero_le _) (by omega) ?_))
  have hob3 := ob_make w2 M hM1
  have hb3 : Below w2.heap.size w2 (w2.alloc (.cells (Array.replicate M (.int .u8 0)) 5)) := below_box _ _
  generalize w2.alloc (.cells (Array.replicate M (.int .u8 0)) 5) = w3 at hob3 hb3 ⊢
  have hbw3 : Below w.heap.size w w3 := hb2.trans (hb3.mono hb2.size)
  have hob3' := hob3.more (B' := w.heap.size) hb2.size
  have HOB3 := Lib.hid hob3'
  clear hob3 hob3' hb3
  go_loopw [4, 13] (fun u i wr => ∃ k : Nat, k ≤ 64 ∧ i = .int .i64 k ∧ Hid (OB wr w.heap.size u (pageK O k)) ∧ Below w.heap.size w wr) (fun _ i _ => 64 - (intOf i).toNat)
  case atStart => exact ⟨0, by omega, rfl, HOB3, hbw3⟩
  case round =>
    obtain ⟨k, hk, rfl, HOB, hbr⟩ := hrel
    clear HOB3 hbw3
    by_cases hlt : k < 64
    · have hck := HC.out k (by rw [HO.out]; exact hlt)
      have hbd := HBB.out k
      obtain ⟨x, hx⟩ : ∃ x, x = (O.getD k (0, 0)).1 := ⟨_, rfl⟩
      obtain ⟨y, hy⟩ : ∃ y, y = (O.getD k (0, 0)).2 := ⟨_, rfl⟩
      rw [← hx, ← hy] at hck hbd
      have c1 := (hbr.cell (p := ⟨b, off + k * 2, none⟩) hb).trans hck.1
      have c2 := (hbr.cell (p := ⟨b, off + k * 2 + 1, none⟩) hb).trans hck.2
      have ek : (k : Int) < 64 := by omega
      have HPK := Lib.hid (pageK_succ' O k x y hx hy)
      have HL := Lib.hid (pageK_length O k)
      clear hx hy hck
      go_wp2_with fail
      have hbx := below_box wr (.cells #[.int .u16 x, .int .u16 y] 49)
      have hhx := heap_alloc_new wr (.cells #[.int .u16 x, .int .u16 y] 49)
      generalize wr.alloc (.cells #[.int .u16 x, .int .u16 y] 49) = W1 at hbx hhx ⊢
      obtain ⟨g, hg⟩ : ∃ g, g = wr.heap.size := ⟨_, rfl⟩
      rw [← hg] at hhx ⊢
      have d1 : W1.cell? ⟨g, 0, none⟩ = some (.int .u16 x) := by rw [cell_of_row _ _ _ _ _ _ hhx]; rfl
      have d2 : W1.cell? ⟨g, 1, none⟩ = some (.int .u16 y) := by rw [cell_of_row _ _ _ _ _ _ hhx]; rfl
      have hgl : g < W1.heap.size := (Array.getElem?_eq_some_iff.1 hhx).1
      have hune := fun k hk => (HOB.out.2.lt k hk).2
      have HG := Lib.hid hg
      have HU := Lib.hid hune
      have HB1 := Lib.hid (hbr.trans (hbx.mono hbr.size))
      have HOB1 := Lib.hid (HOB.out.below hbx)
      clear hg hune hbx hhx
      go_wp2_with (first
        | (go_at_call 26; (with_reducible refine (pPut_nil x hbd.1.1 hbd.1.2 _).mono ?_); rintro e w4 ⟨v4, rfl, hob4, hb4⟩
           have e2 : w4.cell? ⟨g, 1, none⟩ = some (.int .u16 y) := (hb4.cell (p := ⟨g, 1, none⟩) hgl).trans d2
           have hg4 : g < w4.heap.size := Nat.lt_of_lt_of_le hgl hb4.size
           have HB4 := Lib.hid (HB1.out.trans (hb4.mono HB1.out.size)))
        | (at_builtin
           refine wpList_append_bytes w4 rfl (.tmp 17) (.tmp 21) rfl w.heap.size _ (pageK O k) rfl (HOB1.out.below hb4) w4 v4 (lowB x 2) rfl hob4.bsl (fun _ _ => rfl) (by rw [HL.out, lowB_length]; omega) HB4.out.size ?_
           intro v5 w5 hob5 hb5 hg5
           have f2 : w5.cell? ⟨g, 1, none⟩ = some (.int .u16 y) := (grown_cell hg5 g 1 hg4 (fun k hk e => by have := HU.out k hk; rw [HG.out] at e; omega)).trans e2
           have HB5 := Lib.hid (HB4.out.trans hb5)
           clear hb5 hg5)
        | (go_at_call 26; (with_reducible refine (pPut_nil y hbd.2.1 hbd.2.2 _).mono ?_); rintro e w6 ⟨v6, rfl, hob6, hb6⟩
           have HB6 := Lib.hid (HB5.out.trans (hb6.mono HB5.out.size)))
        | (at_builtin
           refine wpList_append_bytes w6 rfl (.tmp 23) (.tmp 27) rfl w.heap.size _ (pageK O k ++ lowB x 2) rfl (hob5.below hb6) w6 v6 (lowB y 2) rfl hob6.bsl (fun _ _ => rfl) (by rw [List.length_append, HL.out, lowB_length, lowB_length]; omega) HB6.out.size ?_
           intro v7 w7 hob7 hb7 _
           have HB7 := Lib.hid (HB6.out.trans hb7)
           clear hb7))
      go_roundw
      case rel => exact ⟨k + 1, by omega, by go_num, by show OB _ _ _ (pageK O (k + 1)); rw [HPK.out]; exact hob7, HB7.out⟩
      case measure => simp [intOf]; omega
    · obtain rfl : k = 64 := by omega
      go_wp2
      go_ret2
      exact ⟨_, rfl, by rw [HPO.out]; exact HOB.out, hbr⟩

/-- A list of 64 owners of which the first k are laid. -/
def pref (f : Nat → Int × Int) (k : Nat) : List (Int × Int) := (List.range 64).map fun i => if i < k then f i else (0, 0)
theorem pref_length (f : Nat → Int × Int) (k : Nat) : (pref f k).length = 64 := by simp [pref]
theorem pref_set (f : Nat → Int × Int) (k : Nat) : (pref f k).set k (f k) = pref f (k + 1) := by
  apply List.ext_getElem (by simp [pref])
  intro i h1 h2
  simp only [pref, List.getElem_set, List.getElem_map, List.getElem_range]
  by_cases e : k = i
  · subst e; rw [if_pos rfl, if_pos (by omega)]
  · rw [if_neg e]
    by_cases h : i < k
    · rw [if_pos h, if_pos (by omega)]
    · rw [if_neg h, if_neg (by omega)]
theorem pref_same (f : Nat → Int × Int) (k : Nat) (h : f k = (0, 0)) : pref f k = pref f (k + 1) := by
  apply List.ext_getElem (by simp [pref])
  intro i h1 h2
  simp only [pref, List.getElem_map, List.getElem_range]
  by_cases e : k = i
  · subst e; rw [if_neg (by omega), if_pos (by omega), h]
  · by_cases h : i < k
    · rw [if_pos h, if_pos (by omega)]
    · rw [if_neg h, if_neg (by omega)]
theorem pref_zero (f : Nat → Int × Int) : pref f 0 = List.replicate 64 (0, 0) := by
  rw [List.eq_replicate_iff]
  refine ⟨pref_length f 0, fun b hb => ?_⟩
  obtain ⟨i, _, rfl⟩ := List.mem_map.1 hb
  rw [if_neg (by omega)]
theorem pref_full (f : Nat → Int × Int) : pref f 64 = (List.range 64).map f := by
  unfold pref
  apply List.map_congr_left
  intro i hi
  rw [if_pos (List.mem_range.1 hi)]

theorem grFresh_no (g : Int) (h : ¬ (0 ≤ g ∧ g < 12)) (w : World) : Calls Try.prog 22 #[.int .i64 g] w fun e w' => e = .returned (.slice none 0 0) ∧ w = w' := by
  go_enter Try.func22, Try.ntmps22
  go_wp2_with (go_at_call 24; refine (grPoss_no g h _).mono ?_; rintro e w2 ⟨rfl, rfl⟩)
  go_ret
  exact ⟨rfl, rfl⟩
theorem grFresh_yes (g : Int) (h1 : 0 ≤ g) (h2 : g < 12) (w : World) : Calls Try.prog 22 #[.int .i64 g] w fun e w' => ∃ v, e = .returned v ∧ OwR w' w.heap.size v (freshK g 64) ∧ Below w.heap.size w w' := by
  obtain ⟨M, hMM⟩ : ∃ M : Nat, M = 64 := ⟨_, rfl⟩
  have HMI : Hid ((64 : Int) = (M : Int)) := Lib.hid (by omega)
  have hM1 : M ≤ 1000 := by omega
  have HM := Lib.hid hMM
  clear hMM
  go_enter Try.func22, Try.ntmps22
  go_wp2_with (first
    | (go_at_call 24; refine (grPoss_yes g h1 h2 _).mono ?_; rintro e w2 ⟨rfl, rfl⟩)
    | (at_make; refine wpList_make_ow _ rfl _ _ rfl _ M rfl rfl HMI.out (by omega) ?_))
  have hz : (w.alloc (.cells (ownC (List.replicate M (0, 0))).toArray 49)).heap[w.heap.size]? = some (.cells (ownC (pref (freshJ g) 0)).toArray 49 (0, 0)) := by
    rw [pref_zero, ← HM.out]; exact heap_alloc_new w _
  have hb2 : Below w.heap.size w (w.alloc (.cells (ownC (List.replicate M (0, 0))).toArray 49)) := below_box _ _
  generalize w.alloc (.cells (ownC (List.replicate M (0, 0))).toArray 49) = w2 at hz hb2 ⊢
  have HZ := Lib.hid hz
  clear hz
  go_loopw [11] (fun i wr => ∃ k : Nat, k ≤ 64 ∧ i = .int .i64 k ∧ Hid (wr.heap[w.heap.size]? = some (.cells (ownC (pref (freshJ g) k)).toArray 49 (0, 0))) ∧ Below w.heap.size w wr) (fun i _ => 64 - (intOf i).toNat)
  case atStart => exact ⟨0, by omega, rfl, HZ, hb2⟩
  case round =>
    obtain ⟨k, hk, rfl, HR, hbr⟩ := hrel
    clear HZ hb2
    by_cases hlt : k < 64
    · have ekM : (k : Int) < (M : Int) := by have := HMI.out; omega
      have ekN : k < M := by have := HM.out; omega
      have e0 : g * 64 + (k : Int) = 64 * g + (k : Int) := by omega
      cases hf : fixB (g * 64 + (k : Int))
      · have HF := Lib.hid hf
        have hj : freshJ g k = (0, 0) := by unfold freshJ; rw [← e0, hf]; rfl
        have HP := Lib.hid (pref_same _ _ hj)
        clear hf hj e0
        go_wp2_with (go_at_call 44; refine (gFixed_is _ (by omega) _ HF.out _).mono ?_; rintro e w3 ⟨rfl, rfl⟩)
        go_roundw
        case rel => exact ⟨k + 1, by omega, by go_num, by rw [← HP.out]; exact HR, hbr⟩
        case measure => simp [intOf]; omega
      · have HF := Lib.hid hf
        have hj : freshJ g k = (65535, 0) := by unfold freshJ; rw [← e0, hf]; rfl
        have HP := Lib.hid (pref_set (freshJ g) k)
        have HJ := Lib.hid hj
        clear hf hj e0
        go_wp2_with (first
          | (go_at_call 44; refine (gFixed_is _ (by omega) _ HF.out _).mono ?_; rintro e w3 ⟨rfl, rfl⟩)
          | (with_reducible refine wpList_store_ow rfl (.tmp 22) (.tmp 21) rfl w.heap.size k (pref (freshJ g) k) 65535 0 rfl rfl HR.out (by rw [pref_length]; exact hlt) ?_; intro w4 hw4 hr4
             rw [← HJ.out, HP.out] at hr4))
        go_roundw
        case rel => exact ⟨k + 1, by omega, by go_num, hr4, hbr.trans (hw4.below (Nat.le_refl _))⟩
        case measure => simp [intOf]; omega
    · obtain rfl : k = 64 := by omega
      have hkM : ¬ (64 : Nat) < M := by have := HM.out; omega
      go_wp2
      go_ret
      refine ⟨_, rfl, ?_, hbr⟩
      have hr := HR.out
      rw [pref_full] at hr
      have := OwR.of_row (B := w.heap.size) (owB_fresh g 64) (Nat.le_refl _) hr (by rw [freshK_length]; decide)
      rw [freshK_length] at this
      have e := HM.out
      subst e
      exact this

end Go.Proofs.Ytflkggoknmgbnaa
