/- What the law rests on: part 28. -/
import Derived.Test.YtekeoljfdnfbgaaGreatPu27
set_option linter.unusedVariables false
namespace Go.Proofs.YtekeoljfdnfbgaaGreat
set_option maxRecDepth 100000
open Go.RowKit
def FillN (N : List (List Int)) (f : Nat) : Prop := (2 ≤ f ∧ f ≤ 48) ∧ (∀ m, 1 ≤ m → m < f → kindN N m ≠ 0) ∧ ∀ m, f ≤ m → m < 48 → kindN N m = 0
theorem fill_new : FillN newN 2 := by
  refine ⟨by decide, fun m h1 h2 => ?_, fun m h1 h2 => (by decide : ∀ m, m < 48 → 2 ≤ m → kindN newN m = 0) m h2 h1⟩
  obtain rfl : m = 1 := by omega
  decide
theorem kind_set {N : List (List Int)} (h : N.length = 48) {f : Nat} (hf : f < 48) (k : Int) (m : Nat) : kindN (N.set f (kindI k)) m = if m = f then k else kindN N m := by
  unfold kindN
  by_cases e : m = f
  · rw [if_pos e, e, List.getD_eq_getElem?_getD (l := N.set f (kindI k)), List.getElem?_set_self (by omega)]; rfl
  · rw [if_neg e, getD_other _ _ _ e]
theorem FillN.make {N : List (List Int)} {f : Nat} (h : FillN N f) (hl : N.length = 48) (hf : f < 48) {k : Int} (hk : 1 ≤ k ∧ k ≤ 3) : makeS N k f 0 (N.set f (kindI k)) ∧ FillN (N.set f (kindI k)) (f + 1) := by
  obtain ⟨⟨h1, h2⟩, h3, h4⟩ := h
  refine ⟨.inr (.inr ⟨hk, f, ⟨by omega, hf, h4 f (Nat.le_refl _) hf, h3⟩, rfl, rfl, rfl⟩), ⟨by omega, by omega⟩, fun m a b => ?_, fun m a b => ?_⟩
  · rw [kind_set hl hf]; split
    · omega
    · exact h3 m a (by omega)
  · rw [kind_set hl hf, if_neg (by omega)]; exact h4 m (by omega) b
theorem FillN.full {N : List (List Int)} (h : FillN N 48) {k : Int} (hk : 1 ≤ k ∧ k ≤ 3) : makeS N k 0 13 N := .inr (.inl ⟨hk, h.2.1, rfl, rfl, rfl⟩)
theorem lTabM_long {w : World} {v : Value} {K : List Int} (hv : ISl w v K) (hl : 100 < K.length) : Calls Tryz.prog 5 #[v] w fun e w' => e = .returned (.bool true) ∧ Below w.heap.size w w' := by
  have KA1 := Lib.hid (awake13_any w)
  have KA := Lib.hid awake13_any
  obtain ⟨ao, cap, rfl, _⟩ := hv.open'
  have hL2 : (100 : Int) < (K.length : Int) := by omega
  clear hv hl
  go_enter Tryz.func5, Tryz.ntmps5
  go_wp2_with (first
    | (go_at_call 6; (with_reducible refine KA1.out.mono ?_); rintro e w2 ⟨rfl, hb2⟩)
    | (go_at_call 6; refine (KA.out _).mono ?_; rintro e w3 ⟨rfl, hb3⟩))
  go_ret
  exact ⟨rfl, hb2.trans (hb3.mono hb2.size)⟩
set_option maxHeartbeats 2000000 in
theorem lTabM_short {w : World} {v : Value} {K : List Int} (hv : ISl w v K) (hl : K.length ≤ 100) : Calls Tryz.prog 5 #[v] w fun e w' => e = .returned (.bool true) ∧ Below w.heap.size w w' := by
  have KA1 := Lib.hid (awake13_any w)
  have KS : Hid (∀ W : World, Below w.heap.size w W → Calls Tryz.prog 8 #[.int .i64 64, .int .i64 64] W fun e w' => ∃ b, e = .returned (.pointer (some ⟨b, 0, none⟩)) ∧ Below w.heap.size w w' ∧
    Calls Tryz.prog 7 #[.pointer (some ⟨b, 0, none⟩)] w' fun e w'' => ∃ bf P d X, e = .returned (.pointer (some ⟨bf, 0, none⟩)) ∧ Tsd w w'' P d (.pointer (some ⟨b, 0, none⟩)) X (newS 1) newN (newO 1) 1 bf ∧ bf < w''.heap.size) := Lib.hid fun W hb => start13 (kk := 1) (by decide) (by decide) w hb
  obtain ⟨ao, cap, rfl, hcell⟩ := hv.open'
  obtain ⟨L, hL⟩ : ∃ L, L = K.length := ⟨_, rfl⟩
  rw [← hL] at hcell hl ⊢
  have hL2 : ¬ (100 : Int) < (L : Int) := by omega
  have HC := Lib.hid hcell
  clear hv hl hL hcell
  go_enter Tryz.func5, Tryz.ntmps5
  go_wp2_with (first
    | (go_at_call 6; refine KA1.out.mono ?_; rintro e w2 ⟨rfl, hb2⟩)
    | (go_at_call 8; refine (KS.out _ hb2).mono ?_; rintro e w4 ⟨b, rfl, hb4, KN⟩)
    | (go_at_call 7; refine KN.mono ?_; rintro e w5 ⟨bf, P5, d5, X5, rfl, hsd, _⟩))
  have HS0 : Hid (∃ P d X N, Tsd w w5 P d (.pointer (some ⟨b, 0, none⟩)) X (newS 1) N (newO 1) 1 bf ∧ FillN N 2) := Lib.hid ⟨P5, d5, X5, _, hsd, fill_new⟩
  clear hsd hb2 hb4 KN
  go_loopw [4, 22] (fun want t WI => ∃ c f : Nat, c ≤ L ∧ t = .int .i64 c ∧ want = .int .i64 f ∧ Hid (∃ P d X N, Tsd w WI P d (.pointer (some ⟨b, 0, none⟩)) X (newS 1) N (newO 1) 1 bf ∧ FillN N f)) (fun _ t _ => L - (intOf t).toNat)
  case atStart => exact ⟨0, 2, by omega, rfl, rfl, HS0⟩
  case round =>
    obtain ⟨c, f, hc, rfl, rfl, HS⟩ := hrel
    clear HS0
    by_cases hcl : c < L
    · obtain ⟨P, d, X, N, hsd, hfi⟩ := HS.out
      obtain ⟨bs, off, rfl, hbl, hcells⟩ := HC.out (by omega)
      obtain ⟨k, hk⟩ : ∃ k, k = K.getD c 0 := ⟨_, rfl⟩
      have ecl : (c : Int) < (L : Int) := by omega
      have HZ : Hid (∀ W, Below w.heap.size w W → W.cell? ⟨bs, off + c, none⟩ = some (.int .i64 k)) := Lib.hid fun W hb => by
        rw [hb.cell (p := ⟨bs, off + c, none⟩) hbl, hk]; exact hcells c hcl
      have cf0 := hsd.fs.cell
      have KB := Lib.hid hsd.begin
      have HFI := Lib.hid hfi
      have HLN := Lib.hid hsd.tab.n.len
      clear hcells hsd hfi hk HS hbl
      by_cases hbad : k < 1 ∨ 3 < k
      · have KM := Lib.hid (fun (W : World) (P' : Nat → Prop) (hm : Tmd w W P' d (.pointer (some ⟨b, 0, none⟩)) (callX X) (newS 1) (newS 1) N N (newO 1) (newO 1) 1 bf) => make13 hm (k := k) (.inl ⟨hbad, rfl, rfl, rfl⟩))
        have HU : Hid (∀ (W : World) (P' : Nat → Prop) (X' : XSt), Tmd w W P' d (.pointer (some ⟨b, 0, none⟩)) X' (newS 1) (newS 1) N N (newO 1) (newO 1) 1 bf → Calls Tryz.prog 20 #[.pointer (some ⟨b, 0, none⟩), .bool false] W fun e w' => e = .returned (.int .i64 0) ∧ Hid (∃ P d X N, Tsd w w' P d (.pointer (some ⟨b, 0, none⟩)) X (newS 1) N (newO 1) 1 bf ∧ FillN N f) ∧ Below w.heap.size w w') := Lib.hid fun W P' X' hm => hm.undo.mono fun e w' ⟨he, P2, X2, hs, _⟩ => ⟨he, ⟨P2, d, X2, N, hs, HFI.out⟩, hs.be⟩
        rcases hbad with hb1 | hb3
        all_goals
          go_wp2_with (first
            | (go_at_call 19; refine KB.out.mono ?_; rintro e w6 ⟨rfl, P6, hm6, _⟩; have z6 := HZ.out _ hm6.be; have cf6 := hm6.fs.cell)
            | (go_at_call 14; refine (KM.out _ _ hm6).mono ?_; rintro e w7 ⟨rfl, P7, X7, hm7, _⟩; have cf7 := hm7.fs.cell)
            | (go_at_call 20; refine (HU.out _ _ _ hm7).mono ?_; rintro e w8 ⟨rfl, HS8, hb8⟩; have z8 := HZ.out _ hb8))
          go_roundw
          case rel => exact ⟨c + 1, f, by omega, by go_num, rfl, HS8⟩
          case measure => simp [intOf]; omega
      · have hg : 1 ≤ k ∧ k ≤ 3 := by omega
        have hk1 : ¬ k < 1 := by omega
        have hk3 : ¬ 3 < k := by omega
        by_cases hf : f < 48
        · obtain ⟨hms, hfi2⟩ := HFI.out.make HLN.out hf hg
          have KM := Lib.hid (fun (W : World) (P' : Nat → Prop) (hm : Tmd w W P' d (.pointer (some ⟨b, 0, none⟩)) (callX X) (newS 1) (newS 1) N N (newO 1) (newO 1) 1 bf) => make13 hm (k := k) hms)
          have HU : Hid (∀ (W : World) (P' : Nat → Prop) (X' : XSt), Tmd w W P' d (.pointer (some ⟨b, 0, none⟩)) X' (newS 1) (newS 1) N (N.set f (kindI k)) (newO 1) (newO 1) 1 bf → Calls Tryz.prog 20 #[.pointer (some ⟨b, 0, none⟩), .bool true] W fun e w' => e = .returned (.int .i64 0) ∧ Hid (∃ P d X N, Tsd w w' P d (.pointer (some ⟨b, 0, none⟩)) X (newS 1) N (newO 1) 1 bf ∧ FillN N (f + 1)) ∧ Below w.heap.size w w') := Lib.hid fun W P' X' hm => (hm.keep hm.ok).mono fun e w' ⟨he, P2, X2, hs, _⟩ => ⟨he, ⟨P2, d, X2, _, hs, hfi2⟩, hs.be⟩
          have hf47 : ¬ (47 : Int) < (f : Int) := by omega
          clear hms hfi2 hbad hg
          go_wp2_with (first
            | (go_at_call 19; refine KB.out.mono ?_; rintro e w6 ⟨rfl, P6, hm6, _⟩; have z6 := HZ.out _ hm6.be; have cf6 := hm6.fs.cell)
            | (go_at_call 14; refine (KM.out _ _ hm6).mono ?_; rintro e w7 ⟨rfl, P7, X7, hm7, _⟩; have cf7 := hm7.fs.cell)
            | (go_at_call 20; refine (HU.out _ _ _ hm7).mono ?_; rintro e w8 ⟨rfl, HS8, hb8⟩; have z8 := HZ.out _ hb8))
          go_roundw
          case rel => exact ⟨c + 1, f + 1, by omega, by go_num, by go_num, HS8⟩
          case measure => simp [intOf]; omega
        · obtain rfl : f = 48 := by have := HFI.out.1.2; omega
          have KM := Lib.hid (fun (W : World) (P' : Nat → Prop) (hm : Tmd w W P' d (.pointer (some ⟨b, 0, none⟩)) (callX X) (newS 1) (newS 1) N N (newO 1) (newO 1) 1 bf) => make13 hm (k := k) (HFI.out.full hg))
          have HU : Hid (∀ (W : World) (P' : Nat → Prop) (X' : XSt), Tmd w W P' d (.pointer (some ⟨b, 0, none⟩)) X' (newS 1) (newS 1) N N (newO 1) (newO 1) 1 bf → Calls Tryz.prog 20 #[.pointer (some ⟨b, 0, none⟩), .bool false] W fun e w' => e = .returned (.int .i64 0) ∧ Hid (∃ P d X N, Tsd w w' P d (.pointer (some ⟨b, 0, none⟩)) X (newS 1) N (newO 1) 1 bf ∧ FillN N 48) ∧ Below w.heap.size w w') := Lib.hid fun W P' X' hm => hm.undo.mono fun e w' ⟨he, P2, X2, hs, _⟩ => ⟨he, ⟨P2, d, X2, N, hs, HFI.out⟩, hs.be⟩
          clear hbad hg
          go_wp2_with (first
            | (go_at_call 19; refine KB.out.mono ?_; rintro e w6 ⟨rfl, P6, hm6, _⟩; have z6 := HZ.out _ hm6.be; have cf6 := hm6.fs.cell)
            | (go_at_call 14; refine (KM.out _ _ hm6).mono ?_; rintro e w7 ⟨rfl, P7, X7, hm7, _⟩; have cf7 := hm7.fs.cell)
            | (go_at_call 20; refine (HU.out _ _ _ hm7).mono ?_; rintro e w8 ⟨rfl, HS8, hb8⟩; have z8 := HZ.out _ hb8))
          go_roundw
          case rel => exact ⟨c + 1, 48, by omega, by go_num, rfl, HS8⟩
          case measure => simp [intOf]; omega
    · obtain rfl : c = L := by omega
      obtain ⟨P, d, X, N, hsd, hfi⟩ := HS.out
      have hbe := Lib.hid hsd.be
      clear hsd hfi HS
      go_wp2
      go_ret
      exact ⟨rfl, hbe.out⟩
theorem lTabMakes_of {w : World} {v : Value} {K : List Int} (hv : ISl w v K) : Calls Tryz.prog 5 #[v] w fun e w' => e = .returned (.bool true) ∧ Below w.heap.size w w' := by
  by_cases h : 100 < K.length
  · exact lTabM_long hv h
  · exact lTabM_short hv (by omega)
theorem npUsable (w : World) : Calls Tryz.prog 36 #[.pointer none] w fun e w' => e = .returned (.int .i64 1) ∧ w = w' := by
  go_enter Tryz.func36, Tryz.ntmps36
  go_wp2
  go_ret
  exact ⟨rfl, rfl⟩
theorem npGet (w : World) (n : Int) : Calls Tryz.prog 13 #[.pointer none, .int .i64 n] w fun e w' => e = .returned (.tuple #[.slice none 0 0, .int .i64 1]) ∧ w = w' := by
  go_enter Tryz.func13, Tryz.ntmps13
  go_wp2_with (go_at_call 36; refine (npUsable _).mono ?_; rintro e w' ⟨rfl, rfl⟩)
  go_ret2
  exact ⟨rfl, rfl⟩
theorem npRead (w : World) (g : Int) : Calls Tryz.prog 124 #[.pointer none, .int .i64 g] w fun e w' => e = .returned (.tuple #[.slice none 0 0, .int .i64 1]) ∧ w = w' := by
  go_enter Tryz.func124, Tryz.ntmps124
  go_wp2_with (first
    | (go_at_call 152; refine (gDesc_any g _).mono ?_; rintro e w' ⟨rfl, rfl⟩)
    | (go_at_call 13; refine (npGet _ _).mono ?_; rintro e w' ⟨rfl, rfl⟩))
  go_ret2
  exact ⟨rfl, rfl⟩
theorem npOwner (n : Int) (hn : n ≤ 9223372036854775807) (w : World) : Calls Tryz.prog 100 #[.pointer none, .int .i64 n] w fun e w' => e = .returned (.tuple #[.agg #[.int .u16 0, .int .u16 0], .int .i64 1]) ∧ Below w.heap.size w w' := by
  by_cases hp : 0 ≤ n ∧ n < 768
  · have KP := Lib.hid (spPoss_is n true (decide_eq_true hp))
    have hb1 := below_box w (.cells #[.int .u16 0, .int .u16 0] 38)
    have hr1 := heap_alloc_new w (.cells #[.int .u16 0, .int .u16 0] 38)
    clear hp
    go_enter Tryz.func100, Tryz.ntmps100
    go_wp2_with (first
      | (go_at_call 130; refine (KP.out _).mono ?_; rintro e w' ⟨rfl, rfl⟩)
      | (go_at_call 123; refine (gGroup_any n hn _).mono ?_; rintro e w' ⟨rfl, rfl⟩)
      | (go_at_call 124; refine (npRead _ _).mono ?_; rintro e w' ⟨rfl, rfl⟩)
      | (with_reducible refine wpList_store2 rfl 38 sizeOw (.tmp 4) (.tmp 21) rfl w.heap.size rfl _ _ _ _ rfl rfl rfl _ hr1 ?_; intro w5 hw5 hr5))
    refine bodyPost_ret (ret_cell2 rfl Tryz.underlying38 sizeOw _ _ w.heap.size _ _ _ _ rfl hr5 rfl) rfl ⟨rfl, hb1.trans (hw5.below (Nat.le_refl _))⟩
  · exact spOwner_no n hp _ w
theorem npGive {n : Int} (hm : n ≤ 9223372036854775807) (w : World) : Calls Tryz.prog 50 #[.pointer none, .int .i64 n] w fun e w' => e = .returned (.int .i64 1) ∧ Below w.heap.size w w' := by
  cases ho : openN n
  · exact (spGive_far hm ho _ w).mono fun e w' ⟨h1, h2⟩ => ⟨h1, by rw [← h2]; exact Below.refl _ _⟩
  · have KO := Lib.hid (spOpen_is n hm true ho)
    clear ho
    go_enter Tryz.func50, Tryz.ntmps50
    go_wp2_with (first
      | (go_at_call 99; refine (KO.out _).mono ?_; rintro e w' ⟨rfl, rfl⟩)
      | (go_at_call 100; refine (npOwner n hm _).mono ?_; rintro e w1 ⟨rfl, hb1⟩; have hb2 := below_box w1 (.cells #[.int .u16 0, .int .u16 0] 38)))
    go_ret
    exact ⟨rfl, hb1.trans (hb2.mono hb1.size)⟩
theorem npAllows (w : World) (x : Bool) : Calls Tryz.prog 51 #[.pointer none, .bool x] w fun e w' => e = .returned (.int .i64 1) ∧ w = w' := by
  go_enter Tryz.func51, Tryz.ntmps51
  go_wp2_with (go_at_call 36; refine (npUsable _).mono ?_; rintro e w' ⟨rfl, rfl⟩)
  go_ret
  exact ⟨rfl, rfl⟩
theorem npPut (w : World) (n : Int) (v : Value) : Calls Tryz.prog 47 #[.pointer none, .int .i64 n, v] w fun e w' => e = .returned (.int .i64 1) ∧ w = w' := by
  go_enter Tryz.func47, Tryz.ntmps47
  go_wp2_with (go_at_call 51; refine (npAllows _ _).mono ?_; rintro e w' ⟨rfl, rfl⟩)
  go_ret
  exact ⟨rfl, rfl⟩
theorem nfSuper (W : World) : Calls Tryz.prog 11 #[.pointer none] W fun e w' => e = .returned (.tuple #[.agg #[.int .i64 0, .int .i64 0, .int .i64 0, .int .i64 0, .int .i64 0, .int .i64 0, .int .i64 0, .int .i64 0, .int .i64 0, .int .i64 0, .int .i64 0, .int .i64 0], .int .i64 1]) ∧ Below W.heap.size W w' := by
  have hb1 := below_box W (supO zeroS 49)
  have hr1 := heap_alloc_new W (supO zeroS 49)
  obtain ⟨w1, hw1⟩ : ∃ w1, w1 = W.alloc (supO zeroS 49) := ⟨_, rfl⟩
  rw [← hw1] at hb1 hr1
  have h1 : W.alloc (.cells #[.int .i64 0, .int .i64 0, .int .i64 0, .int .i64 0, .int .i64 0, .int .i64 0, .int .i64 0, .int .i64 0, .int .i64 0, .int .i64 0, .int .i64 0, .int .i64 0] 49) = w1 := by rw [hw1]; rfl
  have H1 := Lib.hid h1
  have HR1 := Lib.hid hr1
  clear h1 hw1 hr1
  go_enter Tryz.func11, Tryz.ntmps11
  go_wp2_with (first
    | (go_at_call 33; rw [H1.out]; refine (fsBlocks_nil _).mono ?_; rintro e w' ⟨rfl, rfl⟩)
    | (go_at_call 13; refine (npGet _ _).mono ?_; rintro e w' ⟨rfl, rfl⟩; have hr2 := HR1.out)
    | (with_reducible refine wpList_storeS rfl (.tmp 2) (.tmp 15) rfl W.heap.size rfl zeroS zeroS rfl rfl rfl _ hr2 ?_; intro w7 hw7 hr7))
  exact bodyPost_ret (ret_sup2 rfl _ _ W.heap.size _ _ _ rfl rfl hr7 rfl) rfl ⟨rfl, hb1.trans (hw7.below (Nat.le_refl _))⟩
theorem nfFind (n : Int) (W : World) : Calls Tryz.prog 35 #[.pointer none, .int .i64 n] W fun e w' => e = .returned (.tuple #[.agg #[.int .i64 0, .slice none 0 0, .int .i64 0], .int .i64 1]) ∧ Below W.heap.size W w' := by
  by_cases hn : n < 1 ∨ 47 < n
  · exact fsFind_no hn _ W
  · have hb1 := below_box W (.cells #[.int .i64 0, .slice none 0 0, .int .i64 0] 90)
    have hr1 := heap_alloc_new W (.cells #[.int .i64 0, .slice none 0 0, .int .i64 0] 90)
    obtain ⟨w1, hw1⟩ : ∃ w1, w1 = W.alloc (.cells #[.int .i64 0, .slice none 0 0, .int .i64 0] 90) := ⟨_, rfl⟩
    rw [← hw1] at hb1 hr1
    have H1 := Lib.hid hw1.symm
    have HR1 : Hid (∀ V, Below w1.heap.size w1 V → V.heap[W.heap.size]? = some (.cells #[.int .i64 0, .slice none 0 0, .int .i64 0] 90 (0, 0))) := Lib.hid fun V hv => below_hold hr1 hv
    have KP := Lib.hid (iPlace_yes n (by omega) (by omega))
    obtain ⟨t, htt⟩ : ∃ t, t = n / 8 := ⟨_, rfl⟩
    rw [← htt] at KP
    have ht0 : ¬ t < 0 := by omega
    clear htt hn hw1 hr1
    go_enter Tryz.func35, Tryz.ntmps35
    go_wp2_with (first
      | (go_at_call 78; rw [H1.out]; refine (KP.out _).mono ?_; rintro e w' ⟨rfl, rfl⟩)
      | (go_at_call 11; refine (nfSuper _).mono ?_; rintro e w2 ⟨rfl, hb2⟩
         have hb3 := hb2.trans ((below_box w2 (.cells #[.int .i64 0, .int .i64 0, .int .i64 0, .int .i64 0, .int .i64 0, .int .i64 0, .int .i64 0, .int .i64 0, .int .i64 0, .int .i64 0, .int .i64 0, .int .i64 0] 49)).mono hb2.size)
         have hr3 := HR1.out _ hb3)
      | (with_reducible refine wpList_store_t3 rfl 90 sizeFo (.tmp 4) (.tmp 26) rfl W.heap.size rfl _ _ _ _ _ _ rfl rfl rfl rfl _ hr3 ?_; intro w9 hw9 hr9))
    refine bodyPost_ret (ret_cell_t3 rfl Tryz.underlying90 sizeFo _ _ W.heap.size _ _ _ _ _ rfl hr9 rfl) rfl ⟨rfl, (hb1.trans (hb3.mono hb1.size)).trans (hw9.below (Nat.le_refl _))⟩
theorem nfGet (n : Int) (W : World) : Calls Tryz.prog 12 #[.pointer none, .int .i64 n] W fun e w' => e = .returned (.tuple #[.agg #[.int .i64 0, .int .i64 0, .int .i64 0, .int .i64 0, .int .i64 0, .int .i64 0, .int .i64 0, .int .i64 0, .int .i64 0, .int .i64 0, .int .i64 0, .int .i64 0, .int .i64 0, .int .i64 0], .int .i64 1]) ∧ Below W.heap.size W w' := by
  have hb1 := below_box W (iO zeroI 53)
  have hr1 := heap_alloc_new W (iO zeroI 53)
  obtain ⟨w1, hw1⟩ : ∃ w1, w1 = W.alloc (iO zeroI 53) := ⟨_, rfl⟩
  rw [← hw1] at hb1 hr1
  have h1 : W.alloc (.cells #[.int .i64 0, .int .i64 0, .int .i64 0, .int .i64 0, .int .i64 0, .int .i64 0, .int .i64 0, .int .i64 0, .int .i64 0, .int .i64 0, .int .i64 0, .int .i64 0, .int .i64 0, .int .i64 0] 53) = w1 := by rw [hw1]; rfl
  have H1 := Lib.hid h1
  have HR1 : Hid (∀ V, Below w1.heap.size w1 V → V.heap[W.heap.size]? = some (iO zeroI 53)) := Lib.hid fun V hv => below_hold hr1 hv
  clear h1 hw1 hr1
  go_enter Tryz.func12, Tryz.ntmps12
  go_wp2_with (first
    | (go_at_call 35; rw [H1.out]; refine (nfFind n _).mono ?_; rintro e w2 ⟨rfl, hb2⟩
       have hb3 := hb2.trans ((below_box w2 (.cells #[.int .i64 0, .slice none 0 0, .int .i64 0] 90)).mono hb2.size)
       have hr3 := HR1.out _ hb3)
    | (with_reducible refine wpList_storeI rfl (.tmp 4) (.tmp 16) rfl W.heap.size rfl zeroI zeroI rfl rfl rfl _ hr3 ?_; intro w9 hw9 hr9))
  refine bodyPost_ret (ret_ino2 rfl _ _ W.heap.size _ _ _ rfl rfl hr9 rfl) rfl ⟨rfl, (hb1.trans (hb3.mono hb1.size)).trans (hw9.below (Nat.le_refl _))⟩
theorem nfPut (n : Int) {x : List Int} (hx : x.length = 14) (W : World) : Calls Tryz.prog 16 #[.pointer none, .int .i64 n, .agg (iC x).toArray] W fun e w' => e = .returned (.int .i64 1) ∧ Below W.heap.size W w' := by
  have hb1 := below_box W (iO x 53)
  have hr1 := heap_alloc_new W (iO x 53)
  obtain ⟨w1, hw1⟩ : ∃ w1, w1 = W.alloc (iO x 53) := ⟨_, rfl⟩
  rw [← hw1] at hb1 hr1
  have h1 : W.alloc (.cells (iC x).toArray 53) = w1 := by rw [hw1]; rfl
  have H1 := Lib.hid h1
  have hrg : w1.rangeAt W.heap.size 0 (iC x) := io_range hr1
  have HX := Lib.hid hx
  have u1 := Tryz.underlying53
  have HRG := Lib.hid hrg
  cases hfx : frmI x
  · exact fsPut_bad hx (.inl hfx) _ W
  · have KF := Lib.hid (iForm_is hx true hfx)
    clear h1 hw1 hr1 hfx hx hrg
    go_enter Tryz.func16, Tryz.ntmps16
    go_upto_region 1 with (fail)
    rw [H1.out]
    have hrg := HRG.out
    go_wp2_with (first
      | (with_reducible refine wpList_load_nums rfl 53 (.tmp 5) rfl W.heap.size 0 rfl x _ hrg u1 rfl (by rw [sizeIn, HX.out]) ?_)
      | (go_at_call 45; refine (KF.out _).mono ?_; rintro e w2 ⟨rfl, hb2⟩)
      | (go_at_call 35; refine (nfFind n _).mono ?_; rintro e w3 ⟨rfl, hb3⟩))
    go_ret
    have hb4 := below_box w3 (.cells #[.int .i64 0, .slice none 0 0, .int .i64 0] 90)
    exact ⟨rfl, ((hb1.trans (hb2.mono hb1.size)).trans (hb3.mono (Nat.le_trans hb1.size hb2.size))).trans (hb4.mono (Nat.le_trans (Nat.le_trans hb1.size hb2.size) hb3.size))⟩
theorem nfFree (W : World) : Calls Tryz.prog 42 #[.pointer none] W fun e w' => e = .returned (.tuple #[.int .i64 0, .int .i64 1]) ∧ Below W.heap.size W w' := by
  go_enter Tryz.func42, Tryz.ntmps42
  go_wp2_with (go_at_call 11; refine (nfSuper _).mono ?_; rintro e w2 ⟨rfl, hb2⟩; have hb3 := hb2.trans ((below_box w2 (.cells #[.int .i64 0, .int .i64 0, .int .i64 0, .int .i64 0, .int .i64 0, .int .i64 0, .int .i64 0, .int .i64 0, .int .i64 0, .int .i64 0, .int .i64 0, .int .i64 0] 49)).mono hb2.size))
  go_ret2
  exact ⟨rfl, hb3⟩
theorem nfMake (k : Int) (W : World) : Calls Tryz.prog 14 #[.pointer none, .int .i64 k] W fun e w' => e = .returned (.tuple #[.int .i64 0, .int .i64 1]) ∧ Below W.heap.size W w' := by
  by_cases hk : 1 ≤ k ∧ k ≤ 3
  · have : k = 1 ∨ k = 2 ∨ k = 3 := by omega
    rcases this with rfl | rfl | rfl
    all_goals
      clear hk
      go_enter Tryz.func14, Tryz.ntmps14
      go_wp2_with (go_at_call 42; refine (nfFree _).mono ?_; rintro e w2 ⟨rfl, hb2⟩)
      go_ret2
      exact ⟨rfl, hb2⟩
  · exact (fsMake_bad (by omega) _ W).mono fun e w' ⟨a, b⟩ => ⟨a, same_low b⟩
theorem nfTake (g i j : Int) (W : World) : Calls Tryz.prog 15 #[.pointer none, .int .i64 g, .agg #[.int .u16 i, .int .u16 j]] W fun e w' => e = .returned (.tuple #[.int .i64 0, .int .i64 1]) ∧ Below W.heap.size W w' := by
  have hb1 := below_box W (.cells #[.int .u16 i, .int .u16 j] 38)
  go_enter Tryz.func15, Tryz.ntmps15
  go_wp2_with (go_at_call 11; refine (nfSuper _).mono ?_; rintro e w2 ⟨rfl, hb2⟩; have hb3 := hb2.trans ((below_box w2 (.cells #[.int .i64 0, .int .i64 0, .int .i64 0, .int .i64 0, .int .i64 0, .int .i64 0, .int .i64 0, .int .i64 0, .int .i64 0, .int .i64 0, .int .i64 0, .int .i64 0] 49)).mono hb2.size))
  go_ret2
  exact ⟨rfl, hb1.trans (hb3.mono hb1.size)⟩
theorem nfGive {n : Int} (hn : n ≤ 9223372036854775807) (W : World) : Calls Tryz.prog 18 #[.pointer none, .int .i64 n] W fun e w' => e = .returned (.int .i64 1) ∧ Below W.heap.size W w' := by
  have KG := Lib.hid (fun W => npGive hn W)
  clear hn
  go_enter Tryz.func18, Tryz.ntmps18
  go_wp2_with (first
    | (go_at_call 33; refine (fsBlocks_nil _).mono ?_; rintro e w' ⟨rfl, rfl⟩)
    | (go_at_call 50; refine (KG.out _).mono ?_; rintro e w2 ⟨rfl, hb2⟩))
  go_ret
  exact ⟨rfl, hb2⟩
theorem nfSetS {L : List Int} (hL : L.length = 12) (hT : Top L) (W : World) : Calls Tryz.prog 17 #[.pointer none, .agg (iC L).toArray] W fun e w' => e = .returned (.int .i64 1) ∧ Below W.heap.size W w' := by
  cases hf : frmS L
  · exact fsSetS_bad hL hT hf _ W
  · have hb1 := below_box W (supO L 49)
    have hr1 := heap_alloc_new W (supO L 49)
    obtain ⟨w1, hw1⟩ : ∃ w1, w1 = W.alloc (supO L 49) := ⟨_, rfl⟩
    rw [← hw1] at hb1 hr1
    have h1 : W.alloc (.cells (iC L).toArray 49) = w1 := by rw [hw1]; rfl
    have H1 := Lib.hid h1
    have HR1 := Lib.hid hr1
    have KE := Lib.hid (sEnc_is hL hT hf)
    clear h1 hw1 hr1 hT hf
    go_enter Tryz.func17, Tryz.ntmps17
    go_upto_region 1 with (fail)
    rw [H1.out]
    have hr2 := HR1.out
    go_wp2_with (first
      | (with_reducible refine wpList_loadS rfl (.tmp 3) rfl W.heap.size rfl L hL _ hr2 ?_)
      | (go_at_call 48; refine (KE.out _).mono ?_; rintro e w2 ⟨u, rfl, hu, hb2⟩)
      | (go_at_call 33; refine (fsBlocks_nil _).mono ?_; rintro e w' ⟨rfl, rfl⟩)
      | (go_at_call 47; refine (npPut _ _ _).mono ?_; rintro e w' ⟨rfl, rfl⟩))
    go_ret
    exact ⟨rfl, hb1.trans (hb2.mono hb1.size)⟩
set_option maxHeartbeats 2000000 in
theorem lTabNil_of {w : World} {v : Value} {o : O13} (h : v = .agg o.cells.toArray ∧ o.ok) : Calls Tryz.prog 4 #[v] w fun e w' => e = .returned (.bool true) ∧ Below w.heap.size w w' := by
  obtain ⟨rfl, ho⟩ := h
  have hb1 := below_box w (.cells o.cells.toArray 40)
  have hr1 := heap_alloc_new w (.cells o.cells.toArray 40)
  obtain ⟨w1, hw1⟩ : ∃ w1, w1 = w.alloc (.cells o.cells.toArray 40) := ⟨_, rfl⟩
  rw [← hw1] at hb1 hr1
  have H1 := Lib.hid hw1.symm
  have HB : Hid (∀ W, Below w1.heap.size w1 W → Box13 W w.heap.size o) := Lib.hid fun W hb => box13 (below_hold hr1 hb) ho
  have KA := Lib.hid awake13_any
  have KP := Lib.hid (nfPut o.ino ho.I)
  have KS := Lib.hid (nfSetS ho.S ho.T)
  have KG := Lib.hid (nfGive ho.n.2)
  have HI := Lib.hid ho.I
  have HS := Lib.hid ho.S
  have u1 := Tryz.underlying32
  have u2 := Tryz.underlying35
  have HB1 := Lib.hid hb1
  clear hw1 hr1 ho hb1
  go_enter Tryz.func4, Tryz.ntmps4
  go_upto_region 1 with (fail)
  rw [H1.out]
  go_wp2_with (first
    | (go_at_call 6; refine (KA.out _).mono ?_; rintro e w2 ⟨rfl, hb2⟩)
    | (go_at_call 7; refine (fsNew_nil _).mono ?_; rintro e w' ⟨rfl, rfl⟩)
    | (go_at_call 11; refine (nfSuper _).mono ?_; rintro e w3 ⟨rfl, hb3⟩
       have hb13 := (hb2.trans (hb3.mono hb2.size)).trans ((below_box w3 (.cells #[.int .i64 0, .int .i64 0, .int .i64 0, .int .i64 0, .int .i64 0, .int .i64 0, .int .i64 0, .int .i64 0, .int .i64 0, .int .i64 0, .int .i64 0, .int .i64 0] 49)).mono (Nat.le_trans hb2.size hb3.size))
       obtain ⟨c30, c31, c32, c33, _, _, c34, c35⟩ := HB.out _ hb13)
    | (go_at_call 12; refine (nfGet _ _).mono ?_; rintro e w4 ⟨rfl, hb4⟩
       have hb14 := (hb13.trans (hb4.mono hb13.size)).trans ((below_box w4 (.cells #[.int .i64 0, .int .i64 0, .int .i64 0, .int .i64 0, .int .i64 0, .int .i64 0, .int .i64 0, .int .i64 0, .int .i64 0, .int .i64 0, .int .i64 0, .int .i64 0, .int .i64 0, .int .i64 0] 53)).mono (Nat.le_trans hb13.size hb4.size))
       obtain ⟨c40, c41, c42, c43, _, _, c44, c45⟩ := HB.out _ hb14)
    | (go_at_call 14; refine (nfMake _ _).mono ?_; rintro e w5 ⟨rfl, hb5⟩
       have hb15 := hb14.trans (hb5.mono hb14.size)
       obtain ⟨c50, c51, c52, c53, _, _, c54, c55⟩ := HB.out _ hb15)
    | (go_at_call 15; refine (nfTake _ _ _ _).mono ?_; rintro e w6 ⟨rfl, hb6⟩
       have hb16 := hb15.trans (hb6.mono hb15.size)
       obtain ⟨c60, c61, c62, c63, g6, _, _, _⟩ := HB.out _ hb16)
    | (with_reducible refine wpList_load_numsw rfl 32 (.tmp 65) rfl w.heap.size 4 rfl o.I _ g6 u1 rfl (by rw [sizeRI, HI.out]) ?_)
    | (go_at_call 16; refine (KP.out _).mono ?_; rintro e w7 ⟨rfl, hb7⟩
       have hb17 := hb16.trans (hb7.mono hb16.size)
       obtain ⟨c70, c71, c72, c73, _, g7, _, _⟩ := HB.out _ hb17)
    | (with_reducible refine wpList_load_numsw rfl 35 (.tmp 72) rfl w.heap.size 18 rfl o.S _ g7 u2 rfl (by rw [sizeRS, HS.out]) ?_)
    | (go_at_call 17; refine (KS.out _).mono ?_; rintro e w8 ⟨rfl, hb8⟩
       have hb18 := hb17.trans (hb8.mono hb17.size)
       obtain ⟨c80, c81, c82, c83, _, _, _, _⟩ := HB.out _ hb18)
    | (go_at_call 18; refine (KG.out _).mono ?_; rintro e w9 ⟨rfl, hb9⟩
       have hb19 := hb18.trans (hb9.mono hb18.size)))
  go_ret
  exact ⟨rfl, HB1.out.trans (hb19.mono HB1.out.size)⟩
end Go.Proofs.YtekeoljfdnfbgaaGreat
