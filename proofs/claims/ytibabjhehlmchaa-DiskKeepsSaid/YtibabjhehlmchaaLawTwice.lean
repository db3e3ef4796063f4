/- Layer 3's law: DiskTwice. -/
import Derived.Test.YtibabjhehlmchaaDiskG
import Derived.Test.YtibabjhehlmchaaAwake3
import Derived.Deep.RegionHeld
namespace Go.Proofs.Ytibabjhehlmchaa
open Go.RowKit
set_option linter.unusedVariables false

theorem Dsk.more {w : World} {B B' : Nat} {p : Value} {F V : List (List Int)} {U : List (Nat × List Int)} (h : Dsk w B p F V U) (hB : B' ≤ B) : Dsk w B' p F V U := by
  obtain ⟨bp, bf, bv, u, hp, h⟩ := h
  refine ⟨bp, bf, bv, u, hp, { h with bB := ⟨Nat.le_trans hB h.bB.1, Nat.le_trans hB h.bB.2.1, Nat.le_trans hB h.bB.2.2⟩, hu := ⟨h.hu.1, ?_⟩ }⟩
  rcases h.hu.2 with h0 | ⟨g, cap, cur, hv, hg, r⟩
  · exact .inl h0
  · exact .inr ⟨g, cap, cur, hv, Nat.le_trans hB hg, r⟩
theorem Dsk.crash {w : World} {B : Nat} {p : Value} {F V : List (List Int)} {U : List (Nat × List Int)} (h : Dsk w B p F V U) (hUl : U.length ≤ 1000000) {w0 : World} {v : Value} {k : List Bool} (hk : KSl w0 v k) (hB0 : w0.heap.size ≤ B) (hw0 : Below w0.heap.size w0 w) :
    Calls Try.prog 12 #[p, v] w fun e w' => e = .returned (.tuple #[]) ∧ Dsk w' B p (stF (kpOf k) U F U.length) (stV U (stF (kpOf k) U F U.length) V U.length) [] ∧ Below B w w' := by
  obtain ⟨bp, bf, bv, u, rfl, h⟩ := h
  exact dCrash_at h hUl hk hB0 hw0

/-- The last byte that is kept. -/
def wantOf (first : Int) (later : List Int) (kp : Nat → Bool) : Nat → Int
  | 0 => first
  | k + 1 => if kp k then later.getD k 0 else wantOf first later kp k
/-- The Writes of block 1. -/
def ones (l : List Int) : List (Nat × List Int) := l.map fun x => (1, repB x)
theorem ones_length (l : List Int) : (ones l).length = l.length := by simp [ones]
theorem ones_get (l : List Int) (k : Nat) (hk : k < l.length) : (ones l).getD k (0, []) = (1, repB (l.getD k 0)) := by
  simp [ones, List.getD_eq_getElem?_getD, hk]
theorem ones_snoc (l : List Int) (k : Nat) (hk : k < l.length) : ones (l.take k) ++ [(1, repB (l.getD k 0))] = ones (l.take (k + 1)) := by
  rw [List.take_succ_eq_append_getElem hk, ones, ones, List.map_append, List.getD_eq_getElem?_getD, List.getElem?_eq_getElem hk]
  rfl
theorem stF_ones (kp : Nat → Bool) (first : Int) (l : List Int) (F : List (List Int)) (hF : F.length = 2) (h1 : F.getD 1 [] = repB first) : ∀ k, k ≤ l.length → (stF kp (ones l) F k).getD 1 [] = repB (wantOf first l kp k)
  | 0, _ => h1
  | k + 1, hk => by
    have ih := stF_ones kp first l F hF h1 k (by omega)
    unfold stF wantOf
    rw [ones_get l k (by omega)]
    have hl := stF_length kp (ones l) F k
    cases kp k
    · exact ih
    · simp only [if_true]
      simp [List.getD_eq_getElem?_getD, hl, hF]
theorem stV_ones (l : List Int) (F1 V : List (List Int)) (hV : V.length = 2) (k : Nat) (hk : k < l.length) : (stV (ones l) F1 V (k + 1)).getD 1 [] = F1.getD 1 [] := by
  unfold stV
  rw [ones_get l k hk]
  have hl := stV_length (ones l) F1 V k
  simp only [List.getD_eq_getElem?_getD]
  rw [List.getElem?_set, if_pos rfl, if_pos (by rw [hl, hV]; decide)]
  rfl
theorem repB_blk {x : Int} (h : 0 ≤ x ∧ x ≤ 255) : Blk (repB x) := ⟨repB_length x, byt_rep h 256⟩

/-- Block of a call that says a byte alone. -/
theorem opBlock3_byte (w : World) (x : Int) (hx : 0 ≤ x ∧ x ≤ 255) :
    Calls Try.prog 10 #[.agg #[.int .i64 0, .int .i64 0, .int .u8 x, .slice none 0 0, .slice none 0 0]] w fun e w' => ∃ v, e = .returned v ∧ BSl w' v (repB x) ∧ Below w.heap.size w w' := by
  have := opBlock3_any (w := w) 0 0 x hx (vb := .slice none 0 0) (vk := .slice none 0 0) (l := []) ⟨byt_nil, .inl ⟨rfl, rfl⟩⟩
  rw [if_pos rfl] at this
  exact this

/-- A disk of two blocks, block 1 of which has been written and flushed. -/
def Two (w : World) (B : Nat) (p : Value) (first : Int) (F V : List (List Int)) (later : List Int) : Prop :=
  Dsk w B p F V (ones later) ∧ F.length = 2 ∧ V.length = 2 ∧ F.getD 1 [] = repB first ∧ (later = [] → V.getD 1 [] = repB first)

theorem two_start {w : World} {B : Nat} {p : Value} {first : Int} {F V : List (List Int)} (h : Dsk w B p (stF (fun _ => true) ([] ++ [(1, repB first)]) F ([] ++ [(1, repB first)] : List (Nat × List Int)).length) (stV ([] ++ [(1, repB first)]) (stF (fun _ => true) ([] ++ [(1, repB first)]) F ([] ++ [(1, repB first)] : List (Nat × List Int)).length) (V.set 1 (repB first)) ([] ++ [(1, repB first)] : List (Nat × List Int)).length) [])
    (hF : F.length = 2) (hV : V.length = 2) : ∃ F V, Two w B p first F V [] := by
  have e1 : stF (fun _ => true) ([] ++ [(1, repB first)]) F ([] ++ [(1, repB first)] : List (Nat × List Int)).length = F.set 1 (repB first) := rfl
  rw [e1] at h
  have e2 : stV ([] ++ [(1, repB first)]) (F.set 1 (repB first)) (V.set 1 (repB first)) ([] ++ [(1, repB first)] : List (Nat × List Int)).length = (V.set 1 (repB first)).set 1 ((F.set 1 (repB first)).getD 1 []) := rfl
  rw [e2] at h
  refine ⟨_, _, h, by simp [hF], by simp [hV], by simp [List.getD_eq_getElem?_getD, hF], fun _ => by simp [List.getD_eq_getElem?_getD, hF, hV]⟩

theorem two_next {w w4 : World} {B : Nat} {p : Value} {x y : Int} {F V : List (List Int)} {l : List Int} {k : Nat} (h : Two w B p x F V (l.take k)) (hy : y = l.getD k 0) (hk : k < l.length) (hd : Dsk w4 B p F (V.set 1 (repB y)) (ones (l.take k) ++ [(1, repB y)])) : Two w4 B p x F (V.set 1 (repB y)) (l.take (k + 1)) := by
  refine ⟨?_, h.2.1, by rw [List.length_set]; exact h.2.2.1, h.2.2.2.1, fun e => ?_⟩
  · rw [← ones_snoc l k hk, ← hy]; exact hd
  · have := congrArg List.length e
    rw [List.length_take, List.length_nil] at this
    omega

theorem wantOf_byt {x : Int} (hx : 0 ≤ x ∧ x ≤ 255) {l : List Int} (hl : Byt l) (kp : Nat → Bool) : ∀ k, 0 ≤ wantOf x l kp k ∧ wantOf x l kp k ≤ 255
  | 0 => hx
  | k + 1 => by
    unfold wantOf
    split
    · exact hl k
    · exact wantOf_byt hx hl kp k
theorem two_end {w : World} {B : Nat} {p : Value} {x : Int} {F V : List (List Int)} {l : List Int} (h : Two w B p x F V l) (kp : Nat → Bool) :
    ∃ hlt : 1 < (stV (ones l) (stF kp (ones l) F (ones l).length) V (ones l).length).length, (stV (ones l) (stF kp (ones l) F (ones l).length) V (ones l).length)[1] = repB (wantOf x l kp l.length) := by
  have hlt : 1 < (stV (ones l) (stF kp (ones l) F (ones l).length) V (ones l).length).length := by rw [stV_length, h.2.2.1]; decide
  refine ⟨hlt, ?_⟩
  have hg : ∀ (L : List (List Int)) (hL : 1 < L.length), L[1] = L.getD 1 [] := fun L hL => by rw [List.getD_eq_getElem?_getD, List.getElem?_eq_getElem hL]; rfl
  rw [hg _ hlt, ones_length]
  cases hn : l.length with
  | zero => exact h.2.2.2.2 (List.eq_nil_of_length_eq_zero hn)
  | succ m =>
    rw [stV_ones l _ V h.2.2.1 m (by omega), stF_ones kp x l F h.2.1 h.2.2.2.1 (m + 1) (by omega)]

theorem repB_inj {x y : Int} (h : x = y) : repB x = repB y := by rw [h]

set_option maxRecDepth 100000 in
set_option maxHeartbeats 6000000 in
theorem lTwice_any {w : World} (x : Int) (hx : 0 ≤ x ∧ x ≤ 255) {vl vk : Value} {l : List Int} {kl : List Bool} (hl : BSl w vl l) (hk : KSl w vk kl) :
    Calls Try.prog 5 #[.int .u8 x, vl, vk] w fun e w' => e = .returned (.bool true) ∧ Below w.heap.size w w' := by
  obtain ⟨ao, cap, rfl, _⟩ := hl.shape
  obtain ⟨ak, ck, rfl⟩ := hk.shape
  obtain ⟨Z, hZ⟩ : ∃ Z, Z = List.replicate 2 zb := ⟨_, rfl⟩
  have hZl : Z.length = 2 := by rw [hZ]; rfl
  have HN := fun w => dNew_at w 2 (by decide)
  rw [← hZ] at HN
  clear hZ
  by_cases hbig : l.length ≤ 200 ∧ kl.length ≤ 200
  · obtain ⟨hb1, hb2⟩ := hbig
    have hb1' : ¬ (200 : Int) < (l.length : Int) := by omega
    have hb2' : ¬ (200 : Int) < (kl.length : Int) := by omega
    go_enter Try.func5, Try.ntmps5
    go_wp2_with (first
      | (go_at_call 6; refine (awake3_any _).mono ?_; rintro e w1 ⟨rfl, bw1⟩)
      | (go_at_call 8; refine (HN _).mono ?_; rintro e w2 ⟨p, rfl, _, hd, bw2⟩; obtain ⟨bp, rfl⟩ := hd.ptr
         have bw2 := bw1.trans (bw2.mono bw1.size)
         replace hd := hd.more bw1.size)
      | (go_at_call 10; refine (opBlock3_byte _ x hx).mono ?_; rintro e w3 ⟨vb, rfl, hvb, bw3⟩
         replace hd := hd.below bw3
         have bw3 := bw2.trans (bw3.mono bw2.size))
      | (go_at_call 9; refine (dWrite_at hd 1 (by rw [hZl]; decide) hvb (repB_length x) (by decide)).mono ?_; rintro e w4 ⟨rfl, hd4, bw4⟩
         have bw4 := bw3.trans bw4)
      | (go_at_call 11; refine (dFlush_at hd4 (by simp)).mono ?_; rintro e w5 ⟨rfl, hd5, bw5⟩
         have bw5 := bw4.trans bw5
         obtain ⟨F5, V5, ht5⟩ := two_start hd5 hZl hZl))
    have HT : Hid (Two w5 w.heap.size (.pointer (some ⟨bp, 0, none⟩)) x F5 V5 (l.take 0)) := by rw [List.take_zero]; exact ht5
    have HBW := Lib.hid bw5
    clear ht5 bw5 hd5 hd4 hd bw1 bw2 bw3 bw4 hvb HN
    have HKL := Lib.hid hk
    have HLL := Lib.hid hl
    clear hk hl
    go_loopw [8, 40] (fun wt i wr => ∃ (k : Nat) (Fk Vk : List (List Int)), k ≤ l.length ∧ i = .int .i64 k ∧ wt = .int .u8 (wantOf x l (kpOf kl) k) ∧ Hid (Two wr w.heap.size (.pointer (some ⟨bp, 0, none⟩)) x Fk Vk (l.take k)) ∧ Hid (Below w.heap.size w wr))
      (fun _ i _ => l.length - (intOf i).toNat)
    case atStart => exact ⟨0, F5, V5, by omega, rfl, rfl, HT, HBW⟩
    case round =>
      clear HT HBW
      obtain ⟨k, Fk, Vk, hkn, rfl, rfl, HT, HBW⟩ := hrel
      by_cases hlt : k < l.length
      · have hlt' : (k : Int) < (l.length : Int) := by omega
        rcases HLL.out.2 with ⟨_, h0⟩ | ⟨⟨b, off, spot⟩, cp, hv, _, hc⟩
        · rw [h0] at hlt; simp at hlt
        obtain ⟨e1, e2, e3⟩ := hc k hlt
        obtain rfl : spot = none := e2
        obtain ⟨rfl, rfl⟩ : ao = some ⟨b, off, none⟩ ∧ cp = cap := ⟨(Value.slice.inj hv).1, (Value.slice.inj hv).2.2.symm⟩
        obtain ⟨y, hye⟩ : ∃ y, y = l.getD k 0 := ⟨_, rfl⟩
        have hy : 0 ≤ y ∧ y ≤ 255 := by rw [hye]; exact HLL.out.1 k
        rw [← hye] at e3
        have HY := Lib.hid hye
        have HC : Hid (∀ W, Below w.heap.size w W → W.cell? ⟨b, off + k, none⟩ = some (.int .u8 y)) := fun W hb => by rw [hb.cell (p := ⟨b, off + k, none⟩) e1]; exact e3
        have cy := HC.out _ HBW.out
        have HUl : Hid ((l.take k).length ≤ 1000000) := by show _ ≤ _; rw [List.length_take]; omega
        clear e1 e3 hv hc hye
        by_cases h0 : kl.length = 0
        · have HW : Hid (wantOf x l (kpOf kl) k = wantOf x l (kpOf kl) (k + 1)) := by show _ = _; rw [wantOf, if_neg (by rw [kpOf, if_pos h0]; decide)]
          have hz1 : ¬ (0 : Int) < (kl.length : Int) := by omega
          have hz2 : ¬ 0 < kl.length := by omega
          clear h0
          go_wp2_with (first
            | (go_at_call 10; refine (opBlock3_byte _ y hy).mono ?_; rintro e w3 ⟨vb, rfl, hvb, bw3⟩
               have hd3 := HT.out.1.below bw3
               have bw3 := HBW.out.trans (bw3.mono HBW.out.size))
            | (go_at_call 9; refine (dWrite_at hd3 1 (by rw [HT.out.2.2.1]; decide) hvb (repB_length y) (by rw [ones_length]; exact HUl.out)).mono ?_; rintro e w4 ⟨rfl, hd4, bw4⟩
               have bw4 := bw3.trans bw4
               have cy4 := HC.out _ bw4))
          go_roundw
          case rel => exact ⟨k + 1, Fk, Vk.set 1 (repB y), by omega, by go_num, by rw [← HW.out], two_next HT.out HY.out hlt hd4, bw4⟩
          case measure => simp [intOf]; omega
        · have hjl : k % kl.length < kl.length := Nat.mod_lt _ (by omega)
          rcases HKL.out with ⟨_, hk0⟩ | ⟨⟨bk, offk, spot⟩, cpk, hv, hc⟩
          · rw [hk0] at h0; simp at h0
          obtain ⟨e1, e2k, e3⟩ := hc (k % kl.length) hjl
          obtain rfl : spot = none := e2k
          obtain ⟨rfl, rfl⟩ : ak = some ⟨bk, offk, none⟩ ∧ cpk = ck := ⟨(Value.slice.inj hv).1, (Value.slice.inj hv).2.2.symm⟩
          obtain ⟨r, hr⟩ : ∃ r, r = kl.getD (k % kl.length) false := ⟨_, rfl⟩
          have hkp : kpOf kl k = r := by rw [kpOf, if_neg h0, hr]
          rw [← hr] at e3
          have hmod : Int.tmod (k : Int) (kl.length : Int) = ((k % kl.length : Nat) : Int) := (Int.ofNat_tmod _ _).symm
          obtain ⟨j, hj⟩ : ∃ j, j = k % kl.length := ⟨_, rfl⟩
          rw [← hj] at hmod e3 hjl
          have HKC : Hid (∀ W, Below w.heap.size w W → W.cell? ⟨bk, offk + j, none⟩ = some (.bool r)) := fun W hb => by rw [hb.cell (p := ⟨bk, offk + j, none⟩) e1]; exact e3
          have hL0 : (0 : Int) < (kl.length : Int) := by omega
          have hLn : ¬ (kl.length : Int) = 0 := by omega
          have hLN : 0 < kl.length := by omega
          have hj0 : (0 : Int) ≤ (j : Int) := by omega
          have hjl' : (j : Int) < (kl.length : Int) := by omega
          have HKP := Lib.hid hkp
          clear e1 e3 hv hc hr hj h0 hkp
          cases r
          · have HW : Hid (wantOf x l (kpOf kl) k = wantOf x l (kpOf kl) (k + 1)) := by show _ = _; rw [wantOf, if_neg (by rw [HKP.out]; decide)]
            go_wp2_with (first
              | (go_at_call 10; refine (opBlock3_byte _ y hy).mono ?_; rintro e w3 ⟨vb, rfl, hvb, bw3⟩
                 have hd3 := HT.out.1.below bw3
                 have bw3 := HBW.out.trans (bw3.mono HBW.out.size))
              | (go_at_call 9; refine (dWrite_at hd3 1 (by rw [HT.out.2.2.1]; decide) hvb (repB_length y) (by rw [ones_length]; exact HUl.out)).mono ?_; rintro e w4 ⟨rfl, hd4, bw4⟩
                 have bw4 := bw3.trans bw4
                 have cy4 := HC.out _ bw4
                 have ck4 := HKC.out _ bw4))
            go_roundw
            case rel => exact ⟨k + 1, Fk, Vk.set 1 (repB y), by omega, by go_num, by rw [← HW.out], two_next HT.out HY.out hlt hd4, bw4⟩
            case measure => simp [intOf]; omega
          · have HW : Hid (y = wantOf x l (kpOf kl) (k + 1)) := by show _ = _; rw [wantOf, if_pos HKP.out]; exact HY.out
            go_wp2_with (first
              | (go_at_call 10; refine (opBlock3_byte _ y hy).mono ?_; rintro e w3 ⟨vb, rfl, hvb, bw3⟩
                 have hd3 := HT.out.1.below bw3
                 have bw3 := HBW.out.trans (bw3.mono HBW.out.size))
              | (go_at_call 9; refine (dWrite_at hd3 1 (by rw [HT.out.2.2.1]; decide) hvb (repB_length y) (by rw [ones_length]; exact HUl.out)).mono ?_; rintro e w4 ⟨rfl, hd4, bw4⟩
                 have bw4 := bw3.trans bw4
                 have cy4 := HC.out _ bw4
                 have ck4 := HKC.out _ bw4))
            go_roundw
            case rel => exact ⟨k + 1, Fk, Vk.set 1 (repB y), by omega, by go_num, by rw [← HW.out], two_next HT.out HY.out hlt hd4, bw4⟩
            case measure => simp [intOf]; omega
      · obtain rfl : k = l.length := by omega
        have hge : ¬ (l.length : Int) < (l.length : Int) := by omega
        rw [List.take_length] at HT
        obtain ⟨y, hye⟩ : ∃ y, y = wantOf x l (kpOf kl) l.length := ⟨_, rfl⟩
        have hy : 0 ≤ y ∧ y ≤ 255 := by rw [hye]; exact wantOf_byt hx HLL.out.1 _ _
        obtain ⟨hVl, hVe⟩ := two_end HT.out (kpOf kl)
        rw [← hye] at hVe ⊢
        have HYE := Lib.hid hye
        clear hye hVe
        have hVe := (two_end HT.out (kpOf kl)).2
        rw [← HYE.out] at hVe
        have HVE := Lib.hid hVe
        have HUl : Hid ((ones l).length ≤ 1000000) := by show _ ≤ _; rw [ones_length]; omega
        clear hVe
        go_wp2_with (first
          | (go_at_call 12; refine (HT.out.1.crash HUl.out HKL.out (Nat.le_refl _) HBW.out).mono ?_; rintro e w6 ⟨rfl, hd6, bw6⟩
             have bw6 := HBW.out.trans bw6)
          | (go_at_call 13; refine (dRead_at hd6 1 hVl).mono ?_; rintro e w7 ⟨v7, rfl, hv7, bw7⟩
             have bw7 := bw6.trans (bw7.mono bw6.size)))
        rw [HVE.out] at hv7
        obtain ⟨SS, hSS⟩ : ∃ SS, SS = strOfNums (repB y) := ⟨_, rfl⟩
        have hcv := conv_later hv7
        rw [← hSS] at hcv
        have hcv0 := hcv w7.drew (Below.refl _ _).drew
        have HB : ∀ W, Below w7.heap.size w7 W → Calls Try.prog 10 #[.agg #[.int .i64 0, .int .i64 0, .int .u8 y, .slice none 0 0, .slice none 0 0]] W fun e w' => ∃ v, e = .returned v ∧ (convert 30 9 v).run Try.prog w' = .ok (.string SS) w' ∧ Below w7.heap.size w7 w' := fun W h =>
          (opBlock3_byte W y hy).mono fun e w' ⟨v, he, hv, hb⟩ => ⟨v, he, by rw [hSS]; exact conv_bsl hv, h.trans (hb.mono h.size)⟩
        have HBW7 := Lib.hid bw7
        clear hSS hv7 bw7 bw6 hd6 HT HBW HVE HYE HKL HLL hVl
        have hbd : Below w7.heap.size w7 w7.drew := (Below.refl _ _).drew
        go_region_held (fun W => Below w7.heap.size w7 W) (go_keep)
          (first | (go_at_call 10; refine (HB _ (by assumption)).mono ?_; rintro e w8 ⟨v8, rfl, hcv8, hb8⟩))
        all_goals
          clear HB
          go_wp2_with fail
          go_ret
          exact ⟨rfl, HBW7.out.trans (hb8.mono HBW7.out.size)⟩
  · have hbg : (200 : Int) < (l.length : Int) ∨ (200 : Int) < (kl.length : Int) := by omega
    have hbd : (decide ((200 : Int) < (l.length : Int)) || decide ((200 : Int) < (kl.length : Int))) = true := by simpa using hbg
    have bw0 : Below w.heap.size w w := Below.refl _ _
    go_enter Try.func5, Try.ntmps5
    go_wp2_with (go_at_call 6; refine (awake3_any _).mono ?_; rintro e w2 ⟨rfl, bw2⟩; have bw0 := bw0.trans (bw2.mono bw0.size))
    all_goals
      go_ret
      exact ⟨rfl, bw0⟩
end Go.Proofs.Ytibabjhehlmchaa
