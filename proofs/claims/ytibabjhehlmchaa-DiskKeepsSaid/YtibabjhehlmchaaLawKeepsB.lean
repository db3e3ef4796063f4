/- Layer 3's law: DiskKeeps. -/
import Derived.Test.YtibabjhehlmchaaLawKeeps
namespace Go.Proofs.Ytibabjhehlmchaa
open Go.RowKit
set_option linter.unusedVariables false

set_option maxRecDepth 100000 in
set_option maxHeartbeats 6000000 in
theorem lKeeps_any {w : World} (n : Nat) (hn : n ≤ 255) {vs vk : Value} {S : List OpV} {kl : List Bool} (hs : OpsA w vs S) (hk : KSl w vk kl) :
    Calls Try.prog 3 #[vs, .int .u8 n, vk] w fun e w' => e = .returned (.bool true) ∧ Below w.heap.size w w' := by
  obtain ⟨ao, cap, rfl⟩ := hs.shape
  obtain ⟨ak, ck, rfl⟩ := hk.shape
  obtain ⟨Z, hZ⟩ : ∃ Z, Z = List.replicate 10 zb := ⟨_, rfl⟩
  have hZl : Z.length = 10 := by rw [hZ]; rfl
  have HN := fun w => dNew_at w 10 (by decide)
  rw [← hZ] at HN
  clear hZ
  obtain ⟨k, hke⟩ : ∃ k, k = n % 10 := ⟨_, rfl⟩
  have hk10 : k < 10 := by omega
  have hmod : Int.tmod (n : Int) 10 = (k : Int) := by rw [hke]; exact (Int.ofNat_tmod _ _).symm
  have hk10' : (k : Int) < 10 := by omega
  clear hke
  have bw0 : Below w.heap.size w w := Below.refl _ _
  by_cases hbig : (200 : Int) < (kl.length : Int)
  · go_enter Try.func3, Try.ntmps3
    go_wp2_with (first
      | (go_at_call 6; refine (awake3_any _).mono ?_; rintro e w2 ⟨rfl, bw2⟩; have bw0 := bw0.trans (bw2.mono bw0.size))
      | (go_at_call 7; refine (few3_any (hs.below bw0).opsL).mono ?_; rintro e w3 ⟨b, rfl, _, rfl⟩; cases b))
    all_goals
      go_ret
      exact ⟨rfl, bw0⟩
  · go_enter Try.func3, Try.ntmps3
    go_wp2_with (first
      | (go_at_call 6; refine (awake3_any _).mono ?_; rintro e w2 ⟨rfl, bw2⟩; have bw0 := bw0.trans (bw2.mono bw0.size))
      | (go_at_call 7; refine (few3_any (hs.below bw0).opsL).mono ?_; rintro e w3 ⟨b, rfl, hS100, rfl⟩; cases b)
      | (go_at_call 8; refine (HN _).mono ?_; rintro e w2 ⟨p, rfl, _, hd, bw2⟩; obtain ⟨bp, rfl⟩ := hd.ptr
         replace hd := hd.more bw0.size
         have bw0 := bw0.trans (bw2.mono bw0.size))
      | (go_at_call 10; refine (opBlock3_byte _ 7 (by decide)).mono ?_; rintro e w3 ⟨vb, rfl, hvb, bw3⟩
         replace hd := hd.below bw3
         have bw0 := bw0.trans (bw3.mono bw0.size))
      | (go_at_call 9; refine (dWrite_at hd k (by rw [hZl]; exact hk10) hvb (repB_length 7) (by decide)).mono ?_; rintro e w4 ⟨rfl, hd4, bw4⟩
         have bw0 := bw0.trans bw4)
      | (go_at_call 11; refine (dFlush_at hd4 (by simp)).mono ?_; rintro e w5 ⟨rfl, hd5, bw5⟩
         have bw0 := bw0.trans bw5
         obtain ⟨F5, V5, ht5⟩ := kp_start hd5 hk10 hZl hZl))
    · go_ret
      exact ⟨rfl, bw0⟩
    have hS : S.length ≤ 100 := hS100 trivial
    have HT : Hid (Kp w5 w.heap.size (.pointer (some ⟨bp, 0, none⟩)) k (repB 7) F5 V5 []) := ht5
    have HBW := Lib.hid bw0
    have HKL := Lib.hid hk
    have HSS := Lib.hid hs
    clear ht5 bw0 hd5 hd4 hd hvb HN hk hs hS100 hmod
    go_loopw [42] (fun i wr => ∃ (j : Nat) (Vj : List (List Int)) (Uj : List (Nat × List Int)), j ≤ S.length ∧ i = .int .i64 j ∧ Hid (Kp wr w.heap.size (.pointer (some ⟨bp, 0, none⟩)) k (repB 7) F5 Vj Uj) ∧ Hid (Uj.length ≤ j) ∧ Hid (Below w.heap.size w wr))
      (fun i _ => S.length - (intOf i).toNat)
    case atStart => exact ⟨0, V5, [], by omega, rfl, HT, Nat.le_refl _, HBW⟩
    case round =>
      clear HT HBW
      obtain ⟨j, Vj, Uj, hjn, rfl, HT, HUj, HBW⟩ := hrel
      by_cases hlt : j < S.length
      · have hlt' : (j : Int) < (S.length : Int) := by omega
        rcases HSS.out with ⟨_, h0⟩ | ⟨b, off, cp, hv, hc⟩
        · rw [h0] at hlt; simp at hlt
        obtain ⟨rfl, rfl⟩ : ao = some ⟨b, off, none⟩ ∧ cp = cap := ⟨(Value.slice.inj hv).1, (Value.slice.inj hv).2.2.symm⟩
        obtain ⟨e0, vb, vk, e1, e2, e3, e4, e5, hx, hnb, hb, hkk⟩ := hc j hlt
        obtain ⟨⟨kd, nn, x, lb, kk⟩, hoe⟩ : ∃ o, o = S[j] := ⟨_, rfl⟩
        rw [← hoe] at e1 e2 e3 hx hnb hb hkk
        simp only at e1 e2 e3 hx hnb hb hkk
        obtain ⟨ak2, ck2, rfl⟩ := hkk.shape
        obtain ⟨ab2, cb2, rfl, _⟩ := hb.shape
        have key : ∀ W, Below w.heap.size w W → ∀ o, W.cell? ⟨b, o, none⟩ = w.cell? ⟨b, o, none⟩ := fun W h o => h.cell (p := ⟨b, o, none⟩) e0
        have C0 : ∀ W, Below w.heap.size w W → W.cell? ⟨b, off + j * 5, none⟩ = some (.int .i64 kd) := fun W h => by rw [key W h, e1]
        have C1 : ∀ W, Below w.heap.size w W → W.cell? ⟨b, off + j * 5 + 1, none⟩ = some (.int .i64 nn) := fun W h => by rw [key W h, e2]
        have C2 : ∀ W, Below w.heap.size w W → W.cell? ⟨b, off + j * 5 + 2, none⟩ = some (.int .u8 x) := fun W h => by rw [key W h, e3]
        have C3 : ∀ W, Below w.heap.size w W → W.cell? ⟨b, off + j * 5 + 3, none⟩ = some (.slice ab2 lb.length cb2) := fun W h => by rw [key W h, e4]
        have C4 : ∀ W, Below w.heap.size w W → W.cell? ⟨b, off + j * 5 + 4, none⟩ = some (.slice ak2 kk.length ck2) := fun W h => by rw [key W h, e5]
        have c0 := C0 _ HBW.out
        have c1 := C1 _ HBW.out
        have HB := Lib.hid hb
        have HX := Lib.hid hx
        clear hv hc e0 e1 e2 e3 e4 e5 hoe hkk hb hnb key hx
        obtain ⟨LB, hLB⟩ : ∃ LB, LB = lb.length := ⟨_, rfl⟩
        obtain ⟨LK, hLK⟩ : ∃ LK, LK = kk.length := ⟨_, rfl⟩
        rw [← hLB] at C3 HB
        rw [← hLK] at C4
        clear hLB hLK
        by_cases hk1 : kd = 1
        · subst hk1
          by_cases hnk : nn = (k : Int)
          · subst hnk
            go_wp2_with fail
            go_roundw
            case rel => exact ⟨j + 1, Vj, Uj, by omega, by go_num, HT, Nat.le_trans HUj.out (by omega), HBW.out⟩
            case measure => simp [intOf]; omega
          · have hbeq : (nn == (k : Int)) = false := by simpa using hnk
            go_wp2_with fail
            have HBL : Calls Try.prog 10 #[.agg #[.int .i64 1, .int .i64 nn, .int .u8 x, .slice ab2 LB cb2, .slice ak2 LK ck2]] wr.drew fun e w' => ∃ v, e = .returned v ∧ (∃ l, BSl w' v l) ∧ Below wr.heap.size wr w' :=
              (opBlock3_any (w := wr.drew) 1 nn x HX.out (HB.out.below HBW.out.drew)).mono fun e w' ⟨v, he, hv, hb⟩ => ⟨v, he, ⟨_, hv⟩, ⟨hb.os, hb.tape, hb.output, hb.size, hb.block⟩⟩
            have hSd : Below w.heap.size w wr.drew := HBW.out.drew
            have HUl : Hid (Uj.length ≤ 1000000) := Nat.le_trans HUj.out (by omega)
            have HLT : Hid (j < S.length) := hlt
            clear hbeq c0 c1 hk10 hk10'
            go_region_held (fun W => Below w.heap.size w W) (first | assumption | go_keep)
              (first
                | (go_at_call 10; refine HBL.mono ?_; rintro e w3 ⟨v3, rfl, ⟨l3, hv3⟩, bw3⟩
                   have hS3 := HBW.out.trans (bw3.mono HBW.out.size)
                   have hd3 := HT.out.below bw3)
                | (go_at_call 9; refine (dWrite_kp hd3 HUl.out nn hnk hv3).mono ?_; rintro e w4 ⟨r4, V4, U4, rfl, hd4, hU4, bw4⟩
                   have hS4 := hS3.trans bw4))
            all_goals
              have HUn := HUj.out
              go_wp2_with fail
              go_roundw
              case rel => exact ⟨j + 1, V4, U4, by omega, by go_num, hd4, Nat.le_trans hU4 (by omega), hS4⟩
              case measure => simp [intOf]; omega
        · have hbeq : (kd == 1) = false := by simpa using hk1
          go_wp2_with fail
          go_roundw
          case rel => exact ⟨j + 1, Vj, Uj, by omega, by go_num, HT, Nat.le_trans HUj.out (by omega), HBW.out⟩
          case measure => simp [intOf]; omega
      · obtain rfl : j = S.length := by omega
        have hge : ¬ (S.length : Int) < (S.length : Int) := by omega
        have HUl : Hid (Uj.length ≤ 1000000) := Nat.le_trans HUj.out (by omega)
        obtain ⟨hVl, hVe⟩ := kp_end HT.out hk10 (stF (kpOf kl) Uj F5 Uj.length)
        have HVE := Lib.hid hVe
        clear hVe
        go_wp2_with (first
          | (go_at_call 12; refine (HT.out.1.crash HUl.out HKL.out (Nat.le_refl _) HBW.out).mono ?_; rintro e w6 ⟨rfl, hd6, bw6⟩
             have bw6 := HBW.out.trans bw6)
          | (go_at_call 13; refine (dRead_at hd6 k hVl).mono ?_; rintro e w7 ⟨v7, rfl, hv7, bw7⟩
             have hd7 := hd6.below bw7
             have bw7 := bw6.trans (bw7.mono bw6.size)))
        rw [HVE.out] at hv7
        obtain ⟨SS, hSS⟩ : ∃ SS, SS = strOfNums (repB 7) := ⟨_, rfl⟩
        have hcv := conv_later hv7
        rw [← hSS] at hcv
        have hcv0 := hcv w7.drew (Below.refl _ _).drew
        have HB : ∀ W, Below w7.heap.size w7 W → Calls Try.prog 10 #[.agg #[.int .i64 0, .int .i64 0, .int .u8 7, .slice none 0 0, .slice none 0 0]] W fun e w' => ∃ v, e = .returned v ∧ (convert 30 9 v).run Try.prog w' = .ok (.string SS) w' ∧ Below w7.heap.size w7 w' := fun W h =>
          (opBlock3_byte W 7 (by decide)).mono fun e w' ⟨v, he, hv, hb⟩ => ⟨v, he, by rw [hSS]; exact conv_bsl hv, h.trans (hb.mono h.size)⟩
        have HUF : ∀ W, Below w7.heap.size w7 W → Calls Try.prog 14 #[.pointer (some ⟨bp, 0, none⟩)] W fun e w' => e = .returned (.int .i64 0) ∧ W = w' := fun W h => dUnflushed_at (hd7.below h)
        have HBW7 := Lib.hid bw7
        clear hSS hv7 bw7 bw6 hd6 hd7 HT HBW HVE HKL HSS hVl HUl HUj
        have hbd : Below w7.heap.size w7 w7.drew := (Below.refl _ _).drew
        go_region_held (fun W => Below w7.heap.size w7 W) (go_keep)
          (first
            | (go_at_call 10; refine (HB _ (by assumption)).mono ?_; rintro e w8 ⟨v8, rfl, hcv8, hb8⟩)
            | (go_at_call 14; refine (HUF _ (by assumption)).mono ?_; rintro e w9 ⟨rfl, rfl⟩))
        all_goals
          clear HB HUF
          go_wp2_with fail
          go_ret
          exact ⟨rfl, HBW7.out.trans (hb8.mono HBW7.out.size)⟩
theorem lKeeps_of {w : World} {n : Int} (hn : 0 ≤ n ∧ n ≤ 255) {vs vk : Value} {S : List OpV} {kl : List Bool} (hs : OpsA w vs S) (hk : KSl w vk kl) :
    Calls Try.prog 3 #[vs, .int .u8 n, vk] w fun e w' => e = .returned (.bool true) ∧ Below w.heap.size w w' := by
  obtain ⟨m, rfl⟩ : ∃ m : Nat, n = m := ⟨n.toNat, by omega⟩
  exact lKeeps_any m (by omega) hs hk
end Go.Proofs.Ytibabjhehlmchaa
