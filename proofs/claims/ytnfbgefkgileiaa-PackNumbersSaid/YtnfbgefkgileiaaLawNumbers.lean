/- The law PackNumbers: awake, and the walk of the law itself. -/
import Derived.Test.YtnfbgefkgileiaaPackD
import Derived.Deep.RegionHeld
import Derived.Deep.RegionHeld3
namespace Go.Proofs.Ytnfbgefkgileiaa
open Go.RowKit
set_option linter.unusedVariables false

theorem bsl_nil (w : World) : BSl w (.slice none 0 0) [] := ⟨byt_nil, .inl ⟨rfl, rfl⟩⟩
theorem pSeal_nil (w : World) : Calls Try.prog 11 #[.slice none 0 0] w fun e w' => ∃ g c, e = .returned (.tuple #[.slice (some ⟨g, 0, none⟩) 256 c, .int .i64 0]) ∧ Below w.heap.size w w' :=
  (pSeal_yes (bsl_nil w) (by decide)).mono fun e w' ⟨v, he, hob, hb⟩ => by
    have hl := sealS_length [] (by decide)
    rcases hob.2.2 with ⟨_, h0⟩ | ⟨g, cap, cur, hv, _⟩
    · omega
    · exact ⟨g, cap, by rw [he, hv, hl], hb⟩
theorem lowB_258 : lowB 258 2 = [2, 1] := by decide
theorem pPut_258 (w : World) : Calls Try.prog 7 #[.slice none 0 0, .int .u64 258, .int .i64 2] w (NewB w [2, 1]) := by
  have := pPut_at (bsl_nil w) (by decide) 258 2 2 (by decide) (by decide) rfl (by decide) (by decide)
  rw [lowB_258] at this; exact this
theorem str_21 : ((strOfNums [2, 1]).toList == [2, 1]) = true := by decide +kernel

theorem awake2_any (w : World) : Calls Try.prog 6 #[] w fun e w' => e = .returned (.bool true) ∧ Below w.heap.size w w' := by
  go_enter Try.func6, Try.ntmps6
  go_wp2_with (first
    | (go_at_call 11; refine (pSeal_nil _).mono ?_; rintro e w1 ⟨g, c, rfl, hb1⟩)
    | (go_at_call 7; refine (pPut_258 _).mono ?_; rintro e w2 ⟨v2, rfl, hob2, hb2⟩
       have hcv := conv_bsl hob2.bsl))
  go_ret
  exact ⟨by rw [str_21]; rfl, hb1.trans (hb2.mono hb1.size)⟩

theorem pPut_c {w : World} {v : Value} {l : List Int} (hs : BSl w v l) (hl : l.length ≤ 140737488355300) (n size : Int) (h0 : 0 ≤ n) (h1 : n < 18446744073709551616) (P : List Int) (hP : P = putS l n size) {w0 : World} (hb : Below w0.heap.size w0 w) :
    Calls Try.prog 7 #[v, .int .u64 n, .int .i64 size] w fun e w' => ∃ v', e = .returned v' ∧ BSl w' v' P ∧ Below w0.heap.size w0 w' :=
  (pPut_any hs hl n size h0 h1).mono fun _ _ ⟨v', he, ho, hb2⟩ => ⟨v', he, by rw [hP]; exact ho.bsl, hb.trans (hb2.mono hb.size)⟩
theorem rPut_c {w0 w : World} {v : Value} {l : List Int} (hs : BSl w0 v l) (hl : l.length ≤ 140737488355300) (n size : Int) (h0 : 0 ≤ n) (h1 : n < 18446744073709551616) (P : List Int) (hP : P = putS l n size) (hb : Below w0.heap.size w0 w) :
    Calls Try.prog 10 #[v, .int .u64 n, .int .i64 size] w fun e w' => ∃ v', e = .returned v' ∧ (∀ W, Below w'.heap.size w' W → (convert 22 9 v').run Try.prog W = .ok (.string (strOfNums P)) W) ∧ Below w0.heap.size w0 w' :=
  (rPut_any (hs.below hb) hl n size h0 h1).mono fun _ _ ⟨v', he, ho, hb2⟩ => ⟨v', he, by rw [hP]; exact conv_later ho.bsl, hb.trans (hb2.mono hb.size)⟩
theorem pGet_c {w0 w : World} {v : Value} {l : List Int} (hs : BSl w0 v l) (hb : Below w0.heap.size w0 w) (hl : l.length ≤ 140737488355300) (a k : Int) (h0 : -9223372036854775808 ≤ a) (h1 : a ≤ 9223372036854775807) (G : Int) (B : Bool) (hG : G = getN l a k) (hB : B = getB l a k) :
    Calls Try.prog 8 #[v, .int .i64 a, .int .i64 k] w fun e w' => e = .returned (.tuple #[.int .u64 G, .bool B]) ∧ w = w' := by
  rw [hG, hB]; exact pGet_any (hs.below hb) hl a k h0 h1
theorem rGet_c {w0 w : World} {v : Value} {l : List Int} (hs : BSl w0 v l) (hb : Below w0.heap.size w0 w) (hl : l.length ≤ 140737488355300) (a k : Int) (h0 : -9223372036854775808 ≤ a) (h1 : a ≤ 9223372036854775807) (G : Int) (B : Bool) (hG : G = getN l a k) (hB : B = getB l a k) :
    Calls Try.prog 9 #[v, .int .i64 a, .int .i64 k] w fun e w' => e = .returned (.tuple #[.int .u64 G, .bool B]) ∧ w = w' := by
  rw [hG, hB]; exact rGet_any' (hs.below hb) hl a k h0 h1

theorem mask_true (n size Z : Int) (k : Nat) (h0 : 0 ≤ n) (h1 : n < 18446744073709551616) (hk : k < 8) (hs : size = k) (hZ : Z = n % 256 ^ k) :
    (Z == bits BinOp.and IntKind.u64 n (IntKind.u64.wrap (IntKind.u64.wrap (2 ^ (8 * size).toNat) - 1))) = true := by
  have hp := pow256_le (show k ≤ 7 by omega)
  have hp1 := pow256_pos k
  have e : (2 : Int) ^ (8 * size).toNat = 256 ^ k := by rw [pow256, show (8 * size).toNat = 8 * k by omega]
  rw [e, IntWalk.u64_in (256 ^ k) (by omega), IntWalk.u64_in (256 ^ k - 1) (by omega), and_mask n k h0 h1 hk, hZ]
  simp

set_option maxHeartbeats 6000000 in
theorem lNumbers_lo {w : World} {v : Value} {l : List Int} (hs : BSl w v l) (hl : l.length ≤ 140737488351232) (n size at_ : Int) (h0 : 0 ≤ n) (h1 : n < 18446744073709551616) (ha0 : -9223372036854775808 ≤ at_) (ha1 : at_ ≤ 9223372036854775807) (hsz : size < 1) :
    Calls Try.prog 3 #[v, .int .u64 n, .int .i64 size, .int .i64 at_] w fun e w' => e = .returned (.bool true) ∧ Below w.heap.size w w' := by
  obtain ⟨ao, cap, rfl, hcap⟩ := hs.shape
  obtain ⟨P, hP⟩ : ∃ P, P = putS l n size := ⟨_, rfl⟩
  obtain ⟨G, hG⟩ : ∃ G, G = getN l at_ size := ⟨_, rfl⟩
  obtain ⟨B, hB⟩ : ∃ B, B = getB l at_ size := ⟨_, rfl⟩
  have hZ : (0 : Int) = getN P l.length size := by unfold getN; rw [if_neg (by omega)]
  have hO : false = getB P l.length size := by unfold getB; rw [decide_eq_false (by omega)]
  have hPl : P.length ≤ 140737488355300 := by rw [hP, putS, if_neg (by omega)]; omega
  have hl2 : l.length ≤ 140737488355300 := by omega
  have HP := Lib.hid hP
  have HG := Lib.hid hG
  have HB := Lib.hid hB
  have HZ := Lib.hid hZ
  have HO := Lib.hid hO
  have HPl := Lib.hid hPl
  have HS := Lib.hid hs
  have hb0 : Below w.heap.size w w := Below.refl _ _
  clear hP hG hB hZ hO hPl hs
  go_enter Try.func3, Try.ntmps3
  go_wp2_with (first
    | (go_at_call 6; refine (awake2_any _).mono ?_; rintro e w1 ⟨rfl, hb1⟩)
    | (go_at_call 7; refine (pPut_c (HS.out.below hb1) hl2 n size h0 h1 P HP.out hb1).mono ?_; rintro e u ⟨v2, rfl, hs2, hbu⟩
       have HS2 := Lib.hid hs2; clear hs2)
    | (go_at_call 8; refine (pGet_c HS.out hbu hl2 at_ size ha0 ha1 G B HG.out HB.out).mono ?_; rintro e w2 ⟨rfl, rfl⟩)
    | (go_at_call 9; refine (rGet_c HS.out hbu hl2 at_ size ha0 ha1 G B HG.out HB.out).mono ?_; rintro e w2 ⟨rfl, rfl⟩))
  have hcb := conv_later HS2.out
  have hrefl : ∀ W : World, Below W.heap.size W W := fun W => Below.refl _ _
  have hbd : Below u.heap.size u u.drew := (Below.refl _ _).drew
  have HSu := Lib.hid (HS.out.below hbu)
  have HPC := fun {w' : World} (h : Below u.heap.size u w') => rPut_c HSu.out hl2 n size h0 h1 P HP.out h
  have HGC := fun {w' : World} (h : Below u.heap.size u w') => pGet_c HS2.out h HPl.out l.length size (by omega) (by omega) _ _ HZ.out HO.out
  have HHL := Lib.hid hl
  have HH1 := Lib.hid h1
  have HH0 := Lib.hid h0
  clear hl hl2 h0 h1 ha0 ha1 hb1 hb0
  go_region_held (fun W => Below u.heap.size u W) (go_keep)
    (first | (go_at_call 10; refine (HPC hbd).mono ?_; rintro e w3 ⟨v3, rfl, hcv3, hb3⟩))
  all_goals
    clear HPC
    go_wp2_with (go_at_call 8; refine (HGC hb3).mono ?_; rintro e w4 ⟨rfl, rfl⟩)
    go_ret
    exact ⟨rfl, hbu.trans (hb3.mono hbu.size)⟩

set_option maxHeartbeats 6000000 in
theorem lNumbers_hi {w : World} {v : Value} {l : List Int} (hs : BSl w v l) (hl : l.length ≤ 140737488351232) (n size at_ : Int) (h0 : 0 ≤ n) (h1 : n < 18446744073709551616) (ha0 : -9223372036854775808 ≤ at_) (ha1 : at_ ≤ 9223372036854775807) (hsz : 8 < size) :
    Calls Try.prog 3 #[v, .int .u64 n, .int .i64 size, .int .i64 at_] w fun e w' => e = .returned (.bool true) ∧ Below w.heap.size w w' := by
  obtain ⟨ao, cap, rfl, hcap⟩ := hs.shape
  obtain ⟨P, hP⟩ : ∃ P, P = putS l n size := ⟨_, rfl⟩
  obtain ⟨G, hG⟩ : ∃ G, G = getN l at_ size := ⟨_, rfl⟩
  obtain ⟨B, hB⟩ : ∃ B, B = getB l at_ size := ⟨_, rfl⟩
  have hZ : (0 : Int) = getN P l.length size := by unfold getN; rw [if_neg (by omega)]
  have hO : false = getB P l.length size := by unfold getB; rw [decide_eq_false (by omega)]
  have hPl : P.length ≤ 140737488355300 := by rw [hP, putS, if_neg (by omega)]; omega
  have hl2 : l.length ≤ 140737488355300 := by omega
  have HP := Lib.hid hP
  have HG := Lib.hid hG
  have HB := Lib.hid hB
  have HZ := Lib.hid hZ
  have HO := Lib.hid hO
  have HPl := Lib.hid hPl
  have HS := Lib.hid hs
  have hb0 : Below w.heap.size w w := Below.refl _ _
  clear hP hG hB hZ hO hPl hs
  go_enter Try.func3, Try.ntmps3
  go_wp2_with (first
    | (go_at_call 6; refine (awake2_any _).mono ?_; rintro e w1 ⟨rfl, hb1⟩)
    | (go_at_call 7; refine (pPut_c (HS.out.below hb1) hl2 n size h0 h1 P HP.out hb1).mono ?_; rintro e u ⟨v2, rfl, hs2, hbu⟩
       have HS2 := Lib.hid hs2; clear hs2)
    | (go_at_call 8; refine (pGet_c HS.out hbu hl2 at_ size ha0 ha1 G B HG.out HB.out).mono ?_; rintro e w2 ⟨rfl, rfl⟩)
    | (go_at_call 9; refine (rGet_c HS.out hbu hl2 at_ size ha0 ha1 G B HG.out HB.out).mono ?_; rintro e w2 ⟨rfl, rfl⟩))
  have hcb := conv_later HS2.out
  have hrefl : ∀ W : World, Below W.heap.size W W := fun W => Below.refl _ _
  have hbd : Below u.heap.size u u.drew := (Below.refl _ _).drew
  have HSu := Lib.hid (HS.out.below hbu)
  have HPC := fun {w' : World} (h : Below u.heap.size u w') => rPut_c HSu.out hl2 n size h0 h1 P HP.out h
  have HGC := fun {w' : World} (h : Below u.heap.size u w') => pGet_c HS2.out h HPl.out l.length size (by omega) (by omega) _ _ HZ.out HO.out
  have HHL := Lib.hid hl
  have HH1 := Lib.hid h1
  have HH0 := Lib.hid h0
  clear hl hl2 h0 h1 ha0 ha1 hb1 hb0
  go_region_held (fun W => Below u.heap.size u W) (go_keep)
    (first | (go_at_call 10; refine (HPC hbd).mono ?_; rintro e w3 ⟨v3, rfl, hcv3, hb3⟩))
  all_goals
    clear HPC
    go_wp2_with (go_at_call 8; refine (HGC hb3).mono ?_; rintro e w4 ⟨rfl, rfl⟩)
    go_ret
    exact ⟨rfl, hbu.trans (hb3.mono hbu.size)⟩

set_option maxHeartbeats 6000000 in
theorem lNumbers_8 {w : World} {v : Value} {l : List Int} (hs : BSl w v l) (hl : l.length ≤ 140737488351232) (n size at_ : Int) (h0 : 0 ≤ n) (h1 : n < 18446744073709551616) (ha0 : -9223372036854775808 ≤ at_) (ha1 : at_ ≤ 9223372036854775807) (k : Nat) (hk : k = 8) (hsk : size = k) :
    Calls Try.prog 3 #[v, .int .u64 n, .int .i64 size, .int .i64 at_] w fun e w' => e = .returned (.bool true) ∧ Below w.heap.size w w' := by
  obtain ⟨ao, cap, rfl, hcap⟩ := hs.shape
  obtain ⟨P, hP⟩ : ∃ P, P = putS l n size := ⟨_, rfl⟩
  obtain ⟨G, hG⟩ : ∃ G, G = getN l at_ size := ⟨_, rfl⟩
  obtain ⟨B, hB⟩ : ∃ B, B = getB l at_ size := ⟨_, rfl⟩
  have hsz : 1 ≤ size ∧ size ≤ 8 := by omega
  have hP2 : P = l ++ lowB n k := by rw [hP, putS, if_pos hsz, show size.toNat = k by omega]
  have hPlen : P.length = l.length + k := by rw [hP2, List.length_append, lowB_length]
  have hin : 1 ≤ size ∧ size ≤ 8 ∧ (0 : Int) ≤ (l.length : Int) ∧ (l.length : Int) + size ≤ P.length := by omega
  have hZ : n % 256 ^ k = getN P l.length size := by unfold getN; rw [if_pos hin, Int.toNat_natCast, show size.toNat = k by omega, hP2, getV_put l n k h0]
  have hO : true = getB P l.length size := by unfold getB; rw [decide_eq_true hin]
  have hPl : P.length ≤ 140737488355300 := by omega
  clear hP2 hPlen hin
  obtain ⟨Z, hZZ⟩ : ∃ Z, Z = n % 256 ^ k := ⟨_, rfl⟩
  rw [← hZZ] at hZ
  have hZn : Z = n := by rw [hZZ, hk]; exact Int.emod_eq_of_lt h0 h1
  obtain rfl : n = Z := hZn.symm
  have he8 : (size == 8) = true := by simp; omega
  clear hZZ hk hsk

  have hl2 : l.length ≤ 140737488355300 := by omega
  have HP := Lib.hid hP
  have HG := Lib.hid hG
  have HB := Lib.hid hB
  have HZ := Lib.hid hZ
  have HO := Lib.hid hO
  have HPl := Lib.hid hPl
  have HS := Lib.hid hs
  have hb0 : Below w.heap.size w w := Below.refl _ _
  clear hP hG hB hZ hO hPl hs
  go_enter Try.func3, Try.ntmps3
  go_wp2_with (first
    | (go_at_call 6; refine (awake2_any _).mono ?_; rintro e w1 ⟨rfl, hb1⟩)
    | (go_at_call 7; refine (pPut_c (HS.out.below hb1) hl2 n size h0 h1 P HP.out hb1).mono ?_; rintro e u ⟨v2, rfl, hs2, hbu⟩
       have HS2 := Lib.hid hs2; clear hs2)
    | (go_at_call 8; refine (pGet_c HS.out hbu hl2 at_ size ha0 ha1 G B HG.out HB.out).mono ?_; rintro e w2 ⟨rfl, rfl⟩)
    | (go_at_call 9; refine (rGet_c HS.out hbu hl2 at_ size ha0 ha1 G B HG.out HB.out).mono ?_; rintro e w2 ⟨rfl, rfl⟩))
  have hcb := conv_later HS2.out
  have hrefl : ∀ W : World, Below W.heap.size W W := fun W => Below.refl _ _
  have hbd : Below u.heap.size u u.drew := (Below.refl _ _).drew
  have HSu := Lib.hid (HS.out.below hbu)
  have HPC := fun {w' : World} (h : Below u.heap.size u w') => rPut_c HSu.out hl2 n size h0 h1 P HP.out h
  have HGC := fun {w' : World} (h : Below u.heap.size u w') => pGet_c HS2.out h HPl.out l.length size (by omega) (by omega) _ _ HZ.out HO.out
  have HHL := Lib.hid hl
  have HH1 := Lib.hid h1
  have HH0 := Lib.hid h0
  clear hl hl2 h0 h1 ha0 ha1 hb1 hb0
  go_region_held (fun W => Below u.heap.size u W) (go_keep)
    (first | (go_at_call 10; refine (HPC hbd).mono ?_; rintro e w3 ⟨v3, rfl, hcv3, hb3⟩))
  all_goals
    clear HPC
    go_wp2_with (go_at_call 8; refine (HGC hb3).mono ?_; rintro e w4 ⟨rfl, rfl⟩)
    go_ret
    exact ⟨rfl, hbu.trans (hb3.mono hbu.size)⟩

set_option maxHeartbeats 6000000 in
theorem lNumbers_7 {w : World} {v : Value} {l : List Int} (hs : BSl w v l) (hl : l.length ≤ 140737488351232) (n size at_ : Int) (h0 : 0 ≤ n) (h1 : n < 18446744073709551616) (ha0 : -9223372036854775808 ≤ at_) (ha1 : at_ ≤ 9223372036854775807) (k : Nat) (hk1 : 1 ≤ k) (hk : k < 8) (hsk : size = k) :
    Calls Try.prog 3 #[v, .int .u64 n, .int .i64 size, .int .i64 at_] w fun e w' => e = .returned (.bool true) ∧ Below w.heap.size w w' := by
  obtain ⟨ao, cap, rfl, hcap⟩ := hs.shape
  obtain ⟨P, hP⟩ : ∃ P, P = putS l n size := ⟨_, rfl⟩
  obtain ⟨G, hG⟩ : ∃ G, G = getN l at_ size := ⟨_, rfl⟩
  obtain ⟨B, hB⟩ : ∃ B, B = getB l at_ size := ⟨_, rfl⟩
  have hsz : 1 ≤ size ∧ size ≤ 8 := by omega
  have hP2 : P = l ++ lowB n k := by rw [hP, putS, if_pos hsz, show size.toNat = k by omega]
  have hPlen : P.length = l.length + k := by rw [hP2, List.length_append, lowB_length]
  have hin : 1 ≤ size ∧ size ≤ 8 ∧ (0 : Int) ≤ (l.length : Int) ∧ (l.length : Int) + size ≤ P.length := by omega
  have hZ : n % 256 ^ k = getN P l.length size := by unfold getN; rw [if_pos hin, Int.toNat_natCast, show size.toNat = k by omega, hP2, getV_put l n k h0]
  have hO : true = getB P l.length size := by unfold getB; rw [decide_eq_true hin]
  have hPl : P.length ≤ 140737488355300 := by omega
  clear hP2 hPlen hin
  obtain ⟨Z, hZZ⟩ : ∃ Z, Z = n % 256 ^ k := ⟨_, rfl⟩
  rw [← hZZ] at hZ
  have HZZ := Lib.hid hZZ
  have he8 : (size == 8) = false := by simp; omega
  have hs7 : size < 8 := by omega
  have HSK := Lib.hid hsk
  clear hZZ hsk

  have hl2 : l.length ≤ 140737488355300 := by omega
  have HP := Lib.hid hP
  have HG := Lib.hid hG
  have HB := Lib.hid hB
  have HZ := Lib.hid hZ
  have HO := Lib.hid hO
  have HPl := Lib.hid hPl
  have HS := Lib.hid hs
  have hb0 : Below w.heap.size w w := Below.refl _ _
  clear hP hG hB hZ hO hPl hs
  go_enter Try.func3, Try.ntmps3
  go_wp2_with (first
    | (go_at_call 6; refine (awake2_any _).mono ?_; rintro e w1 ⟨rfl, hb1⟩)
    | (go_at_call 7; refine (pPut_c (HS.out.below hb1) hl2 n size h0 h1 P HP.out hb1).mono ?_; rintro e u ⟨v2, rfl, hs2, hbu⟩
       have HS2 := Lib.hid hs2; clear hs2)
    | (go_at_call 8; refine (pGet_c HS.out hbu hl2 at_ size ha0 ha1 G B HG.out HB.out).mono ?_; rintro e w2 ⟨rfl, rfl⟩)
    | (go_at_call 9; refine (rGet_c HS.out hbu hl2 at_ size ha0 ha1 G B HG.out HB.out).mono ?_; rintro e w2 ⟨rfl, rfl⟩))
  have hcb := conv_later HS2.out
  have hrefl : ∀ W : World, Below W.heap.size W W := fun W => Below.refl _ _
  have hbd : Below u.heap.size u u.drew := (Below.refl _ _).drew
  have HSu := Lib.hid (HS.out.below hbu)
  have HPC := fun {w' : World} (h : Below u.heap.size u w') => rPut_c HSu.out hl2 n size h0 h1 P HP.out h
  have HGC := fun {w' : World} (h : Below u.heap.size u w') => pGet_c HS2.out h HPl.out l.length size (by omega) (by omega) _ _ HZ.out HO.out
  have HHL := Lib.hid hl
  have HH1 := Lib.hid h1
  have HH0 := Lib.hid h0
  clear hl hl2 h0 h1 ha0 ha1 hb1 hb0
  go_region_held (fun W => Below u.heap.size u W) (go_keep)
    (first | (go_at_call 10; refine (HPC hbd).mono ?_; rintro e w3 ⟨v3, rfl, hcv3, hb3⟩))
  all_goals
    clear HPC
    go_wp2_with (go_at_call 8; refine (HGC hb3).mono ?_; rintro e w4 ⟨rfl, rfl⟩)
    go_ret
    exact ⟨by rw [mask_true n size Z k HH0.out HH1.out hk HSK.out HZZ.out]; rfl, hbu.trans (hb3.mono hbu.size)⟩

theorem lNumbers_any {w : World} {v : Value} {l : List Int} (hs : BSl w v l) (hl : l.length ≤ 140737488351232) (n size at_ : Int) (h0 : 0 ≤ n) (h1 : n < 18446744073709551616) (ha0 : -9223372036854775808 ≤ at_) (ha1 : at_ ≤ 9223372036854775807) :
    Calls Try.prog 3 #[v, .int .u64 n, .int .i64 size, .int .i64 at_] w fun e w' => e = .returned (.bool true) ∧ Below w.heap.size w w' := by
  by_cases h : size < 1
  · exact lNumbers_lo hs hl n size at_ h0 h1 ha0 ha1 h
  · by_cases h8 : 8 < size
    · exact lNumbers_hi hs hl n size at_ h0 h1 ha0 ha1 h8
    · by_cases he : size = 8
      · exact lNumbers_8 hs hl n size at_ h0 h1 ha0 ha1 8 rfl (by omega)
      · exact lNumbers_7 hs hl n size at_ h0 h1 ha0 ha1 size.toNat (by omega) (by omega) (by omega)

end Go.Proofs.Ytnfbgefkgileiaa
