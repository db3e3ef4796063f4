/- The law BitsRun: awake, and the walk of the law itself. -/
import Derived.Test.YtnifekbdjgklmaaBitsE
import Derived.Deep.LoopGhost
import Derived.OpenShut
namespace Go.Proofs.Ytnifekbdjgklmaa
open Go.RowKit BM

theorem bSet_ok {w : World} {p g : Nat} {L : List Bool} (h : BRow w p g L) (i : Int) (hi : 0 ≤ i ∧ i < L.length) (on : Bool) :
    Calls Try.prog 9 #[.pointer (some ⟨p, 0, none⟩), .int .i64 i, .bool on] w fun e w' =>
      e = .returned (.int .i64 0) ∧ BRow w' p g (L.set i.toNat on) ∧ Wrote w w' g :=
  (bSet_any h i on).mono fun e w' he => by rw [if_pos hi, if_pos hi] at he; exact he

theorem bGet_b {w : World} {p g : Nat} {L : List Bool} (h : BRow w p g L) (i : Int) (b : Bool) (hb : getB L i = b) :
    Calls Try.prog 11 #[.pointer (some ⟨p, 0, none⟩), .int .i64 i] w fun e w' => e = .returned (.bool b) ∧ ∃ m, w' = w.drewN m := by
  rw [← hb]; exact bGet_any h i

theorem below_drewN' {B : Nat} {a w : World} (h : Below B a w) (n : Nat) : Below B a (w.drewN n) := ⟨h.os, h.tape, h.output, h.size, h.block⟩

theorem bNew_ten (w : World) : Calls Try.prog 7 #[.int .i64 10] w fun e w' => e = .returned (.pointer (some ⟨w.heap.size + 1, 0, none⟩)) ∧ BRow w' (w.heap.size + 1) w.heap.size (List.replicate 10 false) ∧ Below w.heap.size w w' :=
  (bNew_any 10 w).mono fun _ _ ⟨h1, h2, h3, _⟩ => ⟨h1, h2, h3⟩

theorem awake1_any (w : World) : Calls Try.prog 6 #[] w fun e w' => e = .returned (.bool true) ∧ Below w.heap.size w w' := by
  go_enter Try.func6, Try.ntmps6
  go_wp2_with (first
    | (go_at_call 7; refine (bNew_ten w).mono ?_; rintro e w1 ⟨rfl, hr1, hb1⟩)
    | (go_at_call 9; refine (bSet_ok hr1 9 (by decide) true).mono ?_; rintro e w2 ⟨rfl, hr2, hb2⟩)
    | (go_at_call 11; refine (bGet_b hr2 9 true (by decide)).mono ?_; rintro e w3 ⟨rfl, m3, rfl⟩)
    | (go_at_call 21; refine (bLen_row (hr2.drewN m3)).mono ?_; rintro e w4 ⟨rfl, rfl⟩))
  go_ret
  exact ⟨rfl, below_drewN' (hb1.trans (hb2.below (Nat.le_refl _))) m3⟩


theorem awake1_from {w0 w : World} (hb : Below w0.heap.size w0 w) : Calls Try.prog 6 #[] w fun e w' => e = .returned (.bool true) ∧ Below w0.heap.size w0 w' :=
  (awake1_any w).mono fun _ _ ⟨h1, h2⟩ => ⟨h1, hb.trans (h2.mono hb.size)⟩

theorem bRun_nat {w : World} {p g : Nat} {L : List Bool} (h : BRow w p g L) (n : Int) (S : Int) (hS : S = runS L n) :
    Calls Try.prog 15 #[.pointer (some ⟨p, 0, none⟩), .int .i64 n] w fun e w' => e = .returned (.int .i64 S) ∧ ∃ m, w' = w.drewN m := by
  rw [hS]; exact bRun_any h n

theorem bOf_bad' {w0 w : World} {v : Value} {l : List Int} (hs : BSl w0 v l) (hb : Below w0.heap.size w0 w) (n : Nat) (h1 : n ≤ 4096) (hg : ¬ BGood n l) :
    Calls Try.prog 18 #[.int .i64 n, v] w fun e w' => e = .returned (.tuple #[.pointer none, .int .i64 18]) ∧ w = w' := bOf_bad (hs.below hb) n h1 hg
theorem bOf_good' {w0 w : World} {v : Value} {l : List Int} (hs : BSl w0 v l) (hb : Below w0.heap.size w0 w) (n : Nat) (h1 : n ≤ 4096) (hg : BGood n l) :
    Calls Try.prog 18 #[.int .i64 n, v] w fun e w' => ∃ p g, e = .returned (.tuple #[.pointer (some ⟨p, 0, none⟩), .int .i64 0]) ∧
      BRow w' p g (bitsOf n l) ∧ Below w0.heap.size w0 w' :=
  (bOf_good (hs.below hb) n h1 hg).mono fun _ _ ⟨p, g, h1, h2, h3, _, _⟩ => ⟨p, g, h1, h2, hb.trans (h3.mono hb.size)⟩

theorem lRun_long (n m : Int) (ao : Option Addr) (len cap : Nat) (w : World) (h : 1000 < len) :
    Calls Try.prog 5 #[.int .i64 n, .slice ao len cap, .int .u8 m] w fun e w' => e = .returned (.bool true) ∧ Below w.heap.size w w' := by
  have hb00 : Below w.heap.size w w := Below.refl _ _
  go_enter Try.func5, Try.ntmps5
  go_wp2_with (go_at_call 6; refine (awake1_from (by assumption)).mono ?_; rintro e w1 ⟨rfl, hb⟩)
  go_ret
  exact ⟨rfl, hb⟩

theorem lRun_range {w : World} {v : Value} {l : List Int} (hs : BSl w v l) (n m : Int) (hl : l.length ≤ 1000) (h : n < 0 ∨ 4096 < n) :
    Calls Try.prog 5 #[.int .i64 n, v, .int .u8 m] w fun e w' => e = .returned (.bool true) ∧ Below w.heap.size w w' := by
  obtain ⟨ao, cap, rfl⟩ := hs.shape
  go_enter Try.func5, Try.ntmps5
  go_wp2_with (first
    | (go_at_call 6; refine (awake1_any _).mono ?_; rintro e w1 ⟨rfl, hb⟩)
    | (go_at_call 18; refine (bOf_range n _ _ h).mono ?_; rintro e w2 ⟨rfl, rfl⟩))
  go_ret
  exact ⟨rfl, hb⟩

theorem lRun_bad {w : World} {v : Value} {l : List Int} (hs : BSl w v l) (n : Nat) (m : Int) (hl : l.length ≤ 1000) (h1 : n ≤ 4096) (hg : ¬ BGood n l) :
    Calls Try.prog 5 #[.int .i64 n, v, .int .u8 m] w fun e w' => e = .returned (.bool true) ∧ Below w.heap.size w w' := by
  obtain ⟨ao, cap, rfl⟩ := hs.shape
  go_enter Try.func5, Try.ntmps5
  go_wp2_with (first
    | (go_at_call 6; refine (awake1_any _).mono ?_; rintro e w1 ⟨rfl, hb⟩)
    | (go_at_call 18; refine (bOf_bad' hs hb n h1 hg).mono ?_; rintro e w2 ⟨rfl, rfl⟩))
  go_ret
  exact ⟨rfl, hb⟩

theorem bOf_L {w0 w : World} {v : Value} {l : List Int} (hs : BSl w0 v l) (hb : Below w0.heap.size w0 w) (n : Nat) (h1 : n ≤ 4096) (hg : BGood n l) (L : List Bool) (hL : bitsOf n l = L) :
    Calls Try.prog 18 #[.int .i64 n, v] w fun e w' => ∃ p g, e = .returned (.tuple #[.pointer (some ⟨p, 0, none⟩), .int .i64 0]) ∧ BRow w' p g L ∧ Below w0.heap.size w0 w' := by
  rw [← hL]; exact bOf_good' hs hb n h1 hg
theorem bLen_n {w : World} {p g : Nat} {L : List Bool} (h : BRow w p g L) (m n : Nat) (hn : L.length = n) :
    Calls Try.prog 21 #[.pointer (some ⟨p, 0, none⟩)] (w.drewN m) fun e w' => e = .returned (.int .i64 n) ∧ w.drewN m = w' := by
  rw [← hn]; exact bLen_row (h.drewN m)
theorem bGet_at {w : World} {p g : Nat} {L : List Bool} (h : BRow w p g L) (c d : Nat) (n : Nat) (b : Bool) (hb : L.getD (c + d) false = b) :
    Calls Try.prog 11 #[.pointer (some ⟨p, 0, none⟩), .int .i64 ((c : Int) + d)] (w.drewN n) fun e w' => e = .returned (.bool b) ∧ ∃ m, w' = w.drewN m :=
  bGet_val h (c + d) n b hb

set_option maxHeartbeats 1000000 in
theorem lRun_none {w : World} {v : Value} {l : List Int} (hs : BSl w v l) (n : Nat) (m : Int) (hl : l.length ≤ 1000) (h1 : n ≤ 4096) (hg : BGood n l) (hm0 : 0 ≤ m) (hm1 : m ≤ 255)
    (S : Int) (hS : S = runS (bitsOf n l) (1 + m % 40)) (hneg : S < 0) (hno : ∀ s, ¬ isRun (bitsOf n l) (1 + m % 40).toNat s) :
    Calls Try.prog 5 #[.int .i64 n, v, .int .u8 m] w fun e w' => e = .returned (.bool true) ∧ Below w.heap.size w w' := by
  obtain ⟨ao, cap, rfl⟩ := hs.shape
  obtain ⟨L, hL⟩ : ∃ L, bitsOf n l = L := ⟨_, rfl⟩
  have hLn := length_bitsOf n l
  rw [hL] at hS hno hLn
  have HS := Lib.hid hS
  have HL := Lib.hid hL
  have HN := Lib.hid hno
  have HLn := Lib.hid hLn
  have hdS : decide ((0 : Int) ≤ S) = false := by simpa using hneg
  have hdl : decide ((1000 : Int) < (l.length : Int)) = false := by simp; omega
  clear hS hL hno hLn
  go_enter Try.func5, Try.ntmps5
  go_wp2_with (first
    | (go_at_call 6; refine (awake1_any _).mono ?_; rintro e w1 ⟨rfl, hb⟩)
    | (go_at_call 18; refine (bOf_L hs hb n h1 hg L HL.out).mono ?_; rintro e w2 ⟨p, g, rfl, hr, hb2⟩)
    | (go_at_call 15; refine (bRun_nat hr _ S HS.out).mono ?_; rintro e w3 ⟨rfl, m3, rfl⟩)
    | (go_at_call 21; refine (bLen_n hr _ n HLn.out).mono ?_; rintro e w4 ⟨rfl, rfl⟩))
  go_loopw [62] (fun i wr => ∃ c : Nat, c ≤ n ∧ i = .int .i64 c ∧ ∃ m, wr = w2.drewN m) (fun i _ => n - (intOf i).toNat)
  case atStart => exact ⟨0, by omega, rfl, m3, rfl⟩
  case round =>
    obtain ⟨c, hc, rfl, m4, rfl⟩ := hrel
    by_cases hlt : c < n
    · go_wp2_with fail
      go_loopw [13] (fun f wr => ∃ d : Nat, (d : Int) ≤ 1 + m % 40 ∧ c + d ≤ n ∧ f = .int .i64 d ∧ Hid (∀ j, c ≤ j → j < c + d → L.getD j false = false) ∧ ∃ m, wr = w2.drewN m) (fun f _ => n - (intOf f).toNat)
      case atStart => exact ⟨0, by omega, by omega, rfl, fun j h1 h2 => by omega, m4, rfl⟩
      case round =>
        obtain ⟨d, hd, hcd, rfl, hz, m5, rfl⟩ := hrel
        have hdk : (d : Int) < 1 + m % 40 := by
          by_cases e : (d : Int) = 1 + m % 40
          · exact absurd (⟨by rw [HLn.out]; omega, fun j h1 h2 => hz.out j h1 (by omega)⟩ : isRun L (1 + m % 40).toNat c) (HN.out c)
          · omega
        have hne : ((d : Int) == 1 + m % 40) = false := by simp; omega
        by_cases hcn : c + d < n
        · cases hb : L.getD (c + d) false
          · have HB := Lib.hid hb
            clear hb
            go_wp2_with (first
              | (go_at_call 21; refine (bLen_n hr _ n HLn.out).mono ?_; rintro e w4 ⟨rfl, rfl⟩)
              | (go_at_call 11; refine (bGet_at hr c d _ false HB.out).mono ?_; rintro e w' ⟨rfl, m6, rfl⟩))
            go_roundw
            case rel =>
              refine ⟨d + 1, by omega, by omega, by go_num, fun j h1 h2 => ?_, m6, rfl⟩
              by_cases e : j = c + d
              · rw [e]; exact HB.out
              · exact hz.out j h1 (by omega)
            case measure => simp [intOf]; omega
          · have HB := Lib.hid hb
            clear hb
            go_wp2_with (first
              | (go_at_call 21; refine (bLen_n hr _ n HLn.out).mono ?_; rintro e w4 ⟨rfl, rfl⟩)
              | (go_at_call 11; refine (bGet_at hr c d _ true HB.out).mono ?_; rintro e w' ⟨rfl, m6, rfl⟩))
            go_roundw
            case rel => first | exact ⟨c + 1, by omega, by go_num, m6, rfl⟩ | ((repeat apply Exists.intro); exact ⟨⟨c + 1, by omega, by go_num, m6, rfl⟩, rfl⟩)
            case measure => simp [intOf]; omega
        · have _hcn2 : (n : Int) ≤ (c : Int) + d := by omega
          go_wp2_with (go_at_call 21; refine (bLen_n hr _ n HLn.out).mono ?_; rintro e w4 ⟨rfl, rfl⟩)
          go_roundw
          case rel => first | exact ⟨c + 1, by omega, by go_num, m5, rfl⟩ | ((repeat apply Exists.intro); exact ⟨⟨c + 1, by omega, by go_num, m5, rfl⟩, rfl⟩)
          case measure => simp [intOf]; omega
    · go_wp2_with fail
      go_ret
      exact ⟨rfl, below_drewN' hb2 m4⟩

set_option maxHeartbeats 1000000 in
theorem lRun_some {w : World} {v : Value} {l : List Int} (hs : BSl w v l) (n : Nat) (m : Int) (hl : l.length ≤ 1000) (h1 : n ≤ 4096) (hg : BGood n l) (hm0 : 0 ≤ m) (hm1 : m ≤ 255)
    (s : Nat) (hS : (s : Int) = runS (bitsOf n l) (1 + m % 40)) (hrun : isRun (bitsOf n l) (1 + m % 40).toNat s) (hno : ∀ t, t < s → ¬ isRun (bitsOf n l) (1 + m % 40).toNat t) :
    Calls Try.prog 5 #[.int .i64 n, v, .int .u8 m] w fun e w' => e = .returned (.bool true) ∧ Below w.heap.size w w' := by
  obtain ⟨ao, cap, rfl⟩ := hs.shape
  obtain ⟨L, hL⟩ : ∃ L, bitsOf n l = L := ⟨_, rfl⟩
  have hLn := length_bitsOf n l
  rw [hL] at hS hno hLn hrun
  have _hsn : (s : Int) + (1 + m % 40) ≤ n := by have := hrun.1; omega
  have HR := Lib.hid hrun.2
  have HS := Lib.hid hS
  have HL := Lib.hid hL
  have HN := Lib.hid hno
  have HLn := Lib.hid hLn
  have hdS : decide ((0 : Int) ≤ (s : Int)) = true := by simp
  have hdl : decide ((1000 : Int) < (l.length : Int)) = false := by simp; omega
  clear hS hL hno hLn hrun
  go_enter Try.func5, Try.ntmps5
  go_wp2_with (first
    | (go_at_call 6; refine (awake1_any _).mono ?_; rintro e w1 ⟨rfl, hb⟩)
    | (go_at_call 18; refine (bOf_L hs hb n h1 hg L HL.out).mono ?_; rintro e w2 ⟨p, g, rfl, hr, hb2⟩)
    | (go_at_call 15; refine (bRun_nat hr _ s HS.out).mono ?_; rintro e w3 ⟨rfl, m3, rfl⟩)
    | (go_at_call 21; refine (bLen_n hr _ n HLn.out).mono ?_; rintro e w4 ⟨rfl, rfl⟩))
  go_loopw [43] (fun i wr => ∃ c : Nat, (c : Int) ≤ 1 + m % 40 ∧ i = .int .i64 c ∧ ∃ m, wr = w2.drewN m) (fun i _ => 40 - (intOf i).toNat)
  case atStart => exact ⟨0, by omega, rfl, m3, rfl⟩
  case round =>
    obtain ⟨c, hc, rfl, m4, rfl⟩ := hrel
    by_cases hck : (c : Int) < 1 + m % 40
    · have HB := Lib.hid (HR.out (s + c) (by omega) (by omega))
      go_wp2_with (first
        | (go_at_call 21; refine (bLen_n hr _ n HLn.out).mono ?_; rintro e w4 ⟨rfl, rfl⟩)
        | (go_at_call 11; refine (bGet_at hr s c _ false HB.out).mono ?_; rintro e w' ⟨rfl, m6, rfl⟩))
      go_roundw
      case rel => exact ⟨c + 1, by omega, by go_num, m6, rfl⟩
      case measure => simp [intOf]; omega
    · go_wp2_with (go_at_call 21; refine (bLen_n hr _ n HLn.out).mono ?_; rintro e w4 ⟨rfl, rfl⟩)
      go_loopw [62] (fun i wr => ∃ c : Nat, c ≤ n ∧ c ≤ s ∧ i = .int .i64 c ∧ ∃ m, wr = w2.drewN m) (fun i _ => n - (intOf i).toNat)
      case atStart => exact ⟨0, by omega, by omega, rfl, m4, rfl⟩
      case round =>
        obtain ⟨c, hc, hcs0, rfl, m4, rfl⟩ := hrel
        by_cases hlt : c < s
        · have _hltn : c < n := by omega
          have hdc : decide (s ≤ c) = false := by simp; omega
          go_wp2_with fail
          go_loopw [13] (fun f wr => ∃ d : Nat, (d : Int) ≤ 1 + m % 40 ∧ c + d ≤ n ∧ f = .int .i64 d ∧ Hid (∀ j, c ≤ j → j < c + d → L.getD j false = false) ∧ ∃ m, wr = w2.drewN m) (fun f _ => n - (intOf f).toNat)
          case atStart => exact ⟨0, by omega, by omega, rfl, fun j h1 h2 => by omega, m4, rfl⟩
          case round =>
            obtain ⟨d, hd, hcd, rfl, hz, m5, rfl⟩ := hrel
            have hdk : (d : Int) < 1 + m % 40 := by
              by_cases e : (d : Int) = 1 + m % 40
              · exact absurd (⟨by rw [HLn.out]; omega, fun j h1 h2 => hz.out j h1 (by omega)⟩ : isRun L (1 + m % 40).toNat c) (HN.out c hlt)
              · omega
            have hne : ((d : Int) == 1 + m % 40) = false := by simp; omega
            by_cases hcn : c + d < n
            · cases hb : L.getD (c + d) false
              · have HB := Lib.hid hb
                clear hb
                go_wp2_with (first
                  | (go_at_call 21; refine (bLen_n hr _ n HLn.out).mono ?_; rintro e w4 ⟨rfl, rfl⟩)
                  | (go_at_call 11; refine (bGet_at hr c d _ false HB.out).mono ?_; rintro e w' ⟨rfl, m6, rfl⟩))
                go_roundw
                case rel =>
                  refine ⟨d + 1, by omega, by omega, by go_num, fun j h1 h2 => ?_, m6, rfl⟩
                  by_cases e : j = c + d
                  · rw [e]; exact HB.out
                  · exact hz.out j h1 (by omega)
                case measure => simp [intOf]; omega
              · have HB := Lib.hid hb
                clear hb
                go_wp2_with (first
                  | (go_at_call 21; refine (bLen_n hr _ n HLn.out).mono ?_; rintro e w4 ⟨rfl, rfl⟩)
                  | (go_at_call 11; refine (bGet_at hr c d _ true HB.out).mono ?_; rintro e w' ⟨rfl, m6, rfl⟩))
                go_roundw
                case rel => first | exact ⟨c + 1, by omega, by omega, by go_num, m6, rfl⟩ | ((repeat apply Exists.intro); exact ⟨⟨c + 1, by omega, by omega, by go_num, m6, rfl⟩, rfl⟩)
                case measure => simp [intOf]; omega
            · omega
        · have _hsc : (s : Int) ≤ c := by omega
          have _hcn : c < n := by omega
          go_wp2_with fail
          go_ret
          exact ⟨rfl, below_drewN' hb2 m4⟩


/-- A []byte that came in, as the shell's frame tells it. -/
theorem bsl_of {w : World} {a : Option Addr} {len cap : Nat} {zs : List Int}
    (h : (a = none ∧ len = 0 ∧ cap = 0 ∧ zs = []) ∨ ∃ x, a = some x ∧ len ≤ cap ∧ cap ≤ maxLen ∧ zs.length = cap ∧ (∀ i, i < zs.length → w.cell? (x.add i) = some (.int .u8 (zs.getD i 0))) ∧ ∀ n ∈ zs, (Lit.int .u8 n).wf = true) :
    BSl w (.slice a len cap) (zs.take len) := by
  rcases h with ⟨rfl, rfl, rfl, rfl⟩ | ⟨x, rfl, hl, hm, hz, hc, hwz⟩
  · exact ⟨fun j => by simp, .inl ⟨rfl, rfl⟩⟩
  · have hlen : (zs.take len).length = len := by simp; omega
    have hget : ∀ j, j < len → (zs.take len).getD j 0 = zs.getD j 0 := fun j hj => by
      simp [List.getD_eq_getElem?_getD, hj]
    refine ⟨fun j => ?_, .inr ⟨x, cap, by rw [hlen], fun j hj => ?_⟩⟩
    · by_cases hj : j < len
      · rw [hget j hj]
        have hjz : j < zs.length := by omega
        have hmem : zs.getD j 0 ∈ zs := by simp [List.getD_eq_getElem?_getD, hjz]
        exact bounds_u8 (hwz _ hmem)
      · rw [List.getD_eq_getElem?_getD, List.getElem?_eq_none (by omega)]
        exact ⟨by decide, by decide⟩
    · rw [hlen] at hj
      have h0 := hc j (by omega)
      obtain ⟨b, off, spot⟩ := x
      have hspot : spot = none := by
        have h00 := hc 0 (by omega)
        simpa [Addr.add] using World.cell?_spot h00
      subst hspot
      rw [Addr.add_lit] at h0
      exact ⟨by have := block_lt_of_cell h0; exact this, rfl, by rw [hget j hj]; exact h0⟩

theorem lRun_any {w : World} {v : Value} {l : List Int} (hs : BSl w v l) (n m : Int) (hm0 : 0 ≤ m) (hm1 : m ≤ 255) :
    Calls Try.prog 5 #[.int .i64 n, v, .int .u8 m] w fun e w' => e = .returned (.bool true) ∧ Below w.heap.size w w' := by
  by_cases hl : l.length ≤ 1000
  · by_cases h : 0 ≤ n ∧ n ≤ 4096
    · obtain ⟨k, rfl⟩ : ∃ k : Nat, n = k := ⟨n.toNat, by omega⟩
      by_cases hg : BGood k l
      · have hsp := runS_spec (bitsOf k l) (1 + m % 40).toNat (by omega)
        rw [show (((1 + m % 40).toNat : Nat) : Int) = 1 + m % 40 by omega] at hsp
        rcases hsp with ⟨h1, h2⟩ | ⟨s, h1, h2, h3⟩
        · exact lRun_none hs k m hl (by omega) hg hm0 hm1 (-1) h1.symm (by omega) h2
        · exact lRun_some hs k m hl (by omega) hg hm0 hm1 s h1.symm h2 h3
      · exact lRun_bad hs k m hl (by omega) hg
    · exact lRun_range hs n m hl (by omega)
  · obtain ⟨ao, cap, rfl⟩ := hs.shape
    exact lRun_long n m ao _ cap w (by omega)

end Go.Proofs.Ytnifekbdjgklmaa
