/- The law BitsPlay: the walk of the law itself. -/
import Derived.Test.YtnifekbdjgklmaaLawOf
import Derived.Deep.RegionHeld3
namespace Go.Proofs.Ytnifekbdjgklmaa
open Go.RowKit BM

/-- A value of type []Op that reads as the calls S (kind, bit, on). -/
def OpSl (w : World) (v : Value) (S : List (Int × Int × Bool)) : Prop :=
  (v = .slice none 0 0 ∧ S = []) ∨ ∃ a cap, v = .slice (some a) S.length cap ∧ ∀ i, i < S.length → a.block < w.heap.size ∧ a.spot = none ∧
    w.cell? ⟨a.block, a.off + i * 3, none⟩ = some (.int .i64 (S.getD i (0, 0, false)).1) ∧ w.cell? ⟨a.block, a.off + i * 3 + 1, none⟩ = some (.int .i64 (S.getD i (0, 0, false)).2.1) ∧
    w.cell? ⟨a.block, a.off + i * 3 + 2, none⟩ = some (.bool (S.getD i (0, 0, false)).2.2)

/-- The code's row and the reference's are the same bits. -/
def Pair (w0 w : World) (p g q r : Nat) (L : List Bool) : Prop :=
  BRow w p g L ∧ RRow w q r L ∧ g ≠ q ∧ g ≠ r ∧ r ≠ p ∧ w0.heap.size ≤ g ∧ w0.heap.size ≤ r ∧ Below w0.heap.size w0 w

theorem Wrote.cell {w w' : World} {g B o : Nat} (h : Wrote w w' g) (hB : B ≠ g) : w'.cell? ⟨B, o, none⟩ = w.cell? ⟨B, o, none⟩ := World.cell?_of_block (h.2.2.2.2 B hB)

theorem bNew_p (n : Int) {w0 w : World} (hb : Below w0.heap.size w0 w) :
    Calls Try.prog 7 #[.int .i64 n] w fun e w' => ∃ p g, e = .returned (.pointer (some ⟨p, 0, none⟩)) ∧ BRow w' p g (List.replicate (clampN n) false) ∧ w0.heap.size ≤ g ∧ Below w0.heap.size w0 w' :=
  (bNew_any n w).mono fun _ _ ⟨he, h1, h2, _⟩ => ⟨_, _, he, h1, hb.size, hb.trans (h2.mono hb.size)⟩
theorem rNew_p (n : Int) {w0 w : World} (hb : Below w0.heap.size w0 w) {p g : Nat} {L : List Bool} (h : BRow w p g L) (hg : w0.heap.size ≤ g) (hL : L = List.replicate (clampN n) false) :
    Calls Try.prog 8 #[.int .i64 n] w fun e w' => ∃ q r, e = .returned (.pointer (some ⟨q, 0, none⟩)) ∧ Pair w0 w' p g q r L :=
  (rNew_any n w).mono fun _ _ ⟨he, h1, h2, _⟩ => ⟨_, _, he, h.below h2 h.lt.1 h.lt.2, by rw [hL]; exact h1, by have := h.lt; omega, by have := h.lt; omega, by have := h.lt; omega, hg, hb.size, hb.trans (h2.mono hb.size)⟩

theorem lPlay_long (n : Int) (ao : Option Addr) (len cap : Nat) (w : World) (h : 200 < len) :
    Calls Try.prog 3 #[.int .i64 n, .slice ao len cap] w fun e w' => e = .returned (.bool true) ∧ Below w.heap.size w w' := by
  have hb00 : Below w.heap.size w w := Below.refl _ _
  go_enter Try.func3, Try.ntmps3
  go_wp2_with (go_at_call 6; refine (awake1_from (by assumption)).mono ?_; rintro e w1 ⟨rfl, hb⟩)
  go_ret
  exact ⟨rfl, hb⟩

theorem same1_p {w0 w : World} {p g q r : Nat} {L : List Bool} (h : Pair w0 w p g q r L) :
    Calls Try.prog 17 #[.pointer (some ⟨p, 0, none⟩), .pointer (some ⟨q, 0, none⟩)] w fun e w' => e = .returned (.bool true) ∧ Below w0.heap.size w0 w' :=
  (same1_any h.1 h.2.1).mono fun _ _ ⟨he, hb⟩ => ⟨he, h.2.2.2.2.2.2.2.trans (hb.mono h.2.2.2.2.2.2.2.size)⟩

theorem lPlay_zero (n : Int) (ao : Option Addr) (cap : Nat) (w : World) :
    Calls Try.prog 3 #[.int .i64 n, .slice ao 0 cap] w fun e w' => e = .returned (.bool true) ∧ Below w.heap.size w w' := by
  obtain ⟨L, hL⟩ : ∃ L, L = List.replicate (clampN n) false := ⟨_, rfl⟩
  have HL := Lib.hid hL
  go_enter Try.func3, Try.ntmps3
  go_wp2_with (first
    | (go_at_call 6; refine (awake1_any _).mono ?_; rintro e w1 ⟨rfl, hb⟩)
    | (go_at_call 7; refine (bNew_p n hb).mono ?_; rw [← HL.out]; rintro e w2 ⟨p, g, rfl, hr2, hg2, hb2⟩)
    | (go_at_call 8; refine (rNew_p n hb2 hr2 hg2 HL.out).mono ?_; rintro e w3 ⟨q, r, rfl, hp3⟩))
  refine wp_loop_rounds 1 ?_
  rw [rounds_succ]
  go_wp2_with (go_at_call 17; refine (same1_p hp3).mono ?_; rintro e w4 ⟨rfl, hb4⟩)
  go_ret
  exact ⟨rfl, hb4⟩

theorem Pair.later {w0 u W : World} {p g q r : Nat} {L : List Bool} (h : Pair w0 u p g q r L) (hb : Below u.heap.size u W) : Pair w0 W p g q r L :=
  ⟨h.1.below hb h.1.lt.1 h.1.lt.2, h.2.1.below hb h.2.1.lt.1 h.2.1.lt.2, h.2.2.1, h.2.2.2.1, h.2.2.2.2.1, h.2.2.2.2.2.1, h.2.2.2.2.2.2.1, h.2.2.2.2.2.2.2.trans (hb.mono h.2.2.2.2.2.2.2.size)⟩

/-- The box of the call at hand. -/
def Box (w : World) (B : Nat) (kind bit : Int) (on : Bool) : Prop :=
  w.cell? ⟨B, 0, none⟩ = some (.int .i64 kind) ∧ w.cell? ⟨B, 1, none⟩ = some (.int .i64 bit) ∧ w.cell? ⟨B, 2, none⟩ = some (.bool on)
theorem Box.later {w w' : World} {B : Nat} {kind bit : Int} {on : Bool} (h : Box w B kind bit on) (hB : w'.heap[B]? = w.heap[B]?) : Box w' B kind bit on :=
  ⟨(World.cell?_of_block hB).trans h.1, (World.cell?_of_block hB).trans h.2.1, (World.cell?_of_block hB).trans h.2.2⟩

/-- The code's row has been set, the reference's not yet. -/
def Half (w0 w : World) (p g q r : Nat) (L' L : List Bool) : Prop :=
  BRow w p g L' ∧ RRow w q r L ∧ g ≠ q ∧ g ≠ r ∧ r ≠ p ∧ w0.heap.size ≤ g ∧ w0.heap.size ≤ r ∧ Below w0.heap.size w0 w

theorem bSet_p {w0 u : World} {p g q r B : Nat} {L : List Bool} (h : Pair w0 u p g q r L) (kind bit : Int) (on : Bool) (hx : Box u B kind bit on) (hB : B ≠ g)
    (E : Int) (hE : E = if 0 ≤ bit ∧ bit < L.length then 0 else 1) (L' : List Bool) (hL' : L' = if 0 ≤ bit ∧ bit < L.length then L.set bit.toNat on else L) :
    Calls Try.prog 9 #[.pointer (some ⟨p, 0, none⟩), .int .i64 bit, .bool on] u fun e w' => e = .returned (.int .i64 E) ∧ Half w0 w' p g q r L' L ∧ Box w' B kind bit on :=
  (bSet_any h.1 bit on).mono fun _ _ ⟨he, h1, h2⟩ => ⟨by rw [he, hE], ⟨by rw [hL']; exact h1, h.2.1.of_heap (h2.2.2.2.2 q (Ne.symm h.2.2.1)) (h2.2.2.2.2 r (Ne.symm h.2.2.2.1)), h.2.2.1, h.2.2.2.1, h.2.2.2.2.1, h.2.2.2.2.2.1, h.2.2.2.2.2.2.1,
    h.2.2.2.2.2.2.2.trans (h2.below h.2.2.2.2.2.1)⟩, hx.later (h2.2.2.2.2 B hB)⟩
theorem rSet_p {w0 u : World} {p g q r B : Nat} {L' L : List Bool} (h : Half w0 u p g q r L' L) (kind bit : Int) (on : Bool) (hx : Box u B kind bit on) (hB : B ≠ r)
    (E : Int) (hE : E = if 0 ≤ bit ∧ bit < L.length then 0 else 1) (hL' : L' = if 0 ≤ bit ∧ bit < L.length then L.set bit.toNat on else L) :
    Calls Try.prog 10 #[.pointer (some ⟨q, 0, none⟩), .int .i64 bit, .bool on] u fun e w' => e = .returned (.int .i64 E) ∧ Pair w0 w' p g q r L' ∧ Box w' B kind bit on :=
  (rSet_any h.2.1 bit on).mono fun _ _ ⟨he, h1, h2⟩ => ⟨by rw [he, hE], ⟨h.1.of_heap (h2.2.2.2.2 p (Ne.symm h.2.2.2.2.1)) (h2.2.2.2.2 g h.2.2.2.1), by rw [hL']; exact h1, h.2.2.1, h.2.2.2.1, h.2.2.2.2.1, h.2.2.2.2.2.1, h.2.2.2.2.2.2.1,
    h.2.2.2.2.2.2.2.trans (h2.below h.2.2.2.2.2.2.1)⟩, hx.later (h2.2.2.2.2 B hB)⟩

theorem bGet_c {w0 w : World} {p g : Nat} {L : List Bool} (h : BRow w0 p g L) (i : Int) (G : Bool) (hG : G = getB L i) (hb : Below w0.heap.size w0 w) :
    Calls Try.prog 11 #[.pointer (some ⟨p, 0, none⟩), .int .i64 i] w fun e w' => e = .returned (.bool G) ∧ Below w0.heap.size w0 w' :=
  (bGet_any (h.below hb h.lt.1 h.lt.2) i).mono fun _ _ ⟨he, m, hw⟩ => ⟨by rw [he, hG], by rw [hw]; exact below_drewN' hb m⟩
theorem rGet_c {w0 w : World} {p g : Nat} {L : List Bool} (h : RRow w0 p g L) (i : Int) (G : Bool) (hG : G = getB L i) (hb : Below w0.heap.size w0 w) :
    Calls Try.prog 12 #[.pointer (some ⟨p, 0, none⟩), .int .i64 i] w fun e w' => e = .returned (.bool G) ∧ Below w0.heap.size w0 w' :=
  (rGet_any (h.below hb h.lt.1 h.lt.2) i).mono fun _ _ ⟨he, hw⟩ => ⟨by rw [he, hG], by rw [← hw]; exact hb⟩
theorem cell_c {w0 w : World} {B o : Nat} {v : Value} (h : w0.cell? ⟨B, o, none⟩ = some v) (hb : Below w0.heap.size w0 w) : w.cell? ⟨B, o, none⟩ = some v := by
  rw [hb.cell (p := ⟨B, o, none⟩) (by have := block_lt_of_cell h; exact this)]; exact h

set_option maxHeartbeats 4000000 in
theorem lPlay_some (n : Int) (b off len cap : Nat) (S : List (Int × Int × Bool)) (w : World) (_hlen : S.length = len) (h200 : len ≤ 200) (hbk : b < w.heap.size)
    (hc : ∀ i, i < len → w.cell? ⟨b, off + i * 3, none⟩ = some (.int .i64 (S.getD i (0, 0, false)).1) ∧ w.cell? ⟨b, off + i * 3 + 1, none⟩ = some (.int .i64 (S.getD i (0, 0, false)).2.1) ∧
      w.cell? ⟨b, off + i * 3 + 2, none⟩ = some (.bool (S.getD i (0, 0, false)).2.2)) :
    Calls Try.prog 3 #[.int .i64 n, .slice (some ⟨b, off, none⟩) len cap] w fun e w' => e = .returned (.bool true) ∧ Below w.heap.size w w' := by
  obtain ⟨L0, hL⟩ : ∃ L, L = List.replicate (clampN n) false := ⟨_, rfl⟩
  have HL := Lib.hid hL
  have HC := Lib.hid hc
  clear hc hL
  go_enter Try.func3, Try.ntmps3
  go_wp2_with (first
    | (go_at_call 6; refine (awake1_any _).mono ?_; rintro e w1 ⟨rfl, hb⟩)
    | (go_at_call 7; refine (bNew_p n hb).mono ?_; rw [← HL.out]; rintro e w2 ⟨p, g, rfl, hr2, hg2, hb2⟩)
    | (go_at_call 8; refine (rNew_p n hb2 hr2 hg2 HL.out).mono ?_; rintro e w3 ⟨q, r, rfl, hp3⟩))
  go_loopw [23] (fun i wr => ∃ (k : Nat) (L : List Bool), k ≤ len ∧ i = .int .i64 k ∧ Pair w wr p g q r L) (fun i _ => len - (intOf i).toNat)
  case atStart => exact ⟨0, L0, by omega, rfl, hp3⟩
  case round =>
    obtain ⟨k, L, hk, rfl, hp⟩ := hrel
    by_cases hlt : k < len
    · obtain ⟨c0, c1, c2⟩ := HC.out k hlt
      have hbw := hp.2.2.2.2.2.2.2
      have d0 := (hbw.cell (p := ⟨b, off + k * 3, none⟩) hbk).trans c0
      have d1 := (hbw.cell (p := ⟨b, off + k * 3 + 1, none⟩) hbk).trans c1
      have d2 := (hbw.cell (p := ⟨b, off + k * 3 + 2, none⟩) hbk).trans c2
      clear c0 c1 c2
      generalize (S.getD k (0, 0, false)).1 = kind at d0
      generalize (S.getD k (0, 0, false)).2.1 = bit at d1
      generalize (S.getD k (0, 0, false)).2.2 = on at d2
      have hlp := hp.1.lt
      have hlr := hp.2.1.lt
      have hbox : Box (wr.alloc (.cells #[.int .i64 kind, .int .i64 bit, .bool on] 29)) wr.heap.size kind bit on :=
        ⟨by rw [World.cell?_alloc_at _ _ _ _ rfl]; rfl, by rw [World.cell?_alloc_at _ _ _ _ rfl]; rfl, by rw [World.cell?_alloc_at _ _ _ _ rfl]; rfl⟩
      have hpu : Pair w (wr.alloc (.cells #[.int .i64 kind, .int .i64 bit, .bool on] 29)) p g q r L := hp.later ((Below.refl _ _).alloc (Nat.le_refl _) _)
      obtain ⟨E, hE⟩ : ∃ E : Int, E = if 0 ≤ bit ∧ bit < L.length then 0 else 1 := ⟨_, rfl⟩
      obtain ⟨L', hL'⟩ : ∃ L', L' = if 0 ≤ bit ∧ bit < L.length then L.set bit.toNat on else L := ⟨_, rfl⟩
      have HE := Lib.hid hE
      have HL' := Lib.hid hL'
      have HBox := Lib.hid hbox
      have hBg : wr.heap.size ≠ g := by omega
      have hBr : wr.heap.size ≠ r := by omega
      have HBg := Lib.hid hBg
      have HBr := Lib.hid hBr
      clear hE hL' hbox hBg hBr
      by_cases hk1 : kind = 1
      · subst hk1
        go_wp2_with fail
        generalize wr.alloc (.cells #[.int .i64 1, .int .i64 bit, .bool on] 29) = u at HBox hpu ⊢
        generalize wr.heap.size = B at HBox HBg HBr ⊢
        have hpd : Pair w u.drew p g q r L := hpu.later (Below.refl _ _).drew
        have hbd : Box u.drew B 1 bit on := HBox.out
        have HBd := Lib.hid hbd
        clear hbd
        have x0 : u.drew.cell? ⟨B, 0, none⟩ = some (.int .i64 1) := HBox.out.1
        have x1 : u.drew.cell? ⟨B, 1, none⟩ = some (.int .i64 bit) := HBox.out.2.1
        have x2 : u.drew.cell? ⟨B, 2, none⟩ = some (.bool on) := HBox.out.2.2
        go_region_held3 (fun W => W.cell? ⟨B, 0, none⟩ = some (.int .i64 1) ∧ W.cell? ⟨B, 1, none⟩ = some (.int .i64 bit) ∧ W.cell? ⟨B, 2, none⟩ = some (.bool on)) (go_keep) (first
          | (go_at_call 9; refine (bSet_p hpd 1 bit on HBd.out HBg.out E HE.out L' HL'.out).mono ?_; rintro e w4 ⟨rfl, hh4, ⟨y0, y1, y2⟩⟩)
          | (go_at_call 10; refine (rSet_p hh4 1 bit on ⟨y0, y1, y2⟩ HBr.out E HE.out HL'.out).mono ?_; rintro e w5 ⟨rfl, hp5, ⟨z0, z1, z2⟩⟩))
        go_wp2_with fail
        obtain ⟨G, hG⟩ : ∃ G, G = getB L' bit := ⟨_, rfl⟩
        obtain ⟨F, hF⟩ : ∃ F, F = firstS L' bit := ⟨_, rfl⟩
        obtain ⟨R, hR⟩ : ∃ R, R = runS L' bit := ⟨_, rfl⟩
        have HG := Lib.hid hG
        have HF := Lib.hid hF
        have HR := Lib.hid hR
        clear hG hF hR
        have hr := hp5.1
        have hk5 := hp5.2.1
        have b0 : Below w5.heap.size w5 w5.drew := (Below.refl _ _).drew
        have q0 := cell_c z1 b0
        go_region_held3 (fun W => W.cell? ⟨B, 1, none⟩ = some (.int .i64 bit)) (go_keep) (first
          | (go_at_call 11; refine (bGet_c hr bit G HG.out b0).mono ?_; rintro e v1 ⟨rfl, b1⟩; have q1 := cell_c z1 b1)
          | (go_at_call 12; refine (rGet_c hk5 bit G HG.out b1).mono ?_; rintro e v2 ⟨rfl, b2⟩; have q2 := cell_c z1 b2)
          | (go_at_call 13; refine (bFirst_c hr bit F HF.out b2).mono ?_; rintro e v3 ⟨rfl, b3⟩; have q3 := cell_c z1 b3)
          | (go_at_call 14; refine (rFirst_c hk5 bit F HF.out b3).mono ?_; rintro e v4 ⟨rfl, b4⟩; have q4 := cell_c z1 b4)
          | (go_at_call 15; refine (bRun_c hr bit R HR.out b4).mono ?_; rintro e v5 ⟨rfl, b5⟩; have q5 := cell_c z1 b5)
          | (go_at_call 16; refine (rRun_c hk5 bit R HR.out b5).mono ?_; rintro e v6 ⟨rfl, b6⟩; have q6 := cell_c z1 b6)
          | (go_at_call 17; refine (same1_c hr hk5 b6).mono ?_; rintro e v7 ⟨rfl, b7⟩; have q7 := cell_c z1 b7))
        go_wp2_with fail
        go_roundw
        case rel => exact ⟨k + 1, L', by omega, by go_num, hp5.later b7⟩
        case measure => simp [intOf]; omega
      · have hke : (kind == 1) = false := by simpa using hk1
        go_wp2_with fail
        generalize wr.alloc (.cells #[.int .i64 kind, .int .i64 bit, .bool on] 29) = u at HBox hpu ⊢
        generalize wr.heap.size = B at HBox HBg HBr ⊢
        have x0 : u.cell? ⟨B, 0, none⟩ = some (.int .i64 kind) := HBox.out.1
        go_quiet (fail)
        have hp5 : Pair w (u.drewN nq) p g q r L := hpu.later (below_drewN' (Below.refl _ _) nq)
        have z1 : (u.drewN nq).cell? ⟨B, 1, none⟩ = some (.int .i64 bit) := HBox.out.2.1
        clear x0
        go_wp2_with fail
        generalize u.drewN nq = w5 at hp5 z1 ⊢
        obtain ⟨G, hG⟩ : ∃ G, G = getB L bit := ⟨_, rfl⟩
        obtain ⟨F, hF⟩ : ∃ F, F = firstS L bit := ⟨_, rfl⟩
        obtain ⟨R, hR⟩ : ∃ R, R = runS L bit := ⟨_, rfl⟩
        have HG := Lib.hid hG
        have HF := Lib.hid hF
        have HR := Lib.hid hR
        clear hG hF hR
        have hr := hp5.1
        have hk5 := hp5.2.1
        have b0 : Below w5.heap.size w5 w5.drew := (Below.refl _ _).drew
        have q0 := cell_c z1 b0
        go_region_held3 (fun W => W.cell? ⟨B, 1, none⟩ = some (.int .i64 bit)) (go_keep) (first
          | (go_at_call 11; refine (bGet_c hr bit G HG.out b0).mono ?_; rintro e v1 ⟨rfl, b1⟩; have q1 := cell_c z1 b1)
          | (go_at_call 12; refine (rGet_c hk5 bit G HG.out b1).mono ?_; rintro e v2 ⟨rfl, b2⟩; have q2 := cell_c z1 b2)
          | (go_at_call 13; refine (bFirst_c hr bit F HF.out b2).mono ?_; rintro e v3 ⟨rfl, b3⟩; have q3 := cell_c z1 b3)
          | (go_at_call 14; refine (rFirst_c hk5 bit F HF.out b3).mono ?_; rintro e v4 ⟨rfl, b4⟩; have q4 := cell_c z1 b4)
          | (go_at_call 15; refine (bRun_c hr bit R HR.out b4).mono ?_; rintro e v5 ⟨rfl, b5⟩; have q5 := cell_c z1 b5)
          | (go_at_call 16; refine (rRun_c hk5 bit R HR.out b5).mono ?_; rintro e v6 ⟨rfl, b6⟩; have q6 := cell_c z1 b6)
          | (go_at_call 17; refine (same1_c hr hk5 b6).mono ?_; rintro e v7 ⟨rfl, b7⟩; have q7 := cell_c z1 b7))
        go_wp2_with fail
        go_roundw
        case rel => exact ⟨k + 1, L, by omega, by go_num, hp5.later b7⟩
        case measure => simp [intOf]; omega
    · go_wp2_with (go_at_call 17; refine (same1_p hp).mono ?_; rintro e w4 ⟨rfl, hb4⟩)
      go_ret
      exact ⟨rfl, hb4⟩

theorem lPlay_any (n : Int) {v : Value} {S : List (Int × Int × Bool)} {w : World} (hs : OpSl w v S) :
    Calls Try.prog 3 #[.int .i64 n, v] w fun e w' => e = .returned (.bool true) ∧ Below w.heap.size w w' := by
  rcases hs with ⟨rfl, _⟩ | ⟨⟨b, off, spot⟩, cap, rfl, hc⟩
  · exact lPlay_zero n none 0 w
  · by_cases h0 : S.length = 0
    · rw [h0]; exact lPlay_zero n _ cap w
    · by_cases h2 : 200 < S.length
      · exact lPlay_long n _ _ cap w h2
      · obtain ⟨hb, hsp, _⟩ := hc 0 (by omega)
        obtain rfl : spot = none := hsp
        exact lPlay_some n b off S.length cap S w rfl (by omega) hb (fun i hi => (hc i hi).2.2)

end Go.Proofs.Ytnifekbdjgklmaa
