/- Contract of the reference's Of. -/
import Derived.Test.YtflkggoknmgbnaaRefA
import Derived.Test.YtflkggoknmgbnaaBytesG
namespace Go.Proofs.Ytflkggoknmgbnaa
open Go.RowKit BM

theorem rOf_range (n : Int) (v : Value) (w : World) (h : n < 0 ∨ 4096 < n) :
    Calls Try.prog 41 #[.int .i64 n, v] w fun e w' => e = .returned (.tuple #[.pointer none, .int .i64 1]) ∧ w = w' := by
  by_cases h1 : n < 0
  · go_enter Try.func41, Try.ntmps41
    go_wp2_with fail
    go_ret2
    exact ⟨rfl, rfl⟩
  · have h2 : 4096 < n := by omega
    go_enter Try.func41, Try.ntmps41
    go_wp2_with fail
    go_ret2
    exact ⟨rfl, rfl⟩

theorem rNew_nat (n : Nat) (h : n ≤ 4096) (w : World) :
    Calls Try.prog 55 #[.int .i64 n] w fun e w' => e = .returned (.pointer (some ⟨w.heap.size + 1, 0, none⟩)) ∧ RRow w' (w.heap.size + 1) w.heap.size (List.replicate n false) ∧ Below w.heap.size w w' :=
  (rNew_at n n h w (by rw [if_neg (by omega), if_neg (by omega)])).mono fun _ _ ⟨h1, h2, h3, _⟩ => ⟨h1, h2, h3⟩

theorem rOf_len (n : Nat) (ao : Option Addr) (len cap : Nat) (w : World) (h1 : n ≤ 4096) (h : len ≠ (n + 7) / 8) :
    Calls Try.prog 41 #[.int .i64 n, .slice ao len cap] w fun e w' => e = .returned (.tuple #[.pointer none, .int .i64 18]) ∧ Below w.heap.size w w' := by
  have hne : ((len : Int) != ((n : Int) + 7) / 8) = true := by simp; omega
  go_enter Try.func41, Try.ntmps41
  go_wp2_with (go_at_call 55; refine (rNew_nat n h1 _).mono ?_; rintro e w1 ⟨rfl, hr1, hb1⟩)
  go_ret2
  exact ⟨rfl, hb1⟩

/-- What the reference's Of has set after k bits. -/
def ofPart (n : Nat) (l : List Int) (k : Nat) : List Bool := part (bitsOf n l) k

theorem wrote_cells {w w' : World} {q r : Nat} {A B : List Bool} (h : RRow w q r A) (k : Nat) (b : Bool) (hw : w' = w.setCell ⟨r, k, none⟩ (.bool b)) (hB : B = A.set k b) : RRow w' q r B := by
  subst hw; subst hB
  refine ⟨by simpa using h.1, ?_, ?_⟩
  · rw [heap_setCell_other _ _ _ _ h.ne, h.2.1, List.length_set]
  · rw [heap_setCell_same _ _ _ _ _ _ h.2.2, List.map_set]
    simp

theorem part_set (L : List Bool) (k : Nat) (hk : k < L.length) (b : Bool) (hb : L.getD k false = b) : part L (k + 1) = (part L k).set k b := by
  rw [part_step L k hk b hb]
  cases b
  · simp only [Bool.false_eq_true, if_false]
    apply list_ext_getD
    · simp
    · intro j
      rw [getD_set _ _ _ _ _ (by rw [part_length _ _ (by omega)]; exact hk)]
      by_cases e : j = k
      · rw [if_pos e, e, part_getD, if_neg (by omega)]
      · rw [if_neg e]
  · simp only [if_true]

/-- What Of hands back, whatever the bytes (of the right number). -/
def rOfOut (n : Nat) (l : List Int) (w : World) (e : Ending) (w' : World) : Prop :=
  (BGood n l ∧ ∃ q r, e = .returned (.tuple #[.pointer (some ⟨q, 0, none⟩), .int .i64 0]) ∧ RRow w' q r (bitsOf n l) ∧ Below w.heap.size w w' ∧ w.heap.size ≤ q ∧ w.heap.size ≤ r) ∨
  (¬ BGood n l ∧ e = .returned (.tuple #[.pointer none, .int .i64 18]) ∧ Below w.heap.size w w')

theorem rOf_zero (ao : Option Addr) (cap : Nat) (w : World) (l : List Int) (hl : l.length = 0) :
    Calls Try.prog 41 #[.int .i64 0, .slice ao 0 cap] w (rOfOut 0 l w) := by
  obtain rfl : l = [] := List.eq_nil_of_length_eq_zero hl
  go_enter Try.func41, Try.ntmps41
  go_wp2_with (go_at_call 55; refine (rNew_nat 0 (by omega) _).mono ?_; rintro e w1 ⟨rfl, hr1, hb1⟩)
  refine wp_loop_rounds 1 ?_
  rw [rounds_succ]
  go_wp2_with fail
  refine bodyPost_ret (v := .tuple #[.pointer (some ⟨w.heap.size + 1, 0, none⟩), .int .i64 0]) (by simp [results, Try.results41, go_sem]) rfl (.inl ⟨⟨rfl, fun j _ => by simp [bitAt_zero]⟩, _, _, rfl, hr1, hb1, by omega, by omega⟩)

theorem rOf_some {w : World} {b off cap : Nat} {l : List Int} (hby : ∀ j, 0 ≤ l.getD j 0 ∧ l.getD j 0 ≤ 255) (hbk : b < w.heap.size)
    (hc : ∀ j, j < l.length → w.cell? ⟨b, off + j, none⟩ = some (.int .u8 (l.getD j 0))) (n : Nat) (h1 : n ≤ 4096) (hl : l.length = (n + 7) / 8) :
    Calls Try.prog 41 #[.int .i64 n, .slice (some ⟨b, off, none⟩) l.length cap] w (rOfOut n l w) := by
  obtain ⟨N, hN⟩ : ∃ N, N = l.length := ⟨_, rfl⟩
  rw [← hN] at hc ⊢
  have hNn : N = (n + 7) / 8 := by omega
  have hne : ((N : Int) != ((n : Int) + 7) / 8) = false := by simp; omega
  have _hN8 : 8 * (N : Int) ≤ 4104 := by omega
  have hd0 : decide ((n : Int) < 0) = false := by simp
  have hd1 : decide ((4096 : Int) < (n : Int)) = false := by simp; omega
  have HNn := Lib.hid hNn
  have HN := Lib.hid hN
  have HC := Lib.hid hc
  have HB := Lib.hid hby
  have hLn := length_bitsOf n l
  obtain ⟨L, hL⟩ : ∃ L, L = bitsOf n l := ⟨_, rfl⟩
  rw [← hL] at hLn
  have HL := Lib.hid hL
  have HLn := Lib.hid hLn
  clear hN hNn hl hc hby hL hLn
  go_enter Try.func41, Try.ntmps41
  go_wp2_with (go_at_call 55; refine (rNew_nat n h1 _).mono ?_; rintro e w1 ⟨rfl, hr1, hb1⟩)
  go_loopw [26] (fun i wr => ∃ k : Nat, k ≤ 8 * N ∧ i = .int .i64 k ∧ Hid (RRow wr (w.heap.size + 1) w.heap.size (part L k)) ∧ Below w.heap.size w wr ∧ Hid (∀ j, n ≤ j → j < k → bitAt (l.getD (j / 8) 0) (j % 8) = false))
    (fun i _ => 8 * N - (intOf i).toNat)
  case atStart => exact ⟨0, by omega, rfl, by rw [part_zero, HLn.out]; exact hr1, hb1, fun j _ h => by omega⟩
  case round =>
    obtain ⟨k, hk, rfl, hr, hb, hz⟩ := hrel
    by_cases hlt : k < 8 * N
    · have _hkN : (k : Int) / 8 < (N : Int) := by omega
      have hkN : k / 8 < N := by omega
      have hx0 := HB.out (k / 8)
      have hcx := (hb.cell (p := ⟨b, off + k / 8, none⟩) hbk).trans (HC.out (k / 8) hkN)
      obtain ⟨x, hx⟩ : ∃ x, x = l.getD (k / 8) 0 := ⟨_, rfl⟩
      rw [← hx] at hx0 hcx
      have HX := Lib.hid hx
      clear hx
      obtain ⟨bt, hbt⟩ : ∃ bt, bt = bitAt x (k % 8) := ⟨_, rfl⟩
      have hand : (bits BinOp.and IntKind.u8 (x / 2 ^ (k % 8)) 1 == 1) = bt := by rw [and1 x hx0.1 hx0.2, hbt]
      have HBT := Lib.hid hbt
      clear hbt
      by_cases hkn : k < n
      · have hlk : k < L.length := by rw [HLn.out]; exact hkn
        have hp : part L (k + 1) = (part L k).set k bt := part_set L k hlk bt (by rw [HL.out, getD_bitsOf n l k hkn, HBT.out, HX.out])
        have HP := Lib.hid hp
        obtain ⟨hs0, hc0, hf0⟩ := hr.out.cells
        rw [part_length L k (by omega), HLn.out] at hs0
        have hck := hc0 k (by rw [part_length L k (by omega)]; exact hlk)
        have hfk := hf0 k
        clear hc0 hf0 hp
        go_wp2_with fail
        go_roundw
        case rel => exact ⟨k + 1, by omega, by go_num, wrote_cells hr.out k bt rfl HP.out, hb.setCell (p := ⟨w.heap.size, k, none⟩) (Nat.le_refl _) _, fun j h2 h3 => by omega⟩
        case measure => simp [intOf]; omega
      · have hpk : part L (k + 1) = part L k := by rw [part_all L k (by rw [HLn.out]; omega), part_all L (k + 1) (by rw [HLn.out]; omega)]
        have HP := Lib.hid hpk
        clear hpk
        cases bt
        · go_wp2_with fail
          go_roundw
          case rel =>
            refine ⟨k + 1, by omega, by go_num, by rw [HP.out]; exact hr, hb, fun j h2 h3 => ?_⟩
            by_cases e : j = k
            · rw [e, ← HX.out, ← HBT.out]
            · exact hz.out j h2 (by omega)
          case measure => simp [intOf]; omega
        · go_wp2_with fail
          go_ret2
          refine .inr ⟨fun hg => ?_, rfl, hb⟩
          have := hg.2 k (by omega)
          rw [← HX.out, ← HBT.out] at this
          exact absurd this (by decide)
    · go_wp2_with fail
      have hr2 := hr.out
      rw [part_all L k (by rw [HLn.out]; have := HNn.out; omega), HL.out] at hr2
      refine bodyPost_ret (v := .tuple #[.pointer (some ⟨w.heap.size + 1, 0, none⟩), .int .i64 0]) (by simp [results, Try.results41, go_sem]) rfl (.inl ⟨⟨by rw [← HN.out]; exact HNn.out, fun j hj => ?_⟩, _, _, rfl, hr2, hb, by omega, by omega⟩)
      by_cases hj2 : j < k
      · exact hz.out j hj hj2
      · rw [List.getD_eq_getElem?_getD, List.getElem?_eq_none (by have := HN.out; omega)]; exact bitAt_zero _

theorem rOf_any {w : World} {v : Value} {l : List Int} (hs : BSl w v l) (n : Nat) (h1 : n ≤ 4096) : Calls Try.prog 41 #[.int .i64 n, v] w (rOfOut n l w) := by
  by_cases hl : l.length = (n + 7) / 8
  · by_cases h0 : n = 0
    · subst h0
      obtain ⟨ao, cap, rfl, _⟩ := hs.shape
      have hl0 : l.length = 0 := by omega
      rw [hl0]
      exact rOf_zero ao cap w l hl0
    · rcases hs.2 with ⟨_, hl0⟩ | ⟨⟨b, off, spot⟩, cap, rfl, _, hc⟩
      · rw [hl0] at hl; simp at hl; omega
      · obtain ⟨hb, hsp, _⟩ := hc 0 (by omega)
        obtain rfl : spot = none := hsp
        exact rOf_some hs.1 hb (fun j hj => (hc j hj).2.2) n h1 hl
  · obtain ⟨ao, cap, rfl, _⟩ := hs.shape
    exact (rOf_len n ao l.length cap w h1 hl).mono fun e w' ⟨he, hb⟩ => .inr ⟨fun hg => hl hg.1, he, hb⟩

end Go.Proofs.Ytflkggoknmgbnaa
