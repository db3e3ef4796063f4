/- Contract of Encode. -/
import Derived.Test.YtnpniackcdcooaaSupF
import Derived.Test.YtnpniackcdcooaaSupU
import Derived.Test.YtnpniackcdcooaaPackD
import Derived.Lib.SlBytesConst
namespace Go.Proofs.Ytnpniackcdcooaa
open Go.RowKit
set_option linter.unusedVariables false

/-- What Encode hands back. -/
def EncOut (L : List Int) (w : World) (e : Ending) (w' : World) : Prop :=
  (frmS L = true ∧ ∃ v, e = .returned (.tuple #[v, .int .i64 0]) ∧ OB w' w.heap.size v (encS L) ∧ Below w.heap.size w w') ∨
  (frmS L = false ∧ e = .returned (.tuple #[.slice none 0 0, .int .i64 1]) ∧ Below w.heap.size w w')

theorem num_fit {L : List Int} (h : frmS L = true) (j : Nat) (hj : j < 12) : 0 ≤ num L j ∧ num L j < 65536 := by
  have h1 := frm_num h j hj
  have := pow256_le (wid_le j).2
  have e : (256 : Int) ^ 2 = 65536 := rfl
  omega

theorem pos_le : ∀ j, pos j ≤ 8 + 2 * j
  | 0 => Nat.le_refl _
  | j + 1 => by have := pos_le j; have := wid_le j; rw [pos]; omega
theorem put_con {L : List Int} (j : Nat) (hj : j < 12) (x : Int) (hx : x = num L j) (hx0 : 0 ≤ x ∧ x < 65536) (k : Nat) (hk : k = wid j) (W : World) (u : Value) (hs : BSl W u (conS L j)) :
    Calls Try.prog 18 #[u, .int .u64 x, .int .i64 (k : Int)] W (NewB W (conS L (j + 1))) := by
  have h1 := wid_le j
  have h2 := pos_le j
  have h3 := conS_length L j
  rw [conS, ← hx, ← hk]
  exact pPut_at hs (by omega) x k k (by omega) (by omega) rfl hx0.1 (by omega)
theorem rput_con {L : List Int} (j : Nat) (hj : j < 12) (x : Int) (hx : x = num L j) (hx0 : 0 ≤ x ∧ x < 65536) (k : Nat) (hk : k = wid j) (W : World) (u : Value) (hs : BSl W u (conS L j)) :
    Calls Try.prog 15 #[u, .int .u64 x, .int .i64 (k : Int)] W (NewB W (conS L (j + 1))) := by
  have h1 := wid_le j
  have h2 := pos_le j
  have h3 := conS_length L j
  rw [conS, ← hx, ← hk]
  exact rPut_at hs (by omega) x k k (by omega) (by omega) rfl hx0.1 (by omega)
theorem bsl_magic (w2 : World) : BSl (w2.alloc (.cells #[.int .u8 97, .int .u8 115, .int .u8 104, .int .u8 108, .int .u8 97, .int .u8 114, .int .u8 32, .int .u8 49] 5 (8, 9))) (.slice (some ⟨w2.heap.size, 0, none⟩) 8 8) magicB := by
  refine ⟨byt_of_mem byt_magic, .inr ⟨_, 8, rfl, by decide, fun j hj => ⟨by simp, rfl, ?_⟩⟩⟩
  have hj : j < 8 := hj
  have hh : (w2.alloc (.cells #[.int .u8 97, .int .u8 115, .int .u8 104, .int .u8 108, .int .u8 97, .int .u8 114, .int .u8 32, .int .u8 49] 5 (8, 9))).heap[w2.heap.size]? = some (.cells #[.int .u8 97, .int .u8 115, .int .u8 104, .int .u8 108, .int .u8 97, .int .u8 114, .int .u8 32, .int .u8 49] 5 (8, 9)) := by
    show (w2.heap.push _)[w2.heap.size]? = _
    simp
  rw [Nat.zero_add, cell_of_row _ _ _ _ _ _ hh]
  have : j = 0 ∨ j = 1 ∨ j = 2 ∨ j = 3 ∨ j = 4 ∨ j = 5 ∨ j = 6 ∨ j = 7 := by omega
  rcases this with rfl | rfl | rfl | rfl | rfl | rfl | rfl | rfl <;> rfl

theorem sEnc_yes (b st tg cu io ba t0 t1 t2 t3 t4 t5 : Int) (L : List Int) (hLL : L = [b, st, tg, cu, io, ba, t0, t1, t2, t3, t4, t5]) (hf : frmS L = true) (w : World)
    (hF : ∀ w, Calls Try.prog 9 #[.agg #[.int .i64 b, .int .i64 st, .int .i64 tg, .int .i64 cu, .int .i64 io, .int .i64 ba, .int .i64 t0, .int .i64 t1, .int .i64 t2, .int .i64 t3, .int .i64 t4, .int .i64 t5]] w fun e w' => e = .returned (.bool true) ∧ Below w.heap.size w w') :
    Calls Try.prog 7 #[.agg #[.int .i64 b, .int .i64 st, .int .i64 tg, .int .i64 cu, .int .i64 io, .int .i64 ba, .int .i64 t0, .int .i64 t1, .int .i64 t2, .int .i64 t3, .int .i64 t4, .int .i64 t5]] w fun e w' => ∃ v, e = .returned (.tuple #[v, .int .i64 0]) ∧ OB w' w.heap.size v (encS L) ∧ Below w.heap.size w w' := by
  have hob := below_box w (supO L 26)
  have hh := heap_alloc_new w (supO L 26)
  obtain ⟨W1, hW1⟩ : ∃ W1, W1 = w.alloc (supO L 26) := ⟨_, rfl⟩
  rw [← hW1] at hob hh
  have hW2 : w.alloc (.cells #[.int .i64 b, .int .i64 st, .int .i64 tg, .int .i64 cu, .int .i64 io, .int .i64 ba, .int .i64 t0, .int .i64 t1, .int .i64 t2, .int .i64 t3, .int .i64 t4, .int .i64 t5] 26) = W1 := by rw [hW1, hLL]; rfl
  have hlen : L.length = 12 := by rw [hLL]; rfl
  have hsz : w.heap.size < W1.heap.size := by rw [hW1]; simp
  have H2 := Lib.hid hW2
  have HH := Lib.hid hh
  have HLE := Lib.hid hlen
  have HFR := Lib.hid hf
  have K0 := Lib.hid hF
  clear hF hh hW1 hW2 hLL hlen hf
  have kc := fun (w : World) (C : Array Value) (n c : Nat) => Lib.run_convert_bytes_const (P := Try.prog) w 27 5 C n c Try.underlying27 Try.underlying5
  go_enter Try.func7, Try.ntmps7
  go_wp2_with (first
    | (go_at_call 9; rw [H2.out]; refine (K0.out _).mono ?_; rintro e w2 ⟨rfl, hb2⟩; have hbe : Below w.heap.size w w2 := hob.trans (hb2.mono hob.size))
    | (go_at_call 17; refine (sFields_of _ _).mono ?_; rintro e w4 ⟨v4, rfl, hf4, hb4⟩; obtain ⟨gf, cap, rfl, hgf, hgB, hnc, hcf⟩ := hf4.shape (by decide)))
  have hbm := bsl_magic w2
  obtain ⟨w3, hw3⟩ : ∃ w3, w3 = w2.alloc (.cells #[.int .u8 97, .int .u8 115, .int .u8 104, .int .u8 108, .int .u8 97, .int .u8 114, .int .u8 32, .int .u8 49] 5 (8, 9)) := ⟨_, rfl⟩
  rw [← hw3] at hb4 hbm
  have hb3 : Below w2.heap.size w2 w3 := by rw [hw3]; exact below_box _ _
  have hb24 : Below w2.heap.size w2 w4 := hb3.trans (hb4.mono hb3.size)
  have hb04 : Below w.heap.size w w4 := hbe.trans (hb24.mono hbe.size)
  have hlt2 : w.heap.size < w2.heap.size := Nat.lt_of_lt_of_le hsz hb2.size
  have hh4 : w4.heap[w.heap.size]? = some (supO L 26) := by
    rw [hb24.block _ hlt2, hb2.block _ hsz]; exact HH.out
  have hc4 := fun k hk => sup_cell hh4 k hk
  rw [HLE.out] at hc4
  have hlt4 : w.heap.size < w4.heap.size := Nat.lt_of_lt_of_le hlt2 hb24.size
  have hm4 := hbm.below hb4
  have HC := Lib.hid hc4
  have HCF := Lib.hid hcf
  have HB04 := Lib.hid hb04
  clear hbm hw3 hb3 hb24 hh4 hc4 hcf hb4 hf4 hb2 hbe hob hlt2 hsz kc hb04
  go_loopw [4, 14] (fun u i wr => ∃ j : Nat, j ≤ 12 ∧ i = .int .i64 j ∧ Hid (BSl wr u (conS L j)) ∧ Hid (Below w4.heap.size w4 wr)) (fun _ i _ => 12 - (intOf i).toNat)
  case atStart => exact ⟨0, by omega, rfl, hm4, Below.refl _ _⟩
  case round =>
    obtain ⟨j, hj, rfl, HBS, HBR⟩ := hrel
    clear hm4
    by_cases hlt : j < 12
    · have hf := HCF.out j hlt
      have hf1 : wr.cell? ⟨gf, j * 2, none⟩ = some (.pointer (some ⟨w.heap.size, j, none⟩)) := by rw [HBR.out.cell hgf]; exact hf.1
      have hf2 : wr.cell? ⟨gf, j * 2 + 1, none⟩ = some (.int .i64 (wid j : Int)) := by rw [HBR.out.cell hgf]; exact hf.2
      have hx0 := num_fit HFR.out j hlt
      obtain ⟨x, hx⟩ : ∃ x, x = num L j := ⟨_, rfl⟩
      have hcx : wr.cell? ⟨w.heap.size, j, none⟩ = some (.int .i64 x) := by rw [HBR.out.cell hlt4, hx]; exact HC.out j hlt
      rw [← hx] at hx0
      have hwd := wid_le j
      obtain ⟨k, hk⟩ : ∃ k, k = wid j := ⟨_, rfl⟩
      rw [← hk] at hwd hf2
      have HX := Lib.hid hx
      have HK := Lib.hid hk
      have ej : (j : Int) < 12 := by omega
      have HPU := Lib.hid (put_con (L := L) j hlt x hx hx0 k hk)
      clear hx hk hf
      have hgw : w.heap.size < wr.heap.size := Nat.lt_of_lt_of_le hlt4 HBR.out.size
      go_wp2
      have hbx := below_box wr (.cells #[.pointer (some ⟨w.heap.size, j, none⟩), .int .i64 (k : Int)] 52)
      have hhx := heap_alloc_new wr (.cells #[.pointer (some ⟨w.heap.size, j, none⟩), .int .i64 (k : Int)] 52)
      generalize wr.alloc (.cells #[.pointer (some ⟨w.heap.size, j, none⟩), .int .i64 (k : Int)] 52) = W5 at hbx hhx ⊢
      have c0 : W5.cell? ⟨wr.heap.size, 0, none⟩ = some (.pointer (some ⟨w.heap.size, j, none⟩)) := by rw [cell_of_row _ _ _ _ _ _ hhx]; rfl
      have c1 : W5.cell? ⟨wr.heap.size, 1, none⟩ = some (.int .i64 (k : Int)) := by rw [cell_of_row _ _ _ _ _ _ hhx]; rfl
      have c2 : W5.cell? ⟨w.heap.size, j, none⟩ = some (.int .i64 x) := by rw [hbx.cell hgw]; exact hcx
      have HBX := Lib.hid (below_drewN' hbx 1)
      have HU := Lib.hid (HBS.out.below HBX.out)
      change Hid (BSl W5.drew _ _) at HU
      change Hid (Below wr.heap.size wr W5.drew) at HBX
      clear hbx hhx hcx hf1 hf2 hgw
      go_still_tail 8, (by kernel_rfl)
      go_wp2_with (go_at_call 18; refine (HPU.out _ _ HU.out).mono ?_; rintro e w6 ⟨v6, rfl, hob6, hb6⟩)
      have HB6 := Lib.hid (HBX.out.trans (hb6.mono HBX.out.size))
      clear hb6
      go_roundw
      case rel => exact ⟨j + 1, by omega, by go_num, hob6.bsl, HBR.out.trans (HB6.out.mono HBR.out.size)⟩
      case measure => simp [intOf]; omega
    · obtain rfl : j = 12 := by omega
      have HSE := Lib.hid (pSeal_yes HBS.out (by rw [conS_length]; decide))
      go_wp2_with (go_at_call 19; refine HSE.out.mono ?_; rintro e w7 ⟨v7, rfl, hob7, hb7⟩)
      go_ret2
      have hB := HB04.out.trans (HBR.out.mono HB04.out.size)
      exact ⟨v7, rfl, hob7.more hB.size, hB.trans (hb7.mono hB.size)⟩

theorem sEnc_of {L : List Int} (hL : L.length = 12) (hT : Top L) (w : World) : Calls Try.prog 7 #[supV L] w (EncOut L w) := by
  have h0 : frmS L = false ∨ frmS L = true := by cases frmS L <;> simp
  have KF : ∀ B, frmS L = B → _ := fun B h => sFormed_is hL hT B h
  have hob := below_box w (supO L 26)
  obtain ⟨W1, hW1⟩ : ∃ W1, W1 = w.alloc (supO L 26) := ⟨_, rfl⟩
  rw [← hW1] at hob
  match L, hL with
  | [b, st, tg, cu, io, ba, t0, t1, t2, t3, t4, t5], _ =>
    have hW2 : w.alloc (.cells #[.int .i64 b, .int .i64 st, .int .i64 tg, .int .i64 cu, .int .i64 io, .int .i64 ba, .int .i64 t0, .int .i64 t1, .int .i64 t2, .int .i64 t3, .int .i64 t4, .int .i64 t5] 26) = W1 := by rw [hW1]; rfl
    have H2 := Lib.hid hW2
    show Calls Try.prog 7 #[.agg #[.int .i64 b, .int .i64 st, .int .i64 tg, .int .i64 cu, .int .i64 io, .int .i64 ba, .int .i64 t0, .int .i64 t1, .int .i64 t2, .int .i64 t3, .int .i64 t4, .int .i64 t5]] w (EncOut _ w)
    rcases h0 with h0 | h0
    · refine Calls.mono ?_ fun e w' h => .inr ⟨h0, h⟩
      have K0 : Hid (∀ w, Calls Try.prog 9 #[.agg #[.int .i64 b, .int .i64 st, .int .i64 tg, .int .i64 cu, .int .i64 io, .int .i64 ba, .int .i64 t0, .int .i64 t1, .int .i64 t2, .int .i64 t3, .int .i64 t4, .int .i64 t5]] w fun e w' => e = .returned (.bool false) ∧ Below w.heap.size w w') := Lib.hid (KF _ h0)
      clear KF h0 hW1 hW2 hT
      go_enter Try.func7, Try.ntmps7
      go_wp2_with (first | (go_at_call 9; rw [H2.out]; refine (K0.out _).mono ?_; rintro e w2 ⟨rfl, hb2⟩))
      go_ret2
      exact ⟨rfl, hob.trans (hb2.mono hob.size)⟩
    · refine Calls.mono ?_ fun e w' h => .inl ⟨h0, h⟩
      exact sEnc_yes b st tg cu io ba t0 t1 t2 t3 t4 t5 _ rfl h0 w (KF _ h0)
end Go.Proofs.Ytnpniackcdcooaa
