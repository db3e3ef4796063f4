/- Contract of the reference's DecodeInodes. -/
import Derived.Test.YtbikbglkecbgjaaInoJ
import Derived.Test.YtbikbglkecbgjaaInoL
import Derived.Test.YtbikbglkecbgjaaInoP
import Derived.Deep.RegionHeld3
import Derived.Deep.CutRange
namespace Go.Proofs.Ytbikbglkecbgjaa
open Go.RowKit
set_option linter.unusedVariables false

theorem getV_take (D : List Int) (m a n : Nat) (h : a + n ≤ m) : getV (D.take m) a n = getV D a n := by
  unfold getV
  rw [List.drop_take, List.take_take, Nat.min_eq_left (by omega)]
theorem rd7_take (D : List Int) : rd7 (D.take 32) = rd7 D := by
  unfold rd7
  apply List.map_congr_left
  intro i hi
  have := p7_in i (List.mem_range.1 hi)
  exact getV_take D 32 _ _ (by omega)
/-- An inode whose map, and the first 3 + j numbers, have been read. -/
def rdA (D : List Int) (j : Nat) : List Int := (List.range 14).map fun i => if i < 3 + j ∨ i = 13 then getV D (p7 i) (w7 i) else 0
theorem rdA_length (D : List Int) (j : Nat) : (rdA D j).length = 14 := by simp [rdA]
theorem rdA_set (D : List Int) (j : Nat) : (rdA D j).set (3 + j) (getV D (6 + 2 * j) 2) = rdA D (j + 1) := by
  rw [← p7_two, ← w7_two j]
  apply List.ext_getElem (by rw [List.length_set, rdA_length, rdA_length])
  intro i h1 h2
  simp only [rdA, List.getElem_set, List.getElem_map, List.getElem_range]
  by_cases e : 3 + j = i
  · subst e; rw [if_pos rfl, if_pos (.inl (by omega))]
  · rw [if_neg e]
    by_cases h : i < 3 + j ∨ i = 13
    · rw [if_pos h, if_pos (by omega)]
    · rw [if_neg h, if_neg (by omega)]
theorem rdA_full (D : List Int) : rdA D 10 = rd7 D := by
  unfold rdA rd7
  apply List.map_congr_left
  intro i hi
  have := List.mem_range.1 hi
  rw [if_pos (by omega)]
theorem getV_one (D : List Int) (a : Nat) (h : a < D.length) : getV D a 1 = D.getD a 0 := by rw [getV_head D a 0 h, getV_zero]; omega
theorem rdA_zero (D : List Int) (h : 2 ≤ D.length) : rdA D 0 = [D.getD 0 0, D.getD 1 0, getV D 2 4, 0, 0, 0, 0, 0, 0, 0, 0, 0, 0, getV D 26 2] := by
  rw [← getV_one D 0 (by omega), ← getV_one D 1 (by omega)]; rfl
theorem getV4_le {l : List Int} (h : ∀ x ∈ l, 0 ≤ x ∧ x ≤ 255) (a : Nat) : 0 ≤ getV l a 4 ∧ getV l a 4 ≤ 4294967295 := by
  have := getV_bound h a 4
  have e : (256 : Int) ^ 4 = 4294967296 := rfl
  omega
theorem rDecI_len {w : World} (ao : Option Addr) (len cap : Nat) (h : len ≠ 256) : Calls Try.prog 10 #[.slice ao len cap] w fun e w' => e = .returned (.tuple #[.slice none 0 0, .int .i64 18]) ∧ w = w' := by
  have hne : ((len : Int) != 256) = true := by simp; omega
  go_enter Try.func10, Try.ntmps10
  go_wp2
  go_ret2
  exact ⟨rfl, rfl⟩
set_option maxHeartbeats 8000000 in
theorem rDecI_256 {w : World} {v : Value} {l : List Int} (hs : BSl w v l) (hl : l.length = 256) : Calls Try.prog 10 #[v] w (DecT7 l w) := by
  obtain ⟨b, off, cap, rfl, hcap, hb⟩ := hs.open' (by omega)
  have HS := Lib.hid hs
  have HL := Lib.hid hl
  have HMID := Lib.hid (fun W (h : BSl W (.slice (some ⟨b, off, none⟩) l.length cap) l) lo m (hm : lo + m ≤ l.length) => h.mid lo m hm)
  rw [hl] at HS HMID hcap ⊢
  have hbu := bsl_nil w
  clear hs hl hbu
  go_enter Try.func10, Try.ntmps10
  go_wp2
  go_loopw [4, 16] (fun u i wr => ∃ k : Nat, k ≤ 8 ∧ i = .int .i64 k ∧ Hid (NR wr w.heap.size 41 u (rdT l k)) ∧ Below w.heap.size w wr) (fun _ i _ => 8 - (intOf i).toNat)
  case atStart => exact ⟨0, by omega, rfl, nr_nil _ _ _, Below.refl _ _⟩
  case round =>
    obtain ⟨k, hk, rfl, HU, hbr⟩ := hrel
    by_cases hlt : k < 8
    · have ek : (k : Int) < 8 := by omega
      have hlD : (l.drop (32 * k)).length = 256 - 32 * k := by rw [List.length_drop, HL.out]
      have KS : Hid (∀ W, Below w.heap.size w W → BSl W (.slice (some ⟨b, off + 32 * k, none⟩) (256 - 32 * k) (cap - 32 * k)) (l.drop (32 * k))) := fun W hW => by
        have := HMID.out W (HS.out.below hW) (32 * k) (256 - 32 * k) (by omega)
        rw [List.take_of_length_le (by rw [hlD]; exact Nat.le_refl _)] at this
        exact this
      have hrj : rdJ l k = rd7 (l.drop (32 * k)) := by unfold rdJ chunk; exact rd7_take _
      have hsu := rdT_succ l k
      rw [hrj] at hsu
      obtain ⟨D, hD⟩ : ∃ D, D = l.drop (32 * k) := ⟨_, rfl⟩
      rw [← hD] at hlD KS hsu
      have hDB : Byt D := by rw [hD]; exact byt_drop HS.out.1 _
      have T4 := Lib.hid (fun W hW => rGetW (KS.out W hW) (by omega) 2 4 2 4 rfl rfl (by decide) (by decide) (by omega) _ rfl)
      have T26 := Lib.hid (fun W hW => rTwoW (KS.out W hW) (by omega) 26 26 rfl (by omega) _ rfl)
      have TJ := Lib.hid (fun W hW (j : Nat) (hj : j < 10) => rTwoW (KS.out W hW) (by omega) (6 + 2 * j) (6 + 2 * (j : Int)) (by push_cast; rfl) (by omega) _ rfl)
      have s0 := getV4_le (byt_mem hDB) 2
      have m0 := getV2_le (byt_mem hDB) 26
      have y00 := hDB 0
      have y10 := hDB 1
      have hz0 := rdA_zero D (by omega)
      obtain ⟨s, hs⟩ : ∃ s, s = getV D 2 4 := ⟨_, rfl⟩
      obtain ⟨mp, hmp⟩ : ∃ s, s = getV D 26 2 := ⟨_, rfl⟩
      obtain ⟨y0, hy0⟩ : ∃ s, s = D.getD 0 0 := ⟨_, rfl⟩
      obtain ⟨y1, hy1⟩ : ∃ s, s = D.getD 1 0 := ⟨_, rfl⟩
      rw [← hs] at T4 s0 hz0
      rw [← hmp] at T26 m0 hz0
      rw [← hy0] at y00 hz0
      rw [← hy1] at y10 hz0
      have hcell0 : wr.cell? ⟨b, off + 32 * k, none⟩ = some (.int .u8 y0) := by
        rcases (KS.out wr hbr).2 with ⟨hv, _⟩ | ⟨a', c', hv, _, hc⟩
        · simp at hv
        · obtain ⟨e1, _, _⟩ := Value.slice.inj hv
          obtain rfl := (Option.some.inj e1).symm
          rw [hy0]; exact (hc 0 (by omega)).2.2
      have hcell1 : wr.cell? ⟨b, off + 32 * k + 1, none⟩ = some (.int .u8 y1) := by
        rcases (KS.out wr hbr).2 with ⟨hv, _⟩ | ⟨a', c', hv, _, hc⟩
        · simp at hv
        · obtain ⟨e1, _, _⟩ := Value.slice.inj hv
          obtain rfl := (Option.some.inj e1).symm
          rw [hy1]; exact (hc 1 (by omega)).2.2
      have HSU := Lib.hid hsu
      have HZ0 := Lib.hid hz0
      have HDB := Lib.hid hDB
      have HE1 : Hid (32 * (k : Int) = ((32 * k : Nat) : Int)) := Lib.hid (by push_cast; rfl)
      have hc1 : 32 * k < cap := by omega
      have hc2 : 32 * k ≤ 256 := by omega
      have hn2 : (2 : Nat) ≤ 256 - 32 * k := by omega
      clear hs hmp hy0 hy1 hD hsu hz0 hlD hrj hDB
      go_wp2_with (first
        | (with_reducible refine wpList_slice_l rfl (.tmp 19) (.tmp 21) rfl b off 256 cap rfl (32 * (k : Int)) rfl (32 * k) HE1.out hc2 hcap hc1 ?_)
        | (go_at_call 25; (with_reducible refine (T4.out _ hbr).mono ?_); rintro e w3 ⟨rfl, rfl⟩))
      obtain ⟨o, ho⟩ : ∃ o, o = off + 32 * k := ⟨_, rfl⟩
      obtain ⟨n, hn⟩ : ∃ n, n = 256 - 32 * k := ⟨_, rfl⟩
      obtain ⟨c', hc'⟩ : ∃ n, n = cap - 32 * k := ⟨_, rfl⟩
      rw [← ho, ← hn, ← hc'] at KS T26 TJ ⊢
      rw [← ho] at hcell0 hcell1
      rw [← hn] at hn2
      have b0 : Below w.heap.size w wr.drew := hbr.drew
      have hbz := below_box wr (.cells #[.int .i64 0, .int .i64 0, .int .i64 0, .int .i64 0, .int .i64 0, .int .i64 0, .int .i64 0, .int .i64 0, .int .i64 0, .int .i64 0, .int .i64 0, .int .i64 0, .int .i64 0, .int .i64 0] 41)
      have hbx := below_box wr (.cells #[.int .i64 y0, .int .i64 y1, .int .i64 s, .int .i64 0, .int .i64 0, .int .i64 0, .int .i64 0, .int .i64 0, .int .i64 0, .int .i64 0, .int .i64 0, .int .i64 0, .int .i64 0, .int .i64 mp] 41)
      have b1 : Below w.heap.size w (wr.alloc (.cells #[.int .i64 0, .int .i64 0, .int .i64 0, .int .i64 0, .int .i64 0, .int .i64 0, .int .i64 0, .int .i64 0, .int .i64 0, .int .i64 0, .int .i64 0, .int .i64 0, .int .i64 0, .int .i64 0] 41)).drew := (hbr.trans (hbz.mono hbr.size)).drew
      have HB2 : Hid (Below wr.heap.size wr (wr.alloc (.cells #[.int .i64 y0, .int .i64 y1, .int .i64 s, .int .i64 0, .int .i64 0, .int .i64 0, .int .i64 0, .int .i64 0, .int .i64 0, .int .i64 0, .int .i64 0, .int .i64 0, .int .i64 0, .int .i64 mp] 41)).drew) := Lib.hid hbx.drew
      have HX2 : Hid ((wr.alloc (.cells #[.int .i64 y0, .int .i64 y1, .int .i64 s, .int .i64 0, .int .i64 0, .int .i64 0, .int .i64 0, .int .i64 0, .int .i64 0, .int .i64 0, .int .i64 0, .int .i64 0, .int .i64 0, .int .i64 mp] 41)).drew.heap[wr.heap.size]? = some (iO (rdA D 0) 41)) := Lib.hid (by rw [HZ0.out]; exact heap_alloc_new wr _)
      have d0 : wr.drew.cell? ⟨b, o, none⟩ = some (.int .u8 y0) := hcell0
      have d1 : wr.drew.cell? ⟨b, o + 1, none⟩ = some (.int .u8 y1) := hcell1
      have hbl : b < wr.heap.size := Nat.lt_of_lt_of_le hb hbr.size
      have f0 : (wr.alloc (.cells #[.int .i64 0, .int .i64 0, .int .i64 0, .int .i64 0, .int .i64 0, .int .i64 0, .int .i64 0, .int .i64 0, .int .i64 0, .int .i64 0, .int .i64 0, .int .i64 0, .int .i64 0, .int .i64 0] 41)).drew.cell? ⟨b, o, none⟩ = some (.int .u8 y0) := (hbz.cell (p := ⟨b, o, none⟩) hbl).trans hcell0
      have f1 : (wr.alloc (.cells #[.int .i64 0, .int .i64 0, .int .i64 0, .int .i64 0, .int .i64 0, .int .i64 0, .int .i64 0, .int .i64 0, .int .i64 0, .int .i64 0, .int .i64 0, .int .i64 0, .int .i64 0, .int .i64 0] 41)).drew.cell? ⟨b, o + 1, none⟩ = some (.int .u8 y1) := (hbz.cell (p := ⟨b, o + 1, none⟩) hbl).trans hcell1
      have g0 : (wr.alloc (.cells #[.int .i64 y0, .int .i64 y1, .int .i64 s, .int .i64 0, .int .i64 0, .int .i64 0, .int .i64 0, .int .i64 0, .int .i64 0, .int .i64 0, .int .i64 0, .int .i64 0, .int .i64 0, .int .i64 mp] 41)).drew.cell? ⟨b, o, none⟩ = some (.int .u8 y0) := (hbx.cell (p := ⟨b, o, none⟩) hbl).trans hcell0
      have g1 : (wr.alloc (.cells #[.int .i64 y0, .int .i64 y1, .int .i64 s, .int .i64 0, .int .i64 0, .int .i64 0, .int .i64 0, .int .i64 0, .int .i64 0, .int .i64 0, .int .i64 0, .int .i64 0, .int .i64 0, .int .i64 mp] 41)).drew.cell? ⟨b, o + 1, none⟩ = some (.int .u8 y1) := (hbx.cell (p := ⟨b, o + 1, none⟩) hbl).trans hcell1
      have hn0 : (0 : Int) < (n : Int) := by omega
      have hn1 : (1 : Int) < (n : Int) := by omega
      have hn3 : 0 < n := by omega
      have hn4 : n ≠ 0 := by omega
      have ww0 : IntKind.i64.wrap y0 = y0 := by rw [IntKind.wrap_i64]; omega
      have ww1 : IntKind.i64.wrap y1 = y1 := by rw [IntKind.wrap_i64]; omega
      have wws : IntKind.i64.wrap s = s := by rw [IntKind.wrap_i64]; omega
      have HBR := Lib.hid hbr
      have HHC := Lib.hid hcap
      clear T4 ho hn hc' hcell0 hcell1 hbz hbx hbr HE1 hc1 hc2 hcap HZ0
      go_cut [9] from 28 to 57 (fun t9 wc => t9 = .pointer (some ⟨wr.heap.size, 0, none⟩) ∧ wc = (wr.alloc (.cells #[.int .i64 y0, .int .i64 y1, .int .i64 s, .int .i64 0, .int .i64 0, .int .i64 0, .int .i64 0, .int .i64 0, .int .i64 0, .int .i64 0, .int .i64 0, .int .i64 0, .int .i64 0, .int .i64 mp] 41)).drew)
      case first =>
        go_region_held3 (fun W => W.cell? ⟨b, o, none⟩ = some (.int .u8 y0) ∧ W.cell? ⟨b, o + 1, none⟩ = some (.int .u8 y1)) (first | exact ⟨d0, d1⟩ | exact ⟨f0, f1⟩ | exact ⟨g0, g1⟩) (first
          | (go_at_call 26; (with_reducible refine (T26.out _ (by assumption)).mono ?_); rintro e w' ⟨rfl, rfl⟩))
        all_goals (go_wp2_with fail; go_meet; exact ⟨rfl, by first | rfl | (rw [ww0, ww1, wws])⟩)
      case rest =>
        obtain ⟨rfl, hwc⟩ := hcut
        rw [← hwc] at HX2 HB2
        obtain ⟨gx, hgx⟩ : ∃ g, g = wr.heap.size := ⟨_, rfl⟩
        have hbl0 : wr.heap.size ≤ gx := by omega
        have hgw : w.heap.size ≤ gx := by have := HBR.out.size; omega
        rw [← hgx] at HX2 ⊢
        have hgl : gx < wc.heap.size := (Array.getElem?_eq_some_iff.1 HX2.out).1
        have HUB := Lib.hid (fun W (h : KeptG wc W gx) => HB2.out.trans (h.below hbl0 (by omega)))
        have HWB := Lib.hid (fun W (h : KeptG wc W gx) => HBR.out.trans ((HUB.out W h).mono HBR.out.size))
        have HGX := Lib.hid hgx
        clear hwc d0 d1 f0 f1 g0 g1 b0 b1 T26 ww0 ww1 wws hn0 hn1 hn3 hn4 hgx HB2
        go_wp2
        go_loopw [41] (fun i wi => ∃ j : Nat, j ≤ 10 ∧ i = .int .i64 j ∧ Hid (wi.heap[gx]? = some (iO (rdA D j) 41)) ∧ Hid (KeptG wc wi gx)) (fun i _ => 10 - (intOf i).toNat)
        case atStart => exact ⟨0, by omega, rfl, HX2, KeptG.refl _ _⟩
        case round =>
          obtain ⟨j, hj, rfl, HRW, HKP⟩ := hrel
          clear HX2
          by_cases hlj : j < 10
          · have tj := TJ.out _ (HWB.out _ HKP.out) j hlj
            have hset := rdA_set D j
            have yb := getV2_le (byt_mem HDB.out) (6 + 2 * j)
            obtain ⟨y, hy⟩ : ∃ y, y = getV D (6 + 2 * j) 2 := ⟨_, rfl⟩
            rw [← hy] at tj hset yb
            have HTJ := Lib.hid tj
            have ck := io_cell HRW.out (3 + j) (by rw [rdA_length]; omega)
            have fk := io_free HRW.out (3 + j)
            have hw6 := Wrote.setCell wr gx (3 + j) (.int .i64 y)
            have hr6 := io_set HRW.out (3 + j) y
            rw [hset] at hr6
            have HR6 := Lib.hid hr6
            have HK6 := Lib.hid (HKP.out.wrote hw6)
            have ej : (j : Int) < 10 := by omega
            clear tj hset hy hw6 hr6 yb
            go_wp2_with (go_at_call 26; (with_reducible refine HTJ.out.mono ?_); rintro e w' ⟨rfl, rfl⟩)
            go_roundw
            case rel => exact ⟨j + 1, by omega, by go_num, HR6.out, HK6.out⟩
            case measure => simp [intOf]; omega
          · obtain rfl : j = 10 := by omega
            have hrw := HRW.out
            rw [rdA_full] at hrw
            have hx14 := rd7_length D
            obtain ⟨x, hx⟩ : ∃ x, x = rd7 D := ⟨_, rfl⟩
            rw [← hx] at hrw hx14 HSU
            have HRG := Lib.hid (io_range hrw)
            have HI14 : Hid ((Try.prog.info? 41).map (·.size) = some x.length) := Lib.hid (by rw [infoR7, hx14])
            have HX14 := Lib.hid hx14
            have HNR := Lib.hid (HU.out.below (HUB.out _ HKP.out))
            have HWI := Lib.hid (HWB.out _ HKP.out)
            have HLT := Lib.hid (rdT_length l k)
            have u1 := Try.underlying41
            have u2 := Try.underlying22
            clear hrw hx14 hx
            go_wp2_with (first
              | (with_reducible refine wpList_load_nums rfl 41 (.tmp 9) rfl gx 0 rfl x _ HRG.out u1 rfl HI14.out ?_)
              | (with_reducible refine wpList_slice_ino rfl 22 41 (.tmp 54) rfl u2 infoRz x HX14.out rfl ?_)
              | (at_builtin
                 refine wpList_append_ino wr x HX14.out rfl 22 41 (.tmp 53) (.tmp 55) rfl u2 infoRz w.heap.size _ (rdT l k) rfl HNR.out (by rw [HLT.out]; omega) rfl HWI.out.size ?_
                 intro v7 w7 hob7 hb7))
            go_roundw
            case rel =>
              have hnx : Hid (NR w7 w.heap.size 41 v7 (rdT l (k + 1))) := by rw [HSU.out]; exact hob7
              exact ⟨k + 1, by omega, by go_num, hnx, HWI.out.trans hb7⟩
            case measure => simp [intOf]; omega
    · obtain rfl : k = 8 := by omega
      have hob2 := HU.out.sl
      have HOB := Lib.hid hob2
      have HBR := Lib.hid hbr
      cases hf : allF (rdT l 8)
      · have HF := Lib.hid hf
        have KE := Lib.hid (rEncI_no hob2 hf)
        clear hf hob2
        go_wp2_with (go_at_call 8; refine KE.out.mono ?_; rintro e w3 ⟨rfl, hb3⟩)
        go_ret2
        exact .inr ⟨(fun h => by have h2 := h.2.1; rw [HF.out] at h2; cases h2), rfl, HBR.out.trans (hb3.mono HBR.out.size)⟩
      · have HF := Lib.hid hf
        have KE := Lib.hid (rEncI_yes hob2 hf)
        clear hf hob2
        by_cases heq : encT (rdT l 8) = l
        · have HEQ := Lib.hid heq
          clear heq
          go_wp2_with (first
           | (go_at_call 8; refine KE.out.mono ?_; rintro e w3 ⟨u3, rfl, hob3, hb3⟩
              have hb03 := HBR.out.trans (hb3.mono HBR.out.size)
              have hc1 := conv_bsl hob3.bsl
              have hc2 := conv_bsl (HS.out.below hb03)
              rw [HEQ.out] at hc1))
          go_ret2
          exact .inl ⟨⟨HL.out, HF.out, HEQ.out⟩, _, rfl, HOB.out.below hb3, hb03⟩
        · have hby1 : Byt (encT (rdT l 8)) := encK7_byt _ 8
          obtain ⟨hcq, hcr⟩ := strs_ne hby1 HS.out.1 heq strOf_inj
          have HEQ := Lib.hid heq
          clear heq hby1
          go_wp2_with (first
           | (go_at_call 8; refine KE.out.mono ?_; rintro e w3 ⟨u3, rfl, hob3, hb3⟩
              have hb03 := HBR.out.trans (hb3.mono HBR.out.size)
              have hc1 := conv_bsl hob3.bsl
              have hc2 := conv_bsl (HS.out.below hb03)))
          go_ret2
          exact .inr ⟨(fun h => HEQ.out h.2.2), rfl, hb03⟩
theorem rDecI_any {w : World} {v : Value} {l : List Int} (hs : BSl w v l) : Calls Try.prog 10 #[v] w (DecT7 l w) := by
  by_cases h : l.length = 256
  · exact rDecI_256 hs h
  · obtain ⟨ao, cap, rfl, _⟩ := hs.shape
    exact (rDecI_len ao _ cap h).mono fun e w' ⟨he, hw⟩ => .inr ⟨fun hp => h hp.1, he, by rw [← hw]; exact Below.refl _ _⟩
end Go.Proofs.Ytbikbglkecbgjaa
