/- Contracts: the reference's two and DecodeSuper. -/
import Derived.Test.YtnpniackcdcooaaSupX
import Derived.Test.YtnpniackcdcooaaSupD
import Derived.Deep.RegionHeld3
import Derived.Deep.Cut
namespace Go.Proofs.Ytnpniackcdcooaa
open Go.RowKit
set_option linter.unusedVariables false

theorem rTwo_of {w : World} {v : Value} {c : List Int} (hs : BSl w v c) (hc : c.length = 252) (a : Nat) (ha : a + 2 ≤ 252) (y : Int) (hy : y = getV c a 2) : Calls Try.prog 31 #[v, .int .i64 (a : Int)] w fun e w' => e = .returned (.int .i64 y) ∧ w = w' := by
  have hb := getV_bound (byt_mem hs.1) a 2
  have e2 : (256 : Int) ^ 2 = 65536 := rfl
  have hg := rGet_any' hs (by omega) (a : Int) 2 (by omega) (by omega)
  have hn : getN c (a : Int) 2 = y := by unfold getN; rw [if_pos (by omega), hy]; rfl
  rw [hn] at hg
  rw [← hy, e2] at hb
  have HG := Lib.hid hg
  clear hs hc ha hy hn hg e2
  go_enter Try.func31, Try.ntmps31
  go_wp2_with (go_at_call 38; refine HG.out.mono ?_; rintro e w' ⟨rfl, rfl⟩)
  go_ret
  exact ⟨rfl, rfl⟩
theorem infoRS : (Try.prog.info? 24).map (·.size) = some 12 := by kernel_rfl
theorem wpList_loadR {ops : Array Oper} {rest : List Oper} {o : Oper} {a : Act} {w : World} {Q : Exit → Act → World → Prop} (hgd : o.guard = none) (x : Operand) (ho : o.op = .load 24 x)
    (g : Nat) (hx : a.eval x = .pointer (some ⟨g, 0, none⟩)) (L : List Int) (hL : L.length = 12) (T : TypeId) (hg : w.heap[g]? = some (supO L T)) (h : wpList Try.prog ops Q rest (a.put o.dst (supV L)) w) : wpList Try.prog ops Q (o :: rest) a w :=
  wpList_load_row hgd 24 x ho g hx T _ (0, 0) _ hg Try.underlying24 rfl (by rw [infoRS]; simp [hL]) h
theorem wpList_storeR {ops : Array Oper} {rest : List Oper} {o : Oper} {a : Act} {w : World} {Q : Exit → Act → World → Prop} (hgd : o.guard = none) (x y : Operand) (ho : o.op = .store 24 x y)
    (g : Nat) (hx : a.eval x = .pointer (some ⟨g, 0, none⟩)) (L M : List Int) (hy : a.eval y = supV L) (hL : L.length = 12) (hM : M.length = 12) (T : TypeId) (hg : w.heap[g]? = some (supO M T))
    (h : ∀ w', Wrote w w' g → w'.heap[g]? = some (supO L T) → wpList Try.prog ops Q rest (a.put o.dst undef) w') : wpList Try.prog ops Q (o :: rest) a w :=
  wpList_store_row hgd 24 x y ho g _ hx hy T _ hg (by rw [infoRS]; simp [hL]) (by simp [hL, hM]) (ints_one L) (h _ (Wrote.setRow _ _ _) (setRow_heap _ _ _ _ _ _ hg))
theorem ret_supR {fn : Func} {p u : Tmp} (h : fn.results = #[.cell p 24, .tmp u]) (tmps : Array Value) (w : World) (g : Nat) (T : TypeId) (L : List Int) (x : Value) (hL : L.length = 12) (hp : tmps.getD p undef = .pointer (some ⟨g, 0, none⟩)) (hg : w.heap[g]? = some (supO L T)) (hx : tmps.getD u undef = x) :
    (results fn tmps).run Try.prog w = .ok (.tuple #[supV L, x]) w := by
  rw [results_cell_tmp h, hp, hx]
  simp only [asAddr, Sem.run_pure, Result.andThen_ok]
  rw [run_loadVar_row w g T 24 _ (0, 0) _ hg Try.underlying24 rfl (by rw [infoRS]; simp [hL])]
  rfl
theorem rOpen_not {w : World} {v : Value} {l : List Int} (hs : BSl w v l) (h : ¬ sealed l) : Calls Try.prog 30 #[v] w fun e w' => e = .returned (.tuple #[.slice none 0 0, .bool false]) ∧ Below w.heap.size w w' :=
  (rOpen_any hs).mono fun e w' ho => ho.elim (fun h1 => absurd h1.1 h) fun h1 => h1.2
theorem rOpen_is {w : World} {v : Value} {l : List Int} (hs : BSl w v l) (h : sealed l) : Calls Try.prog 30 #[v] w fun e w' => ∃ v, e = .returned (.tuple #[v, .bool true]) ∧ OB w' w.heap.size v (l.take 252) ∧ Below w.heap.size w w' :=
  (rOpen_any hs).mono fun e w' ho => ho.elim (fun h1 => h1.2) fun h1 => absurd h h1.1
theorem rEnc_no {L : List Int} (hL : L.length = 12) (hT : Top L) (h : frmS L = false) (w : World) : Calls Try.prog 8 #[supV L] w fun e w' => e = .returned (.tuple #[.slice none 0 0, .int .i64 1]) ∧ Below w.heap.size w w' :=
  (rEnc_of hL hT w).mono fun e w' ho => ho.elim (fun h1 => by rw [h] at h1; cases h1.1) fun h1 => h1.2
theorem rEnc_is {L : List Int} (hL : L.length = 12) (hT : Top L) (h : frmS L = true) (w : World) : Calls Try.prog 8 #[supV L] w fun e w' => ∃ v, e = .returned (.tuple #[v, .int .i64 0]) ∧ OB w' w.heap.size v (encS L) ∧ Below w.heap.size w w' :=
  (rEnc_of hL hT w).mono fun e w' ho => ho.elim (fun h1 => h1.2) fun h1 => by rw [h] at h1; cases h1.1

theorem rDec_not {w : World} {v : Value} {l : List Int} (hs : BSl w v l) (h : ¬ sealed l) : Calls Try.prog 14 #[v] w fun e w' => e = .returned (.tuple #[supV zeroS, .int .i64 18]) ∧ Below w.heap.size w w' := by
  have hb1 := below_box w (supO zeroS 24)
  have hr1 := heap_alloc_new w (supO zeroS 24)
  obtain ⟨w1, hw1⟩ : ∃ w1, w1 = w.alloc (supO zeroS 24) := ⟨_, rfl⟩
  rw [← hw1] at hb1 hr1
  have h1 : w.alloc (.cells #[.int .i64 0, .int .i64 0, .int .i64 0, .int .i64 0, .int .i64 0, .int .i64 0, .int .i64 0, .int .i64 0, .int .i64 0, .int .i64 0, .int .i64 0, .int .i64 0] 24) = w1 := by rw [hw1]; rfl
  have hz1 : w.heap.size < w1.heap.size := by rw [hw1]; simp
  have H1 := Lib.hid h1
  have HR1 := Lib.hid hr1
  have HO := Lib.hid (rOpen_not (hs.below hb1) h)
  clear hs h h1 hw1 hr1
  go_enter Try.func14, Try.ntmps14
  go_wp2_with (first
    | (go_at_call 30; rw [H1.out]; refine HO.out.mono ?_; rintro e w2 ⟨rfl, hb2⟩
       have hr2 : w2.heap[w.heap.size]? = some (supO zeroS 24) := (hb2.block _ hz1).trans HR1.out)
    | (with_reducible refine wpList_storeR rfl (.tmp 2) (.tmp 17) rfl w.heap.size rfl zeroS zeroS rfl rfl rfl _ hr2 ?_; intro w3 hw3 hr3))
  exact bodyPost_ret (ret_supR rfl _ _ w.heap.size _ _ _ rfl rfl hr3 rfl) rfl ⟨rfl, (hb1.trans (hb2.mono hb1.size)).trans (hw3.below (Nat.le_refl _))⟩

theorem ob_shape {w : World} {B : Nat} {v : Value} {c : List Int} (h : OB w B v c) (hc : c.length = 252) : ∃ gc cap, v = .slice (some ⟨gc, 0, none⟩) 252 cap ∧ ∀ j, j < 252 → w.cell? ⟨gc, j, none⟩ = some (.int .u8 (c.getD j 0)) := by
  rcases h.2.2 with ⟨_, h0⟩ | ⟨g, cap, cur, hv, hg, hh, hnc, hcm, hcs, ht⟩
  · omega
  · refine ⟨g, cap, by rw [hv, hc], fun j hj => ?_⟩
    rw [cell_of_row _ _ _ _ _ _ hh]
    have : (cur.toList.take (c.length * 1))[j]? = (c.map (Value.int .u8))[j]? := by rw [ht]
    rw [List.getElem?_take, if_pos (by omega)] at this
    simpa [List.getD_eq_getElem?_getD, hc, hj] using this
theorem pos_tab (j : Nat) : pos (6 + j) = 19 + 2 * j := by
  induction j with
  | zero => rfl
  | succ j ih =>
    show pos (6 + j) + wid (6 + j) = _
    rw [ih, wid, if_neg (by omega)]; omega
theorem rdTo_six (c : List Int) (hc : c.length = 252) : rdTo c 6 = [getV c 8 2, c.getD 10 0, getV c 11 2, getV c 13 2, getV c 15 2, getV c 17 2, 0, 0, 0, 0, 0, 0] := by
  have h : getV c 10 1 = c.getD 10 0 := by rw [getV_head c 10 0 (by omega), getV_zero]; omega
  rw [← h]; rfl
/-- What Decode hands back of a sealed block. -/
def DecIs (l L : List Int) (R : List Int) (E : Int) : Prop := (frmS L = true → encS L = l → R = L ∧ E = 0) ∧ (¬ (frmS L = true ∧ encS L = l) → R = zeroS ∧ E = 18)
theorem HB6BY (L : List Int) : Byt (encS L) := byt_of_mem fun x hx => by
  unfold encS sealS fillS at hx
  rcases List.mem_append.1 hx with h | h
  · rcases List.mem_append.1 h with h | h
    · exact conS_byt L 12 x h
    · rw [List.eq_of_mem_replicate h]; decide
  · exact lowB_mem _ _ x h
set_option maxHeartbeats 4000000 in
theorem rDec_mid {w : World} {v : Value} {l : List Int} (hs : BSl w v l) (h : sealed l) (R : List Int) (E : Int) (hRE : DecIs l (rdS (l.take 252)) R E) : Calls Try.prog 14 #[v] w fun e w' => e = .returned (.tuple #[supV R, .int .i64 E]) ∧ Below w.heap.size w w' := by
  have hb1 := below_box w (supO zeroS 24)
  have hr1 := heap_alloc_new w (supO zeroS 24)
  obtain ⟨w1, hw1⟩ : ∃ w1, w1 = w.alloc (supO zeroS 24) := ⟨_, rfl⟩
  rw [← hw1] at hb1 hr1
  have h1 : w.alloc (.cells #[.int .i64 0, .int .i64 0, .int .i64 0, .int .i64 0, .int .i64 0, .int .i64 0, .int .i64 0, .int .i64 0, .int .i64 0, .int .i64 0, .int .i64 0, .int .i64 0] 24) = w1 := by rw [hw1]; rfl
  have hz1 : w.heap.size < w1.heap.size := by rw [hw1]; simp
  have H1 := Lib.hid h1
  have HR1 := Lib.hid hr1
  have HO := Lib.hid (rOpen_is (hs.below hb1) h)
  have hlt := take_len h
  have hby := byt_take hs.1 252
  have HSV := Lib.hid hs
  have HRE := Lib.hid hRE
  clear hRE
  obtain ⟨c, hc⟩ : ∃ c, c = l.take 252 := ⟨_, rfl⟩
  rw [← hc] at hlt HO hby HRE
  have HLT := Lib.hid hlt
  clear hs h h1 hw1 hr1 hlt hc
  go_enter Try.func14, Try.ntmps14
  go_wp2_with (first
    | (go_at_call 30; rw [H1.out]; refine HO.out.mono ?_; rintro e w2 ⟨v2, rfl, hob2, hb2⟩))
  obtain ⟨gc, cap, rfl, hgc⟩ := ob_shape hob2 HLT.out
  have x10 := hgc 10 (by decide)
  obtain ⟨y, hy⟩ : ∃ y, y = c.getD 10 0 := ⟨_, rfl⟩
  rw [← hy] at x10
  have hy0 := hby 10
  rw [← hy] at hy0
  have HT := fun (a : Nat) (ha : a + 2 ≤ 252) (W : World) (hW : Below w2.heap.size w2 W) => rTwo_of (hob2.bsl.below hW) HLT.out a ha _ rfl
  obtain ⟨y8, hy8⟩ : ∃ y8, y8 = getV c 8 2 := ⟨_, rfl⟩
  obtain ⟨y11, hy11⟩ : ∃ y8, y8 = getV c 11 2 := ⟨_, rfl⟩
  obtain ⟨y13, hy13⟩ : ∃ y8, y8 = getV c 13 2 := ⟨_, rfl⟩
  obtain ⟨y15, hy15⟩ : ∃ y8, y8 = getV c 15 2 := ⟨_, rfl⟩
  obtain ⟨y17, hy17⟩ : ∃ y8, y8 = getV c 17 2 := ⟨_, rfl⟩
  have T8 : Hid (∀ W, Below w2.heap.size w2 W → Calls Try.prog 31 #[.slice (some ⟨gc, 0, none⟩) 252 cap, .int .i64 8] W fun e w' => e = .returned (.int .i64 y8) ∧ W = w') := by rw [hy8]; exact fun W h => HT 8 (by decide) W h
  have T11 : Hid (∀ W, Below w2.heap.size w2 W → Calls Try.prog 31 #[.slice (some ⟨gc, 0, none⟩) 252 cap, .int .i64 11] W fun e w' => e = .returned (.int .i64 y11) ∧ W = w') := by rw [hy11]; exact fun W h => HT 11 (by decide) W h
  have T13 : Hid (∀ W, Below w2.heap.size w2 W → Calls Try.prog 31 #[.slice (some ⟨gc, 0, none⟩) 252 cap, .int .i64 13] W fun e w' => e = .returned (.int .i64 y13) ∧ W = w') := by rw [hy13]; exact fun W h => HT 13 (by decide) W h
  have T15 : Hid (∀ W, Below w2.heap.size w2 W → Calls Try.prog 31 #[.slice (some ⟨gc, 0, none⟩) 252 cap, .int .i64 15] W fun e w' => e = .returned (.int .i64 y15) ∧ W = w') := by rw [hy15]; exact fun W h => HT 15 (by decide) W h
  have T17 : Hid (∀ W, Below w2.heap.size w2 W → Calls Try.prog 31 #[.slice (some ⟨gc, 0, none⟩) 252 cap, .int .i64 17] W fun e w' => e = .returned (.int .i64 y17) ∧ W = w') := by rw [hy17]; exact fun W h => HT 17 (by decide) W h
  have b0 : Below w2.heap.size w2 w2.drew := (Below.refl _ _).drew
  have b1 : Below w2.heap.size w2 (w2.alloc (.cells #[.int .i64 0, .int .i64 0, .int .i64 0, .int .i64 0, .int .i64 0, .int .i64 0, .int .i64 0, .int .i64 0, .int .i64 0, .int .i64 0, .int .i64 0, .int .i64 0] 24)).drew := below_drewN' (below_box w2 _) 1
  have c0 : w2.drew.cell? ⟨gc, 10, none⟩ = some (.int .u8 y) := x10
  have hrow : rdTo c 6 = [y8, y, y11, y13, y15, y17, 0, 0, 0, 0, 0, 0] := by rw [rdTo_six c HLT.out, hy, hy8, hy11, hy13, hy15, hy17]
  have hww : IntKind.i64.wrap y = y := by rw [IntKind.wrap_i64]; omega
  have HOB := Lib.hid hob2
  have HB2 := Lib.hid hb2
  have HBY := Lib.hid hby
  have HROW := Lib.hid hrow
  clear HT hy hy8 hy11 hy13 hy15 hy17 hob2 hgc hb2 hby hrow
  go_cut [6] from 18 (fun t6 wc => t6 = .pointer (some ⟨w2.heap.size, 0, none⟩) ∧ wc = (w2.alloc (.cells #[.int .i64 y8, .int .i64 y, .int .i64 y11, .int .i64 y13, .int .i64 y15, .int .i64 y17, .int .i64 0, .int .i64 0, .int .i64 0, .int .i64 0, .int .i64 0, .int .i64 0] 24)).drew)
  case first =>
    go_region_held3 (fun W => W.cell? ⟨gc, 10, none⟩ = some (.int .u8 y)) (go_keep) (first
      | (go_at_call 31; with_reducible refine (T8.out _ (by assumption)).mono ?_; rintro e w' ⟨rfl, rfl⟩)
      | (go_at_call 31; with_reducible refine (T11.out _ (by assumption)).mono ?_; rintro e w' ⟨rfl, rfl⟩)
      | (go_at_call 31; with_reducible refine (T13.out _ (by assumption)).mono ?_; rintro e w' ⟨rfl, rfl⟩)
      | (go_at_call 31; with_reducible refine (T15.out _ (by assumption)).mono ?_; rintro e w' ⟨rfl, rfl⟩)
      | (go_at_call 31; with_reducible refine (T17.out _ (by assumption)).mono ?_; rintro e w' ⟨rfl, rfl⟩))
    all_goals (go_wp2_with fail; go_meet; exact ⟨rfl, by first | rfl | (rw [hww])⟩)
  case rest =>
    obtain ⟨rfl, hwc⟩ := hcut
    clear T8 T11 T13 T15 T17 x10 c0 b0 b1 hy0 hww
    have hb3 : Below w2.heap.size w2 wc := by rw [hwc]; exact below_drewN' (below_box w2 _) 1
    obtain ⟨gs, hgs⟩ : ∃ gs, gs = w2.heap.size := ⟨_, rfl⟩
    have hrs : wc.heap[gs]? = some (supO (rdTo c 6) 24) := by rw [hwc, hgs, HROW.out]; exact heap_alloc_new w2 _
    have hgl : gs < wc.heap.size := (Array.getElem?_eq_some_iff.1 hrs).1
    have hz2 : w.heap.size < w2.heap.size := Nat.lt_of_lt_of_le hz1 HB2.out.size
    have hr2 : w2.heap[w.heap.size]? = some (supO zeroS 24) := (HB2.out.block _ hz1).trans HR1.out
    have hb12 : Below w.heap.size w w2 := hb1.trans (HB2.out.mono hb1.size)
    rw [← hgs] at hb3 ⊢
    have HB3 := Lib.hid hb3
    have HR2 := Lib.hid hr2
    have HB12 := Lib.hid hb12
    have HGS := Lib.hid hgs
    clear hwc hb3 hr2 hb12 hgs hz1 hb1
    go_wp2_with fail
    have HOV : ∀ W, Kept wc W gs → BSl W (.slice (some ⟨gc, 0, none⟩) 252 cap) c := fun W hk => by
      have hx : Below gs w2 W := HB3.out.trans (hk.below (Nat.le_refl _) (Nat.le_of_lt hgl))
      rw [HGS.out] at hx
      exact HOB.out.bsl.below hx
    have HOVH := Lib.hid HOV
    have HLT0 := Lib.hid hgl
    clear HOV hgl
    go_loopw [33] (fun i wr => ∃ j : Nat, j ≤ 6 ∧ i = .int .i64 j ∧ Hid (wr.heap[gs]? = some (supO (rdTo c (6 + j)) 24)) ∧ Hid (Kept wc wr gs)) (fun i _ => 6 - (intOf i).toNat)
    case atStart => exact ⟨0, by omega, rfl, hrs, Kept.refl _ _⟩
    case round =>
      obtain ⟨j, hj, rfl, HRW, HKP⟩ := hrel
      clear hrs
      by_cases hlt : j < 6
      · have HT := rTwo_of (HOVH.out _ HKP.out) HLT.out (19 + 2 * j) (by omega) _ rfl
        have hset := rdTo_set c (6 + j) (by omega)
        rw [pos_tab j, show wid (6 + j) = 2 from if_neg (by omega)] at hset
        obtain ⟨y, hy⟩ : ∃ y, y = getV c (19 + 2 * j) 2 := ⟨_, rfl⟩
        rw [← hy] at HT hset
        have TJ : Hid (Calls Try.prog 31 #[.slice (some ⟨gc, 0, none⟩) 252 cap, .int .i64 (19 + 2 * (j : Int))] wr fun e w' => e = .returned (.int .i64 y) ∧ wr = w') := by
          rw [show (19 + 2 * (j : Int)) = ((19 + 2 * j : Nat) : Int) by push_cast; rfl]; exact HT
        have ej : (j : Int) < 6 := by omega
        have ck := sup_cell HRW.out (6 + j) (by rw [rdTo_length]; omega)
        have fk : wr.frozen? ⟨gs, 6 + j, none⟩ = false := by simp [World.frozen?, HRW.out, supO]
        have hw6 := Wrote.setCell wr gs (6 + j) (.int .i64 y)
        have hr6 := supO_set HRW.out (6 + j) y
        rw [hset] at hr6
        have HK6 := Lib.hid (HKP.out.wrote hw6)
        have HR6 := Lib.hid hr6
        clear HT hset hy hr6 hw6
        go_wp2_with (go_at_call 31; refine TJ.out.mono ?_; rintro e w' ⟨rfl, rfl⟩)
        go_roundw
        case rel => exact ⟨j + 1, by omega, by go_num, HR6.out, HK6.out⟩
        case measure => simp [intOf]; omega
      · obtain rfl : j = 6 := by omega
        have hrw := HRW.out
        rw [show rdTo c (6 + 6) = rdS c from rdTo_full c] at hrw
        have hrl := rdS_length c
        have htop := top_rd HBY.out
        obtain ⟨L, hL⟩ : ∃ L, L = rdS c := ⟨_, rfl⟩
        rw [← hL] at hrw hrl htop HRE
        have hkw := HKP.out.below (B := w.heap.size) (by have := HGS.out; omega) (by have := HGS.out; have := HLT0.out; omega)
        have hgr : wr.heap[w.heap.size]? = some (supO zeroS 24) := by
          rw [HKP.out.2.2.2.2 _ (by have := HGS.out; have := HLT0.out; omega) (by have := HGS.out; omega), HB3.out.block _ (by have := HGS.out; omega)]; exact HR2.out
        have hb0 : Below w.heap.size w wr := (HB12.out.trans (HB3.out.mono (by have := HGS.out; omega))).trans hkw
        have hgw : w.heap.size < wr.heap.size := (Array.getElem?_eq_some_iff.1 hgr).1
        clear hL hkw
        cases hf : frmS L
        · have hre := HRE.out.2 (by rw [hf]; simp)
          have HEN := Lib.hid (rEnc_no hrl htop hf)
          clear hf
          go_wp2_with (first
            | (with_reducible refine wpList_loadR rfl (.tmp 6) rfl gs rfl L hrl _ hrw ?_)
            | (go_at_call 8; refine (HEN.out _).mono ?_; rintro e w6 ⟨rfl, hb6⟩
               have hr6 : w6.heap[w.heap.size]? = some (supO zeroS 24) := by rw [hb6.block _ hgw]; exact hgr
               have hb06 := hb0.trans (hb6.mono hb0.size))
            | (with_reducible refine wpList_storeR rfl (.tmp 2) (.tmp 59) rfl w.heap.size rfl zeroS zeroS rfl rfl rfl _ hr6 ?_; intro w7 hw7 hr7))
          exact bodyPost_ret (ret_supR rfl _ _ w.heap.size _ _ _ rfl rfl hr7 rfl) rfl ⟨by rw [hre.1, hre.2]; rfl, hb06.trans (hw7.below (Nat.le_refl _))⟩
        · have HEN := Lib.hid (rEnc_is hrl htop hf)
          by_cases heq : encS L = l
          · have hre := HRE.out.1 hf heq
            have HEQ := Lib.hid heq
            clear hf heq
            go_wp2_with (first
              | (with_reducible refine wpList_loadR rfl (.tmp 6) rfl gs rfl L hrl _ hrw ?_)
              | (go_at_call 8; refine (HEN.out _).mono ?_; rintro e w6 ⟨v6, rfl, hob6, hb6⟩
                 have hr6 : w6.heap[w.heap.size]? = some (supO zeroS 24) := by rw [hb6.block _ hgw]; exact hgr
                 have hs6 : w6.heap[gs]? = some (supO L 24) := by rw [hb6.block _ (Array.getElem?_eq_some_iff.1 hrw).1]; exact hrw
                 have hb06 := hb0.trans (hb6.mono hb0.size)
                 have hc1 := conv_bsl hob6.bsl
                 have hc2 := conv_bsl (HSV.out.below hb06)
                 rw [← HEQ.out] at hc2)
              | (with_reducible refine wpList_loadR rfl (.tmp 6) rfl gs rfl L hrl _ hs6 ?_)
              | (with_reducible refine wpList_storeR rfl (.tmp 2) (.tmp 60) rfl w.heap.size rfl L zeroS rfl hrl rfl _ hr6 ?_; intro w7 hw7 hr7))
            exact bodyPost_ret (ret_supR rfl _ _ w.heap.size _ _ _ hrl rfl hr7 rfl) rfl ⟨by rw [hre.1, hre.2]; rfl, hb06.trans (hw7.below (Nat.le_refl _))⟩
          · have hre := HRE.out.2 (fun hh => heq hh.2)
            have hby1 : Byt (encS L) := HB6BY L
            have hcn : ¬ (strOfNums (encS L)).toList = (strOfNums l).toList := fun hh => by
              rw [ByteArray.toList_eq, ByteArray.toList_eq] at hh
              exact heq (strOf_inj hby1 HSV.out.1 hh)
            have hcq : ((strOfNums (encS L)).toList != (strOfNums l).toList) = true := by rw [bne_iff_ne]; exact hcn
            have hcr : ((strOfNums (encS L)).toList == (strOfNums l).toList) = false := by rw [beq_eq_false_iff_ne]; exact hcn
            clear hf heq hby1
            go_wp2_with (first
              | (with_reducible refine wpList_loadR rfl (.tmp 6) rfl gs rfl L hrl _ hrw ?_)
              | (go_at_call 8; refine (HEN.out _).mono ?_; rintro e w6 ⟨v6, rfl, hob6, hb6⟩
                 have hr6 : w6.heap[w.heap.size]? = some (supO zeroS 24) := by rw [hb6.block _ hgw]; exact hgr
                 have hb06 := hb0.trans (hb6.mono hb0.size)
                 have hc1 := conv_bsl hob6.bsl
                 have hc2 := conv_bsl (HSV.out.below hb06))
              | (with_reducible refine wpList_storeR rfl (.tmp 2) (.tmp 59) rfl w.heap.size rfl zeroS zeroS rfl rfl rfl _ hr6 ?_; intro w7 hw7 hr7))
            exact bodyPost_ret (ret_supR rfl _ _ w.heap.size _ _ _ rfl rfl hr7 rfl) rfl ⟨by rw [hre.1, hre.2]; rfl, hb06.trans (hw7.below (Nat.le_refl _))⟩

theorem rDec_of {w : World} {v : Value} {l : List Int} (hs : BSl w v l) : Calls Try.prog 14 #[v] w (DecOut l w) := by
  by_cases h : sealed l
  · by_cases hf : frmS (rdS (l.take 252)) = true ∧ encS (rdS (l.take 252)) = l
    · exact (rDec_mid hs h (decS l) 0 ⟨fun _ _ => ⟨rfl, rfl⟩, fun hn => absurd hf hn⟩).mono fun e w' ⟨h1, h2⟩ => ⟨h2, .inl ⟨⟨h, hf.1, hf.2⟩, h1⟩⟩
    · exact (rDec_mid hs h zeroS 18 ⟨fun h1 h2 => absurd ⟨h1, h2⟩ hf, fun _ => ⟨rfl, rfl⟩⟩).mono fun e w' ⟨h1, h2⟩ => ⟨h2, .inr ⟨fun hh => hf ⟨hh.2.1, hh.2.2⟩, h1⟩⟩
  · exact (rDec_not hs h).mono fun e w' ⟨h1, h2⟩ => ⟨h2, .inr ⟨fun hh => h hh.1, h1⟩⟩
end Go.Proofs.Ytnpniackcdcooaa
