/- Contract of the reference's EncodeInodes. -/
import Derived.Test.YtbikbglkecbgjaaInoH
import Derived.Test.YtbikbglkecbgjaaInoK
namespace Go.Proofs.Ytbikbglkecbgjaa
open Go.RowKit
set_option linter.unusedVariables false

theorem bsl_cells (w : World) (l : List Int) (hl : Byt l) (C : Array Value) (hC : C = (l.map (Value.int .u8)).toArray) (n : Nat) (hn : l.length = n) : BSl (w.alloc (.cells C 5)) (.slice (some ⟨w.heap.size, 0, none⟩) n n) l := by
  subst hC hn
  refine ⟨hl, .inr ⟨⟨w.heap.size, 0, none⟩, l.length, rfl, Nat.le_refl _, fun j hj => ⟨by simp, rfl, ?_⟩⟩⟩
  show (w.alloc _).cell? ⟨w.heap.size, 0 + j, none⟩ = _
  rw [Nat.zero_add, cell_of_row _ _ _ _ _ _ (heap_alloc_new w _)]
  simp [List.getD_eq_getElem?_getD, hj]
theorem low_one (n : Int) (h : 0 ≤ n ∧ n ≤ 255) : lowB n 1 = [n] := by
  rw [lowB_succ, lowB_zero, List.nil_append]
  simp only [Nat.mul_zero, Int.pow_zero, Int.ediv_one]
  rw [Int.emod_eq_of_lt h.1 (by omega)]
theorem con7_two (x : List Int) (h0 : 0 ≤ x.getD 0 0 ∧ x.getD 0 0 ≤ 255) (h1 : 0 ≤ x.getD 1 0 ∧ x.getD 1 0 ≤ 255) : con7 x 2 = [x.getD 0 0, x.getD 1 0] := by
  show ([] ++ lowB (x.getD 0 0) 1) ++ lowB (x.getD 1 0) 1 = _
  rw [low_one _ h0, low_one _ h1]; rfl
theorem grown_row {w w' : World} {row : Option Nat} (h : w.grownBy w' row) (b : Nat) (hb : b < w.heap.size) (hne : ∀ k, row = some k → k ≠ b) : w'.heap[b]? = w.heap[b]? :=
  h.block b hb (fun e => hne b e.symm rfl)
theorem infoR7 : (Try.prog.info? 41).map (·.size) = some 14 := by kernel_rfl
theorem rEncI_len {w : World} (ao : Option Addr) (len cap : Nat) (h : len ≠ 8) : Calls Try.prog 8 #[.slice ao len cap] w fun e w' => e = .returned (.tuple #[.slice none 0 0, .int .i64 1]) ∧ w = w' := by
  have hne : ((len : Int) != 8) = true := by simp; omega
  go_enter Try.func8, Try.ntmps8
  go_wp2
  go_ret2
  exact ⟨rfl, rfl⟩
set_option maxHeartbeats 4000000 in
theorem rEncI_8 {w : World} {v : Value} {O : List (List Int)} (hs : NSl w v O) (h8 : O.length = 8) : Calls Try.prog 8 #[v] w (EncT7 O w) := by
  obtain ⟨b, off, cap, rfl, hb, hc⟩ := hs.at (by omega)
  have H14 := Lib.hid hs.1
  have HYE := Lib.hid (allF_yes h8)
  have HNO := Lib.hid (fun k hk h => allF_no (k := k) h8 hk h)
  have H8 := Lib.hid h8
  rw [h8] at hc ⊢
  have HC := Lib.hid hc
  clear hs hc h8
  go_enter Try.func8, Try.ntmps8
  go_wp2
  go_loopw [4, 13] (fun u i wr => ∃ k : Nat, k ≤ 8 ∧ i = .int .i64 k ∧ Hid (OB wr w.heap.size u (encK7 O k)) ∧ Hid (∀ j, j < k → frmI (O.getD j []) = true) ∧ Below w.heap.size w wr) (fun _ i _ => 8 - (intOf i).toNat)
  case atStart => exact ⟨0, by omega, rfl, ⟨byt_nil, World.ownsRow_nil w _ _ _⟩, fun j hj => absurd hj (Nat.not_lt_zero _), Below.refl _ _⟩
  case round =>
    obtain ⟨k, hk, rfl, HOB, HK, hbr⟩ := hrel
    by_cases hlt : k < 8
    · have hrg := range_low (HC.out k hlt) hbr hb
      have hno := HNO.out k hlt
      have h14 := len14_get H14.out k (by rw [H8.out]; exact hlt)
      have hpk : encK7 O (k + 1) = encK7 O k ++ enc7 (O.getD k []) := rfl
      obtain ⟨x, hx⟩ : ∃ x, x = O.getD k [] := ⟨_, rfl⟩
      rw [← hx] at hrg hpk hno h14
      have ek : (k : Int) < 8 := by omega
      have HX := Lib.hid hx
      have HPK := Lib.hid hpk
      have HL := Lib.hid (encK7_length O k)
      have HN1 := Lib.hid hno
      have HRG := Lib.hid hrg
      have HX14 : Hid (zeroI.length = x.length) := Lib.hid h14.symm
      have HL14 := Lib.hid h14
      have HI14 : Hid ((Try.prog.info? 41).map (·.size) = some x.length) := Lib.hid (by rw [infoR7, h14])
      have hz : (wr.alloc (.cells #[.int .i64 0, .int .i64 0, .int .i64 0, .int .i64 0, .int .i64 0, .int .i64 0, .int .i64 0, .int .i64 0, .int .i64 0, .int .i64 0, .int .i64 0, .int .i64 0, .int .i64 0, .int .i64 0] 41)).heap[wr.heap.size]? = some (iO zeroI 41) := heap_alloc_new wr _
      have hbz := below_box wr (.cells #[.int .i64 0, .int .i64 0, .int .i64 0, .int .i64 0, .int .i64 0, .int .i64 0, .int .i64 0, .int .i64 0, .int .i64 0, .int .i64 0, .int .i64 0, .int .i64 0, .int .i64 0, .int .i64 0] 41)
      have HZ := Lib.hid hz
      have HBZ := Lib.hid hbz
      have u1 := Try.underlying41
      obtain ⟨B, hf⟩ : ∃ B, frmI x = B := ⟨_, rfl⟩
      have HF := Lib.hid hf
      have KF := Lib.hid (rForm_is h14 B hf)
      clear hx hpk hno hrg h14 hz hbz hf
      cases B
      · go_wp2_with (first
          | (with_reducible refine wpList_load_nums rfl 41 (.tmp 18) rfl b (off + k * 14) rfl x _ HRG.out u1 rfl HI14.out ?_)
          | (with_reducible refine wpList_store_nums rfl 41 (.tmp 6) (.tmp 19) rfl wr.heap.size rfl x zeroI rfl HX14.out HI14.out _ HZ.out ?_
             intro w4 hw4 hr4
             have hrg4 := io_range hr4
             have hb4 := HBZ.out.trans (hw4.below (Nat.le_refl _)))
          | (with_reducible refine wpList_load_nums rfl 41 (.tmp 6) rfl wr.heap.size 0 rfl x _ hrg4 u1 rfl HI14.out ?_)
          | (go_at_call 14; refine (KF.out _).mono ?_; rintro e w5 ⟨rfl, hb5⟩))
        go_ret2
        exact .inr ⟨HN1.out HF.out, rfl, (hbr.trans (hb4.mono hbr.size)).trans (hb5.mono (Nat.le_trans hbr.size hb4.size))⟩
      · have n0 := frm7_num HL14.out HF.out 0 (by decide)
        have n1 := frm7_num HL14.out HF.out 1 (by decide)
        have n2 := frm7_num HL14.out HF.out 2 (by decide)
        have n13 := frm7_num HL14.out HF.out 13 (by decide)
        rw [show w7 0 = 1 from rfl, show (256 : Int) ^ 1 = 256 from rfl] at n0
        rw [show w7 1 = 1 from rfl, show (256 : Int) ^ 1 = 256 from rfl] at n1
        rw [show w7 2 = 4 from rfl, show (256 : Int) ^ 4 = 4294967296 from rfl] at n2
        rw [show w7 13 = 2 from rfl, show (256 : Int) ^ 2 = 65536 from rfl] at n13
        have hcon2 := con7_two x (by omega) (by omega)
        have hcon3 : con7 x 3 = con7 x 2 ++ lowB (x.getD 2 0) 4 := rfl
        have hcon14 : con7 x 14 = con7 x 13 ++ lowB (x.getD 13 0) 2 := rfl
        have HD := Lib.hid (fun j (hj : j < 10) => frm7_num HL14.out HF.out (3 + j) (by omega))
        have HGX := Lib.hid (fun (W : World) (h : W.heap[wr.heap.size]? = some (iO x 41)) j (hj : j < 14) => io_cell h j (by rw [HL14.out]; exact hj))
        obtain ⟨a0, e0⟩ : ∃ a, a = x.getD 0 0 := ⟨_, rfl⟩
        obtain ⟨a1, e1⟩ : ∃ a, a = x.getD 1 0 := ⟨_, rfl⟩
        obtain ⟨a2, e2⟩ : ∃ a, a = x.getD 2 0 := ⟨_, rfl⟩
        obtain ⟨a13, e13⟩ : ∃ a, a = x.getD 13 0 := ⟨_, rfl⟩
        rw [← e0] at n0 hcon2
        rw [← e1] at n1 hcon2
        rw [← e2] at n2 hcon3
        rw [← e13] at n13 hcon14
        have E0 := Lib.hid e0
        have E1 := Lib.hid e1
        have E2 := Lib.hid e2
        have E13 := Lib.hid e13
        have HC2 := Lib.hid hcon2
        have HC3 := Lib.hid hcon3
        have HC14 := Lib.hid hcon14
        have HBB : Hid (Byt [a0, a1]) := Lib.hid (byt_of_mem fun y hy => by simp at hy; omega)
        obtain ⟨n00, n01⟩ := n0
        obtain ⟨n10, n11⟩ := n1
        obtain ⟨n20, n21⟩ := n2
        obtain ⟨n30, n31⟩ := n13
        clear e0 e1 e2 e13 hcon2 hcon3 hcon14
        go_wp2_with (first
          | (with_reducible refine wpList_load_nums rfl 41 (.tmp 18) rfl b (off + k * 14) rfl x _ HRG.out u1 rfl HI14.out ?_)
          | (with_reducible refine wpList_store_nums rfl 41 (.tmp 6) (.tmp 19) rfl wr.heap.size rfl x zeroI rfl HX14.out HI14.out _ HZ.out ?_
             intro w4 hw4 hr4
             have hrg4 := io_range hr4
             have hb4 := HBZ.out.trans (hw4.below (Nat.le_refl _)))
          | (with_reducible refine wpList_load_nums rfl 41 (.tmp 6) rfl wr.heap.size 0 rfl x _ hrg4 u1 rfl HI14.out ?_)
          | (go_at_call 14; refine (KF.out _).mono ?_; rintro e w5 ⟨rfl, hb5⟩
             have hr5 := (hb5.block _ (Array.getElem?_eq_some_iff.1 hr4).1).trans hr4
             have hg5 : wr.heap.size < w5.heap.size := (Array.getElem?_eq_some_iff.1 hr5).1
             have c0 := HGX.out _ hr5 0 (by decide)
             have c1 := HGX.out _ hr5 1 (by decide)
             rw [← E0.out] at c0
             rw [← E1.out] at c1
             have HR5 := Lib.hid hr5
             have HB5 := Lib.hid (hb4.trans (hb5.mono hb4.size))
             clear hrg4 hb4 hb5 hw4 hr4 hr5)
          | (at_builtin
             have hbx := below_box w5 (.cells #[.int .u8 a0, .int .u8 a1] 5)
             have hsb := bsl_cells w5 [a0, a1] HBB.out #[.int .u8 a0, .int .u8 a1] rfl 2 rfl
             generalize w5.alloc (.cells #[.int .u8 a0, .int .u8 a1] 5) = w6 at hbx hsb ⊢
             have hown := HOB.out.2.lt
             have h56 := HB5.out.trans (hbx.mono HB5.out.size)
             refine wpList_append_bytes w6 rfl _ _ rfl w.heap.size _ (encK7 O k) rfl (HOB.out.below h56) w6 _ [a0, a1] rfl hsb (fun _ _ => rfl) (by rw [HL.out]; simp; omega) (Nat.le_trans hbr.size h56.size) ?_
             intro v7 w7' hob7 hb7 hg7
             have hr7 := (grown_row hg7 wr.heap.size (Nat.lt_of_lt_of_le hg5 hbx.size) (fun k hk e => by have := hown k hk; omega)).trans ((hbx.block _ hg5).trans HR5.out)
             have c2 := HGX.out _ hr7 2 (by decide)
             rw [← E2.out] at c2
             have hg7' : wr.heap.size < w7'.heap.size := (Array.getElem?_eq_some_iff.1 hr7).1
             have HR7 := Lib.hid hr7
             have HB7 := Lib.hid ((hbr.trans (h56.mono hbr.size)).trans hb7)
             clear hbx hsb hown h56 hb7 hg7 hr7 c0 c1)
          | (go_at_call 22; refine (rPut_at hob7.bsl (by rw [List.length_append, HL.out]; simp; omega) a2 4 4 (by omega) (by omega) rfl n20 (by omega)).mono ?_; rintro e w8 ⟨v8, rfl, hob8, hb8⟩))
        have hr8 := (hb8.block _ hg7').trans HR7.out
        have hg8 : wr.heap.size < w8.heap.size := (Array.getElem?_eq_some_iff.1 hr8).1
        have h78 : Below w.heap.size w w8 := HB7.out.trans (hb8.mono HB7.out.size)
        have hl8 : (encK7 O k ++ [a0, a1]) ++ lowB a2 4 = encK7 O k ++ con7 x 3 := by rw [HC3.out, HC2.out, List.append_assoc]
        rw [hl8] at hob8
        have HOB8 := Lib.hid (hob8.more HB7.out.size)
        have HR8 := Lib.hid hr8
        have HB8 := Lib.hid h78
        obtain ⟨g, hg⟩ : ∃ g, g = wr.heap.size := ⟨_, rfl⟩
        rw [← hg] at HGX HR8 hg8 ⊢
        have HZF : Hid (Byt [0, 0, 0, 0]) := Lib.hid (byt_replicate 4)
        clear hr8 h78 hl8 hob8 hb8 c2 hob7 HR7 HB7 HR5 HB5 HZ HBZ hg5 hg7' hg
        have hbw8 : Below w8.heap.size w8 w8 := Below.refl _ _
        go_loopw [4, 37] (fun u i wi => ∃ j : Nat, j ≤ 10 ∧ i = .int .i64 j ∧ Hid (OB wi w.heap.size u (encK7 O k ++ con7 x (3 + j))) ∧ Below w8.heap.size w8 wi) (fun _ i _ => 10 - (intOf i).toNat)
        case atStart => exact ⟨0, by omega, rfl, HOB8, hbw8⟩
        case round =>
          obtain ⟨j, hj, rfl, HOI, hbi⟩ := hrel
          clear HOB8 hbw8
          have hri := (hbi.block _ hg8).trans HR8.out
          have hwi := HB8.out.trans (hbi.mono HB8.out.size)
          by_cases hlj : j < 10
          · have cj := HGX.out _ hri (3 + j) (by omega)
            have nj := HD.out j hlj
            have hcj : con7 x (3 + j + 1) = con7 x (3 + j) ++ lowB (x.getD (3 + j) 0) (w7 (3 + j)) := rfl
            rw [w7_two, show (256 : Int) ^ 2 = 65536 from rfl] at nj
            rw [w7_two] at hcj
            have hlen : (encK7 O k ++ con7 x (3 + j)).length ≤ 140737488355300 := by rw [List.length_append, HL.out, con7_length, p7_two]; omega
            obtain ⟨y, hy⟩ : ∃ y, y = x.getD (3 + j) 0 := ⟨_, rfl⟩
            rw [← hy] at cj nj hcj
            obtain ⟨nj0, nj1⟩ := nj
            have HCJ := Lib.hid hcj
            have HLE := Lib.hid hlen
            have HWI := Lib.hid hwi
            have ej : (j : Int) < 10 := by omega
            clear hy hcj hlen hri hwi
            go_wp2_with (go_at_call 22; refine (rPut_at HOI.out.bsl HLE.out y 2 2 (by omega) (by omega) rfl nj0 (by omega)).mono ?_; rintro e w9 ⟨v9, rfl, hob9, hb9⟩)
            go_roundw
            case rel =>
              refine ⟨j + 1, by omega, by go_num, ?_, hbi.trans (hb9.mono hbi.size)⟩
              show OB _ _ _ (encK7 O k ++ con7 x (3 + j + 1))
              rw [HCJ.out, ← List.append_assoc]
              exact hob9.more HWI.out.size
            case measure => simp [intOf]; omega
          · obtain rfl : j = 10 := by omega
            have c13 := HGX.out _ hri 13 (by decide)
            rw [← E13.out] at c13
            have HO13 := HOI
            change Hid (OB _ _ _ (encK7 O k ++ con7 x 13)) at HO13
            have hlen : (encK7 O k ++ con7 x 13).length ≤ 140737488355300 := by rw [List.length_append, HL.out, con7_length]; have : p7 13 = 26 := rfl; omega
            have HLE := Lib.hid hlen
            have HWI := Lib.hid hwi
            clear hlen hri hwi HOI
            go_wp2_with (first
              | (go_at_call 22; refine (rPut_at HO13.out.bsl HLE.out a13 2 2 (by omega) (by omega) rfl n30 (by omega)).mono ?_; rintro e w10 ⟨v10, rfl, hob10, hb10⟩
                 have HB10 := Lib.hid (HWI.out.trans (hb10.mono HWI.out.size))
                 have hob10' := hob10.more HWI.out.size
                 clear hb10 hob10)
              | (at_builtin
                 have hbx := below_box w10 (.cells #[.int .u8 0, .int .u8 0, .int .u8 0, .int .u8 0] 5)
                 have hsb := bsl_cells w10 [0, 0, 0, 0] HZF.out #[.int .u8 0, .int .u8 0, .int .u8 0, .int .u8 0] rfl 4 rfl
                 generalize w10.alloc (.cells #[.int .u8 0, .int .u8 0, .int .u8 0, .int .u8 0] 5) = w11 at hbx hsb ⊢
                 have h011 := HB10.out.trans (hbx.mono HB10.out.size)
                 refine wpList_append_bytes w11 rfl _ _ rfl w.heap.size _ _ rfl (hob10'.below hbx) w11 _ [0, 0, 0, 0] rfl hsb (fun _ _ => rfl) (by rw [List.length_append, lowB_length]; have := HLE.out; simp only [List.length_cons, List.length_nil]; omega) h011.size ?_
                 intro v12 w12 hob12 hb12 _))
            go_roundw
            case rel =>
              refine ⟨k + 1, by omega, by go_num, ?_, fun j hj => ?_, h011.trans hb12⟩
              · show OB _ _ _ (encK7 O (k + 1))
                rw [HPK.out, enc7, HC14.out, ← List.append_assoc, ← List.append_assoc]
                exact hob12
              · by_cases e : j = k
                · subst e; rw [← HX.out]; exact HF.out
                · exact HK.out j (by omega)
            case measure => simp [intOf]; omega
    · obtain rfl : k = 8 := by omega
      go_wp2
      go_ret2
      exact .inl ⟨HYE.out HK.out, _, rfl, HOB.out, hbr⟩
theorem rEncI_any {w : World} {v : Value} {O : List (List Int)} (hs : NSl w v O) : Calls Try.prog 8 #[v] w (EncT7 O w) := by
  by_cases h : O.length = 8
  · exact rEncI_8 hs h
  · obtain ⟨ao, cap, rfl⟩ := hs.shape
    refine (rEncI_len ao _ cap h).mono fun e w' ⟨he, hw⟩ => .inr ⟨?_, he, by rw [← hw]; exact Below.refl _ _⟩
    unfold allF; rw [decide_eq_false h]; rfl
theorem rEncI_yes {w : World} {v : Value} {O : List (List Int)} (hs : NSl w v O) (h : allF O = true) : Calls Try.prog 8 #[v] w fun e w' => ∃ u, e = .returned (.tuple #[u, .int .i64 0]) ∧ OB w' w.heap.size u (encT O) ∧ Below w.heap.size w w' :=
  (rEncI_any hs).mono fun e w' ho => ho.elim (fun h1 => h1.2) fun h1 => by rw [h] at h1; cases h1.1
theorem rEncI_no {w : World} {v : Value} {O : List (List Int)} (hs : NSl w v O) (h : allF O = false) : Calls Try.prog 8 #[v] w fun e w' => e = .returned (.tuple #[.slice none 0 0, .int .i64 1]) ∧ Below w.heap.size w w' :=
  (rEncI_any hs).mono fun e w' ho => ho.elim (fun h1 => by rw [h] at h1; cases h1.1) fun h1 => h1.2
end Go.Proofs.Ytbikbglkecbgjaa
