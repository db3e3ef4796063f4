/- TxnPacks: the walk of the law itself. -/
import Derived.Test.YtmjndpmpeidhaaaTxnL
namespace Go.Proofs.Ytmjndpmpeidhaaa
open Go.RowKit
set_option linter.unusedVariables false

theorem bbr_empty (w : World) (B : Nat) (hB : B ≤ w.heap.size) : BBR (w.alloc (.cells #[] 40)) B (.slice (some ⟨w.heap.size, 0, none⟩) 0 0) [] :=
  ⟨[], rfl, fun j hj => absurd hj (Nat.not_lt_zero _), rfl, .inr ⟨w.heap.size, 0, #[], rfl, hB, heap_alloc_new w _, Nat.le_refl _, by decide, rfl, rfl⟩⟩
/-- s[:hi] of a [][]byte. -/
theorem wpList_slice_bbh {w : World} {ops : Array Oper} {rest : List Oper} {o : Oper} {a : Act} {Q : Exit → Act → World → Prop} (hgd : o.guard = none) (x hi : Operand) (ho : o.op = .slice 24 x none (some hi) none)
    (b off n cap : Nat) (hx : a.eval x = .slice (some ⟨b, off, none⟩) n cap) (H : Int) (hh : a.eval hi = .int .i64 H) (h : Nat) (hH : H = h) (h2 : h ≤ cap)
    (hK : wpList Try.prog ops Q rest (a.put o.dst (.slice (some ⟨b, off, none⟩) h cap)) w) : wpList Try.prog ops Q (o :: rest) a w := by
  subst hH
  obtain ⟨i, g2, g3, g4, g5⟩ := info_parts infoBy
  have ee : Try.prog.elem 24 = 40 := by kernel_rfl
  have hs : (sizeOf 40).run Try.prog w = .ok 1 w := by simp [sizeOf, typeInfo, g2, g4]
  have hrun : (Instr.sliceAt 24 (.slice (some ⟨b, off, none⟩) n cap) none (some (.int .i64 (h : Int))) none).run Try.prog w = .ok (.slice (some ⟨b, off, none⟩) h cap) w := by
    rw [run_sliceAt_slice w 24 _ _ _ _ (by rw [ee]; exact Try.underlying24), run_slice_h w 24 _ n cap (by rw [ee]; exact Try.underlying24) .i64 (h : Int) (by omega) (by omega)]
    simp [sliced, ee, hs, Addr.add_lit]
  refine wpList_plain hgd fun K hK' => ?_
  unfold Oper.wp execOp
  simp only [ho, hx, hh, Option.map_some, Option.map_none, hrun, Sem.run_bind, Sem.run_pure, Result.andThen_ok]
  exact hK' _ _ hK
theorem BBSl.take {w : World} {b off cap : Nat} {L : List (List Int)} (h : BBSl w (.slice (some ⟨b, off, none⟩) L.length cap) L) (k : Nat) (hk : k ≤ L.length) : BBSl w (.slice (some ⟨b, off, none⟩) k cap) (L.take k) := by
  have := h.mid 0 k (by omega) (L.take k) (by rw [List.drop_zero])
  rw [Nat.add_zero, Nat.sub_zero] at this
  exact this
theorem lPacks_few1 {w : World} {tv bv : Value} {q : Int} {N : List Int} {D : List (List Int)} (ht : TxV w tv q N D) (hrD : ∀ j, (D.getD j []).length ≤ 140737488355328) (hB : FewS N D = false) :
    Calls Try.prog 3 #[tv, bv] w fun e w' => e = .returned (.bool true) ∧ Below w.heap.size w w' := by
  have ht' := ht
  obtain ⟨no, nc, ao, dc, rfl, hN, hD⟩ := ht
  obtain ⟨n, hn⟩ : ∃ n, n = N.length := ⟨_, rfl⟩
  obtain ⟨m, hm⟩ : ∃ m, m = D.length := ⟨_, rfl⟩
  rw [← hn, ← hm] at ht' ⊢
  have hbx := below_box w (.cells #[.int .u32 q, .slice no n nc, .slice ao m dc] 26)
  have hnx := heap_alloc_new w (.cells #[.int .u32 q, .slice no n nc, .slice ao m dc] 26)
  have KF1 := Lib.hid (fun W (hb : Below w.heap.size w W) => Few9_is (ht'.below hb) hrD false hB)
  clear hN hD hn hm ht' hrD hB
  go_enter Try.func3, Try.ntmps3
  go_upto_region 1 with (fail)
  generalize w.alloc (.cells #[.int .u32 q, .slice no n nc, .slice ao m dc] 26) = u at hbx hnx ⊢
  have hzu : w.heap.size < u.heap.size := (Array.getElem?_eq_some_iff.1 hnx).1
  have d0 : u.cell? ⟨w.heap.size, 0, none⟩ = some (.int .u32 q) := by rw [cell_of_row _ _ _ _ _ _ hnx]; rfl
  have d1 : u.cell? ⟨w.heap.size, 1, none⟩ = some (.slice no n nc) := by rw [cell_of_row _ _ _ _ _ _ hnx]; rfl
  have d2 : u.cell? ⟨w.heap.size, 2, none⟩ = some (.slice ao m dc) := by rw [cell_of_row _ _ _ _ _ _ hnx]; rfl
  obtain ⟨d, hd⟩ : ∃ d, d = w.heap.size := ⟨_, rfl⟩
  rw [← hd] at hzu d0 d1 d2 ⊢
  have C3 := Lib.hid (fun W (h : Below u.heap.size u W) => And.intro ((h.cell (p := ⟨d, 0, none⟩) hzu).trans d0) (And.intro ((h.cell (p := ⟨d, 1, none⟩) hzu).trans d1) ((h.cell (p := ⟨d, 2, none⟩) hzu).trans d2)))
  have HBX := Lib.hid hbx
  have HBT := Lib.hid (fun W (h : Below u.heap.size u W) => hbx.trans (h.mono hbx.size))
  have HD := Lib.hid hd
  clear hnx hbx hzu hd
  go_wp2_with (first
    | (go_at_call 4; (with_reducible refine (awake9_any u).mono ?_); rintro e w1 ⟨rfl, hb1⟩
       obtain ⟨x0, x1, x2⟩ := C3.out _ hb1
       have HU1 := Lib.hid hb1
       have HB1 := Lib.hid (HBT.out _ hb1)
       clear hb1)
    | (go_at_call 5; (with_reducible refine (KF1.out _ HB1.out).mono ?_); rintro e w2 ⟨rfl, hb2⟩
       have HU2 := Lib.hid (HU1.out.trans (hb2.mono HU1.out.size))
       obtain ⟨y0, y1, y2⟩ := C3.out _ HU2.out
       have HB2 := Lib.hid (HBT.out _ HU2.out)
       clear hb2)
    | (go_at_call 4; (with_reducible refine (awake9_any w2).mono ?_); rintro e w3 ⟨rfl, hb3⟩))
  go_ret
  exact ⟨rfl, HB2.out.trans (hb3.mono HB2.out.size)⟩
theorem lPacks_few2 {w : World} {tv bv : Value} {q : Int} {N : List Int} {D M : List (List Int)} (ht : TxV w tv q N D) (hm' : BBSl w bv M) (hrD : ∀ j, (D.getD j []).length ≤ 140737488355328) (hrM : ∀ j, (M.getD j []).length ≤ 140737488355328) (hB : FewS N D = true) (hB2 : fewS M = false) :
    Calls Try.prog 3 #[tv, bv] w fun e w' => e = .returned (.bool true) ∧ Below w.heap.size w w' := by
  have ht' := ht
  obtain ⟨no, nc, ao, dc, rfl, hN, hD⟩ := ht
  obtain ⟨n, hn⟩ : ∃ n, n = N.length := ⟨_, rfl⟩
  obtain ⟨m, hm⟩ : ∃ m, m = D.length := ⟨_, rfl⟩
  rw [← hn, ← hm] at ht' ⊢
  have hbx := below_box w (.cells #[.int .u32 q, .slice no n nc, .slice ao m dc] 26)
  have hnx := heap_alloc_new w (.cells #[.int .u32 q, .slice no n nc, .slice ao m dc] 26)
  have KF1 := Lib.hid (fun W (hb : Below w.heap.size w W) => Few9_is (ht'.below hb) hrD true hB)
  have KF2 := Lib.hid (fun W (hb : Below w.heap.size w W) => few9_is (hm'.below hb) hrM false hB2)
  clear hN hD hn hm ht' hrD hB hB2 hrM hm'
  go_enter Try.func3, Try.ntmps3
  go_upto_region 1 with (fail)
  generalize w.alloc (.cells #[.int .u32 q, .slice no n nc, .slice ao m dc] 26) = u at hbx hnx ⊢
  have hzu : w.heap.size < u.heap.size := (Array.getElem?_eq_some_iff.1 hnx).1
  have d0 : u.cell? ⟨w.heap.size, 0, none⟩ = some (.int .u32 q) := by rw [cell_of_row _ _ _ _ _ _ hnx]; rfl
  have d1 : u.cell? ⟨w.heap.size, 1, none⟩ = some (.slice no n nc) := by rw [cell_of_row _ _ _ _ _ _ hnx]; rfl
  have d2 : u.cell? ⟨w.heap.size, 2, none⟩ = some (.slice ao m dc) := by rw [cell_of_row _ _ _ _ _ _ hnx]; rfl
  obtain ⟨d, hd⟩ : ∃ d, d = w.heap.size := ⟨_, rfl⟩
  rw [← hd] at hzu d0 d1 d2 ⊢
  have C3 := Lib.hid (fun W (h : Below u.heap.size u W) => And.intro ((h.cell (p := ⟨d, 0, none⟩) hzu).trans d0) (And.intro ((h.cell (p := ⟨d, 1, none⟩) hzu).trans d1) ((h.cell (p := ⟨d, 2, none⟩) hzu).trans d2)))
  have HBX := Lib.hid hbx
  have HBT := Lib.hid (fun W (h : Below u.heap.size u W) => hbx.trans (h.mono hbx.size))
  have HD := Lib.hid hd
  clear hnx hbx hzu hd
  go_wp2_with (first
    | (go_at_call 4; (with_reducible refine (awake9_any u).mono ?_); rintro e w1 ⟨rfl, hb1⟩
       obtain ⟨x0, x1, x2⟩ := C3.out _ hb1
       have HU1 := Lib.hid hb1
       have HB1 := Lib.hid (HBT.out _ hb1)
       clear hb1)
    | (go_at_call 5; (with_reducible refine (KF1.out _ HB1.out).mono ?_); rintro e w2 ⟨rfl, hb2⟩
       have HU2 := Lib.hid (HU1.out.trans (hb2.mono HU1.out.size))
       obtain ⟨y0, y1, y2⟩ := C3.out _ HU2.out
       have HB2 := Lib.hid (HBT.out _ HU2.out)
       clear hb2)
    | (go_at_call 6; (with_reducible refine (KF2.out _ HB2.out).mono ?_); rintro e w3 ⟨rfl, rfl⟩)
    | (go_at_call 4; (with_reducible refine (awake9_any w2).mono ?_); rintro e w3 ⟨rfl, hb3⟩))
  go_ret
  exact ⟨rfl, HB2.out.trans (hb3.mono HB2.out.size)⟩
set_option maxHeartbeats 2000000 in
theorem lPacks_no {w : World} {tv bv : Value} {q : Int} {N : List Int} {D M : List (List Int)} (ht : TxV w tv q N D) (hm' : BBSl w bv M) (hrD : ∀ j, (D.getD j []).length ≤ 140737488355328) (hrM : ∀ j, (M.getD j []).length ≤ 140737488355328) (hB : FewS N D = true) (hB2 : fewS M = true) (hF : frmT N D = false) :
    Calls Try.prog 3 #[tv, bv] w fun e w' => e = .returned (.bool true) ∧ Below w.heap.size w w' := by
  have ht' := ht
  obtain ⟨no, nc, ao, dc, rfl, hN, hD⟩ := ht
  obtain ⟨n, hn⟩ : ∃ n, n = N.length := ⟨_, rfl⟩
  obtain ⟨m, hm⟩ : ∃ m, m = D.length := ⟨_, rfl⟩
  rw [← hn, ← hm] at ht' ⊢
  have hbx := below_box w (.cells #[.int .u32 q, .slice no n nc, .slice ao m dc] 26)
  have hnx := heap_alloc_new w (.cells #[.int .u32 q, .slice no n nc, .slice ao m dc] 26)
  have KF1 := Lib.hid (fun W (hb : Below w.heap.size w W) => Few9_is (ht'.below hb) hrD true hB)
  have KF2 := Lib.hid (fun W (hb : Below w.heap.size w W) => few9_is (hm'.below hb) hrM true hB2)
  have KP := Lib.hid (fun W (hb : Below w.heap.size w W) => tPack_no (ht'.below hb) hF)
  have KR := Lib.hid (fun W (hb : Below w.heap.size w W) => rPackT_no (ht'.below hb) hF)
  have KTF := Lib.hid (fun W (hb : Below w.heap.size w W) => tForm_is (ht'.below hb) false hF)
  have KRF := Lib.hid (fun W (hb : Below w.heap.size w W) => rFormT_is (ht'.below hb) false hF)
  clear hN hD hn hm ht' hrD hB hB2 hrM hm' hF
  go_enter Try.func3, Try.ntmps3
  go_upto_region 1 with (fail)
  generalize w.alloc (.cells #[.int .u32 q, .slice no n nc, .slice ao m dc] 26) = u at hbx hnx ⊢
  have hzu : w.heap.size < u.heap.size := (Array.getElem?_eq_some_iff.1 hnx).1
  have d0 : u.cell? ⟨w.heap.size, 0, none⟩ = some (.int .u32 q) := by rw [cell_of_row _ _ _ _ _ _ hnx]; rfl
  have d1 : u.cell? ⟨w.heap.size, 1, none⟩ = some (.slice no n nc) := by rw [cell_of_row _ _ _ _ _ _ hnx]; rfl
  have d2 : u.cell? ⟨w.heap.size, 2, none⟩ = some (.slice ao m dc) := by rw [cell_of_row _ _ _ _ _ _ hnx]; rfl
  obtain ⟨d, hd⟩ : ∃ d, d = w.heap.size := ⟨_, rfl⟩
  rw [← hd] at hzu d0 d1 d2 ⊢
  have C3 := Lib.hid (fun W (h : Below u.heap.size u W) => And.intro ((h.cell (p := ⟨d, 0, none⟩) hzu).trans d0) (And.intro ((h.cell (p := ⟨d, 1, none⟩) hzu).trans d1) ((h.cell (p := ⟨d, 2, none⟩) hzu).trans d2)))
  have HBX := Lib.hid hbx
  have HBT := Lib.hid (fun W (h : Below u.heap.size u W) => hbx.trans (h.mono hbx.size))
  have HD := Lib.hid hd
  clear hnx hbx hzu hd
  go_wp2_with (first
    | (go_at_call 4; (with_reducible refine (awake9_any u).mono ?_); rintro e w1 ⟨rfl, hb1⟩
       obtain ⟨x0, x1, x2⟩ := C3.out _ hb1
       have HU1 := Lib.hid hb1
       have HB1 := Lib.hid (HBT.out _ hb1)
       clear hb1)
    | (go_at_call 5; (with_reducible refine (KF1.out _ HB1.out).mono ?_); rintro e w2 ⟨rfl, hb2⟩
       have HU2 := Lib.hid (HU1.out.trans (hb2.mono HU1.out.size))
       obtain ⟨y0, y1, y2⟩ := C3.out _ HU2.out
       have HB2 := Lib.hid (HBT.out _ HU2.out)
       clear hb2)
    | (go_at_call 6; (with_reducible refine (KF2.out _ HB2.out).mono ?_); rintro e w3 ⟨rfl, rfl⟩)
    | (go_at_call 8; (with_reducible refine (Theirs9_of w2 q no ao n nc m dc).mono ?_); rintro e w4 ⟨rfl, hb4⟩
       have HU4 := Lib.hid (HU2.out.trans (hb4.mono HU2.out.size))
       have HB4 := Lib.hid (HBT.out _ HU4.out)
       clear hb4)
    | (go_at_call 7; (with_reducible refine (KP.out _ HB4.out).mono ?_); rintro e w5 ⟨rfl, hb5⟩
       have HU5 := Lib.hid (HU4.out.trans (hb5.mono HU4.out.size))
       obtain ⟨z0, z1, z2⟩ := C3.out _ HU5.out
       have HB5 := Lib.hid (HBT.out _ HU5.out)
       clear hb5)
    | (go_at_call 9; (with_reducible refine (KR.out _ HB5.out).mono ?_); rintro e w6 ⟨rfl, hb6⟩
       have HU6 : Hid (Below u.heap.size u w6.drew) := Lib.hid (below_drewN' (HU5.out.trans (hb6.mono HU5.out.size)) 1)
       obtain ⟨a0, a1, a2⟩ := C3.out _ HU6.out
       have HB6 := Lib.hid (HBT.out _ HU6.out)
       clear hb6))
  clear x0 x1 x2 y0 y1 y2 z0 z1 z2 d0 d1 d2
  go_region_held3 (fun W => W.cell? ⟨d, 0, none⟩ = some (.int .u32 q) ∧ W.cell? ⟨d, 1, none⟩ = some (.slice no n nc) ∧ W.cell? ⟨d, 2, none⟩ = some (.slice ao m dc)) (first | exact ⟨g0, g1, g2⟩ | exact ⟨f0, f1, f2⟩ | exact ⟨c0, c1, c2⟩ | exact ⟨b0, b1, b2⟩ | exact ⟨a0, a1, a2⟩) (first
    | (go_at_call 8; (with_reducible refine (Theirs9_of _ q no ao n nc m dc).mono ?_); rintro e w7 ⟨rfl, hb7⟩
       have HU7 := Lib.hid (HU6.out.trans (hb7.mono HU6.out.size))
       obtain ⟨b0, b1, b2⟩ := C3.out _ HU7.out
       have HB7 := Lib.hid (HBT.out _ HU7.out)
       clear hb7)
    | (go_at_call 10; (with_reducible refine (KTF.out _ HB7.out).mono ?_); rintro e w8 ⟨rfl, hb8⟩
       have HU8 := Lib.hid (HU7.out.trans (hb8.mono HU7.out.size))
       obtain ⟨c0, c1, c2⟩ := C3.out _ HU8.out
       have HB8 := Lib.hid (HBT.out _ HU8.out)
       clear hb8)
    | (go_at_call 11; (with_reducible refine (KRF.out _ HB8.out).mono ?_); rintro e w9 ⟨rfl, hb9⟩
       have HU9 := Lib.hid (HU8.out.trans (hb9.mono HU8.out.size))
       obtain ⟨f0, f1, f2⟩ := C3.out _ HU9.out
       have HB9 := Lib.hid (HBT.out _ HU9.out)
       clear hb9)
    | (go_at_call 12; (with_reducible refine (sameB9_of (bbsl_nil w9) (bbsl_nil w9) (Nat.zero_le _)).mono ?_); rintro e w10 ⟨rfl, hb10⟩
       have HU10 := Lib.hid (HU9.out.trans (hb10.mono HU9.out.size))
       obtain ⟨g0, g1, g2⟩ := C3.out _ HU10.out
       have HB10 := Lib.hid (HBT.out _ HU10.out)
       clear hb10))
  go_wp2
  go_ret
  exact ⟨rfl, HB10.out⟩
end Go.Proofs.Ytmjndpmpeidhaaa
