/- Contracts of package inode: write, Encode. -/
import Derived.Test.YtbikbglkecbgjaaInoF
import Derived.Test.YtbikbglkecbgjaaMemZ
import Derived.Deep.RegionHeld3
namespace Go.Proofs.Ytbikbglkecbgjaa
open Go.RowKit
set_option linter.unusedVariables false

theorem idx_fs7 (W : World) (g j : Nat) (hj : j < 14) : (Instr.index 68 (.agg (fldC g 14).toArray) (.int .i64 (j : Int))).run Try.prog W = .ok (.agg #[.pointer (some ⟨g, j, none⟩), .int .i64 (w7 j : Int)]) W := by
  have e : fldC g 14 = [.pointer (some ⟨g, 0, none⟩), .int .i64 1, .pointer (some ⟨g, 1, none⟩), .int .i64 1, .pointer (some ⟨g, 2, none⟩), .int .i64 4, .pointer (some ⟨g, 3, none⟩), .int .i64 2, .pointer (some ⟨g, 4, none⟩), .int .i64 2, .pointer (some ⟨g, 5, none⟩), .int .i64 2, .pointer (some ⟨g, 6, none⟩), .int .i64 2, .pointer (some ⟨g, 7, none⟩), .int .i64 2, .pointer (some ⟨g, 8, none⟩), .int .i64 2, .pointer (some ⟨g, 9, none⟩), .int .i64 2, .pointer (some ⟨g, 10, none⟩), .int .i64 2, .pointer (some ⟨g, 11, none⟩), .int .i64 2, .pointer (some ⟨g, 12, none⟩), .int .i64 2, .pointer (some ⟨g, 13, none⟩), .int .i64 2] := rfl
  rw [e]
  have a1 := Try.isAgg67
  have z1 := Try.sizeOf67
  have : j = 0 ∨ j = 1 ∨ j = 2 ∨ j = 3 ∨ j = 4 ∨ j = 5 ∨ j = 6 ∨ j = 7 ∨ j = 8 ∨ j = 9 ∨ j = 10 ∨ j = 11 ∨ j = 12 ∨ j = 13 := by omega
  rcases this with rfl | rfl | rfl | rfl | rfl | rfl | rfl | rfl | rfl | rfl | rfl | rfl | rfl | rfl <;> simp [Instr.index, run_underlying Try.underlying68, asIntOf, go_sem, a1, z1] <;> rfl
theorem grown_keep {w w' : World} {row : Option Nat} (h : w.grownBy w' row) (b o : Nat) (hb : b < w.heap.size) (hne : ∀ k, row = some k → k ≠ b) : w'.cell? ⟨b, o, none⟩ = w.cell? ⟨b, o, none⟩ := by
  apply World.cell?_of_block
  exact h.block b hb (fun e => hne b e.symm rfl)
/-- append of a []byte that is not empty onto a []byte of one's own, as one step of a region that draws. -/
theorem step_append_bytes {ops : Array Oper} {o : Oper} {a : Act} {w : World} {K : Act → World → Prop} {Q : Exit → Act → World → Prop} {E : Prop} (hgd : o.guard = none) (s x : Operand)
    (ho : o.op = .call { callee := .builtin .append, args := #[s, x], argTypes := #[23, 23] })
    (B : Nat) (v : Value) (l : List Int) (hs : a.eval s = v) (hown : OB w B v l) (u : Value) (m : List Int) (hx : a.eval x = u) (hr : BSl w u m) (hm : 0 < m.length)
    (hlen : l.length + m.length ≤ 140737488355328) (hB : B ≤ w.heap.size)
    (h : ∀ v' w', OB w' B v' (l ++ m) → Below B w w' → w.grownBy w' v.ownBlock → K (a.put o.dst v') w') :
    if Region.wanted o (yielded ops a.tmps) = true then Oper.wp Try.prog o a w K Q else E := by
  have hw : Region.wanted o (yielded ops a.tmps) = true := by simp [Region.wanted, hgd]
  rw [if_pos hw]
  obtain ⟨i, h2, h3, h4, h5⟩ := info_parts infoU8
  obtain ⟨ao, cap, rfl, hcap⟩ := hr.shape
  have hby := byt_append hown.1 hr.1
  have e1 : (l ++ m).length = l.length + m.length := List.length_append
  have e2 : (l ++ m).map (Value.int .u8) = l.map (Value.int .u8) ++ m.map (Value.int .u8) := List.map_append
  cases ao with
  | none =>
    rcases hr.2 with ⟨_, hl⟩ | ⟨_, _, hv, _⟩
    · rw [hl] at hm; simp at hm
    · simp at hv
  | some ad =>
    have hcells : ∀ j v, (m.map (Value.int .u8))[j]? = some v → w.cell? (ad.add j) = some v := by
      intro j v hj
      have hjl : j < m.length := by simpa using (List.getElem?_eq_some_iff.1 hj).1
      obtain ⟨ad', he, hc⟩ := src_cells hr (fun _ _ => rfl) m.length (by simp; omega)
      obtain rfl : ad = ad' := by simpa using he
      exact hc j v (by simpa using hj)
    refine wp_append_own w s x 23 ho B 5 i (.int .u8 0) 1 1 Try.underlying23 h2 h3 h4 h5 rfl (by decide) v l.length _ hs hown.2 ad m.length cap _ hx (by simp) hcells (ints_oneCell _ _) (by simp only [maxLen]; omega) (by omega) hB fun v' w' h6 h7 _ => ?_
    exact h v' w' ⟨hby, by rw [e1, e2]; exact h6⟩ ((Below.refl _ _).grown h7 hB fun k hk => (hown.2.lt k hk).1) h7
theorem ob_len7 {w : World} {B : Nat} {v : Value} {l : List Int} (h : OB w B v l) (n : Nat) (hn : l.length = n) (h0 : 0 < n) : ∃ g cap, v = .slice (some ⟨g, 0, none⟩) n cap := by
  rcases h.2.2 with ⟨_, h1⟩ | ⟨g, cap, cur, hv, _⟩
  · omega
  · exact ⟨g, cap, by rw [hv, hn]⟩
set_option maxHeartbeats 2000000 in
theorem iWrite_at (kd ln sz d0 d1 d2 d3 d4 d5 d6 d7 d8 d9 mp : Int) (L : List Int) (hLL : L = [kd, ln, sz, d0, d1, d2, d3, d4, d5, d6, d7, d8, d9, mp]) (hf : frmI L = true) (w : World) : Calls Try.prog 21 #[.agg #[.int .i64 kd, .int .i64 ln, .int .i64 sz, .int .i64 d0, .int .i64 d1, .int .i64 d2, .int .i64 d3, .int .i64 d4, .int .i64 d5, .int .i64 d6, .int .i64 d7, .int .i64 d8, .int .i64 d9, .int .i64 mp]] w (NewB w (enc7 L)) := by
  have hL : L.length = 14 := by rw [hLL]; rfl
  have hb1 := below_box w (iO L 39)
  have hr1 := heap_alloc_new w (iO L 39)
  obtain ⟨W1, hW1⟩ : ∃ W1, W1 = w.alloc (iO L 39) := ⟨_, rfl⟩
  rw [← hW1] at hb1 hr1
  have hsz : w.heap.size < W1.heap.size := by rw [hW1]; simp
  have HZ1 : Hid (W1.heap.size = w.heap.size + 1) := Lib.hid (by rw [hW1]; simp)
  have H2 : Hid (w.alloc (.cells #[.int .i64 kd, .int .i64 ln, .int .i64 sz, .int .i64 d0, .int .i64 d1, .int .i64 d2, .int .i64 d3, .int .i64 d4, .int .i64 d5, .int .i64 d6, .int .i64 d7, .int .i64 d8, .int .i64 d9, .int .i64 mp] 39) = W1) := Lib.hid (by rw [hW1, hLL]; rfl)
  have HR1 := Lib.hid hr1
  have HF := Lib.hid (frm7_num hL hf)
  have HL := Lib.hid hL
  obtain ⟨M, hMM⟩ : ∃ M : Nat, M = 32 := ⟨_, rfl⟩
  have HMI : Hid ((32 : Int) = (M : Int)) := Lib.hid (by omega)
  have hM1 : M ≤ 1000 := by omega
  clear hW1 hr1 hLL hf hL hMM
  go_enter Try.func21, Try.ntmps21
  go_wp2_with (first
    | (at_make; refine wpList_make_u8c _ rfl _ _ rfl 0 32 0 M rfl rfl rfl HMI.out (Nat.zero_le _) (by omega) ?_)
    | (go_at_call 34
       rw [H2.out]
       have hob2 := ob_made W1 M hM1
       have hb2 : Below W1.heap.size W1 (W1.alloc (.cells (Array.replicate M (.int .u8 0)) 5)) := below_box _ _
       generalize W1.alloc (.cells (Array.replicate M (.int .u8 0)) 5) = w2 at hob2 hb2 ⊢
       refine (iFields_of _ _).mono ?_; rintro e w3 ⟨rfl, hb3⟩))
  rw [HZ1.out] at hob2
  have hb23 : Below W1.heap.size W1 w3 := hb2.trans (hb3.mono hb2.size)
  have hb03 : Below w.heap.size w w3 := hb1.trans (hb23.mono (Nat.le_of_lt hsz))
  have hr3 : w3.heap[w.heap.size]? = some (iO L 39) := (hb23.block _ hsz).trans HR1.out
  have hz3 : w.heap.size < w3.heap.size := Nat.lt_of_lt_of_le hsz hb23.size
  obtain ⟨g, hg⟩ : ∃ g, g = w.heap.size := ⟨_, rfl⟩
  rw [← hg] at hr3 hz3 ⊢
  have hc3 : ∀ j, j < 14 → w3.cell? ⟨g, j, none⟩ = some (.int .i64 (L.getD j 0)) := fun j hj => io_cell hr3 j (by rw [HL.out]; exact hj)
  have HIX := Lib.hid (fun W j hj => idx_fs7 W g j hj)
  obtain ⟨F, hF⟩ : ∃ F, F = (fldC g 14).toArray := ⟨_, rfl⟩
  rw [← hF] at HIX ⊢
  have HOB3 := Lib.hid ((hob2.below hb3).more (B' := g + 1) (by have := HZ1.out; omega))
  rw [← hg] at HOB3
  have HC := Lib.hid hc3
  have hbg3 : Below g w w3 := by rw [hg]; exact hb03
  have HG := Lib.hid hg
  clear hb03 hg hr3 hc3 hF hb23 hb3 hb2 hob2 hb1 hsz
  go_loopw [3, 8] (fun u i wr => ∃ j : Nat, j ≤ 14 ∧ i = .int .i64 j ∧ Hid (OB wr (g + 1) u (con7 L j)) ∧ Hid (Below g w wr) ∧ w3.heap.size ≤ wr.heap.size ∧ Hid (∀ j, j < 14 → wr.cell? ⟨g, j, none⟩ = some (.int .i64 (L.getD j 0)))) (fun _ i _ => 14 - (intOf i).toNat)
  case atStart => exact ⟨0, by omega, rfl, HOB3, hbg3, Nat.le_refl _, HC⟩
  case round =>
    clear HOB3 hbg3 HC
    obtain ⟨j, hj, rfl, HOB, HBR, hsz, HC⟩ := hrel
    by_cases hlt : j < 14
    · have hix := HIX.out wr j hlt
      have hx0 := HF.out j hlt
      have hcx := HC.out j hlt
      have hcs : con7 L (j + 1) = con7 L j ++ lowB (L.getD j 0) (w7 j) := rfl
      have hwd := w7_le j
      have hlen := con7_length L j
      have hpin := p7_in j hlt
      have hpw := pow256_le hwd.2
      have e4 : (256 : Int) ^ 4 = 4294967296 := rfl
      obtain ⟨x, hx⟩ : ∃ x, x = L.getD j 0 := ⟨_, rfl⟩
      obtain ⟨k, hk⟩ : ∃ k, k = w7 j := ⟨_, rfl⟩
      rw [← hx] at hx0 hcx hcs
      rw [← hk] at hwd hix hcs hx0 hpin hpw
      have hx1 : x < 4294967296 := by omega
      have hx2 := hx0.1
      have HCS := Lib.hid hcs
      have HPU := Lib.hid (fun W => pPut_at (bsl_nil W) (by simp) x (k : Int) k (by omega) (by omega) rfl hx2 (by omega))
      have HLE : Hid ((con7 L j).length + (lowB x k).length ≤ 140737488355328) := Lib.hid (by rw [hlen, lowB_length]; omega)
      have HKL : Hid (0 < (lowB x k).length) := Lib.hid (by rw [lowB_length]; omega)
      have ej : (j : Int) < 14 := by omega
      have hgw : g < wr.heap.size := Nat.lt_of_lt_of_le hz3 hsz
      clear hx hk hcs hx0 hlen hpin hpw e4
      go_wp2
      have hbx := below_box wr (.cells #[.pointer (some ⟨g, j, none⟩), .int .i64 (k : Int)] 67)
      have hhx := heap_alloc_new wr (.cells #[.pointer (some ⟨g, j, none⟩), .int .i64 (k : Int)] 67)
      generalize wr.alloc (.cells #[.pointer (some ⟨g, j, none⟩), .int .i64 (k : Int)] 67) = W5 at hbx hhx ⊢
      have c0 : W5.cell? ⟨wr.heap.size, 0, none⟩ = some (.pointer (some ⟨g, j, none⟩)) := by rw [cell_of_row _ _ _ _ _ _ hhx]; rfl
      have c1 : W5.cell? ⟨wr.heap.size, 1, none⟩ = some (.int .i64 (k : Int)) := by rw [cell_of_row _ _ _ _ _ _ hhx]; rfl
      have c2 : W5.cell? ⟨g, j, none⟩ = some (.int .i64 x) := by rw [hbx.cell hgw]; exact hcx
      obtain ⟨q, hq⟩ : ∃ q, q = wr.heap.size := ⟨_, rfl⟩
      have hq5 : q < W5.heap.size := by rw [hq]; exact (Array.getElem?_eq_some_iff.1 hhx).1
      have hg5 : g < W5.heap.size := by omega
      have hown := HOB.out.2.lt
      have HNE := Lib.hid (fun k hk => (show k ≠ q ∧ k ≠ g by have h1 := hown k hk; omega))
      have hwx : IntKind.u64.wrap x = x := IntWalk.u64_in _ (by omega)
      have HBX := Lib.hid (below_drewN' hbx 1)
      have HU := Lib.hid (HOB.out.below HBX.out)
      rw [← hq] at c0 c1 ⊢
      have d0 : W5.drew.cell? ⟨q, 0, none⟩ = some (.pointer (some ⟨g, j, none⟩)) := c0
      have d1 : W5.drew.cell? ⟨q, 1, none⟩ = some (.int .i64 (k : Int)) := c1
      have d2 : W5.drew.cell? ⟨g, j, none⟩ = some (.int .i64 x) := c2
      change Hid (OB W5.drew _ _ _) at HU
      change Hid (Below wr.heap.size wr W5.drew) at HBX
      clear hbx hhx hcx hix hq c0 c1 c2 hown
      go_region_held3 (fun W => W.cell? ⟨q, 0, none⟩ = some (.pointer (some ⟨g, j, none⟩)) ∧ W.cell? ⟨q, 1, none⟩ = some (.int .i64 (k : Int)) ∧ W.cell? ⟨g, j, none⟩ = some (.int .i64 x)) (first | exact ⟨f0, f1, f2⟩ | exact ⟨e0, e1, e2⟩ | exact ⟨d0, d1, d2⟩) (first
        | (go_at_call 32; (with_reducible refine (HPU.out _).mono ?_); rintro e w6 ⟨v6, rfl, hob6, hb6⟩
           have HB6 := Lib.hid (HBX.out.trans (hb6.mono HBX.out.size))
           have e0 := (hb6.cell (p := ⟨q, 0, none⟩) hq5).trans d0
           have e1 := (hb6.cell (p := ⟨q, 1, none⟩) hq5).trans d1
           have e2 := (hb6.cell (p := ⟨g, j, none⟩) hg5).trans d2
           have hq6 : q < w6.heap.size := Nat.lt_of_lt_of_le hq5 hb6.size
           have hg6 : g < w6.heap.size := Nat.lt_of_lt_of_le hg5 hb6.size)
        | (refine step_append_bytes rfl (.tmp 11) (.tmp 19) rfl (g + 1) _ (con7 L j) rfl (HU.out.below hb6) v6 (lowB x k) rfl hob6.bsl HKL.out HLE.out hg6 ?_
           intro v7 w7 hob7 hb7 hg7
           have f0 := (grown_keep hg7 q 0 hq6 (fun k hk => (HNE.out k hk).1)).trans e0
           have f1 := (grown_keep hg7 q 1 hq6 (fun k hk => (HNE.out k hk).1)).trans e1
           have f2 := (grown_keep hg7 g j hg6 (fun k hk => (HNE.out k hk).2)).trans e2))
      go_wp2
      go_roundw
      case rel =>
        have h67 : Below g wr w7 := (HB6.out.mono (Nat.le_of_lt hgw)).trans (hb7.mono (Nat.le_succ g))
        refine ⟨j + 1, by omega, by go_num, ?_, HBR.out.trans h67, Nat.le_trans hsz h67.size, fun i hi => ?_⟩
        · show OB _ _ _ (con7 L (j + 1))
          rw [HCS.out]; exact hob7
        · rw [hb7.cell (p := ⟨g, i, none⟩) (Nat.lt_succ_self g), HB6.out.cell (p := ⟨g, i, none⟩) hgw]; exact HC.out i hi
      case measure => simp [intOf]; omega
    · obtain rfl : j = 14 := by omega
      obtain ⟨gq, cq, rfl⟩ := ob_len7 HOB.out 28 (con7_length L 14) (by decide)
      have hle : g + 1 ≤ wr.heap.size := by omega
      have hl28 := con7_length L 14
      rw [p7_end] at hl28
      have HL28 : Hid ((con7 L 14).length + 4 ≤ 140737488355328) := Lib.hid (by omega)
      clear hl28
      go_wp2_with (at_builtin; refine wpList_append_zeros wr rfl (.tmp 22) (.tmp 25) rfl (g + 1) _ (con7 L 14) rfl HOB.out 4 4 rfl rfl HL28.out hle ?_; intro v8 w8 hob8 hb8)
      go_ret
      have hbf := HBR.out.trans (hb8.mono (Nat.le_succ g))
      have eg := HG.out
      exact ⟨_, rfl, hob8.more (by omega), by rw [← eg]; exact hbf⟩
theorem iWrite_of {L : List Int} (hL : L.length = 14) (hf : frmI L = true) (w : World) : Calls Try.prog 21 #[.agg (iC L).toArray] w (NewB w (enc7 L)) := by
  match L, hL with
  | [kd, ln, sz, d0, d1, d2, d3, d4, d5, d6, d7, d8, d9, mp], _ => exact iWrite_at kd ln sz d0 d1 d2 d3 d4 d5 d6 d7 d8 d9 mp _ rfl hf w

end Go.Proofs.Ytbikbglkecbgjaa
