/- Layer 3's law: awake. -/
import Derived.Test.YtibabjhehlmchaaOp3A
namespace Go.Proofs.Ytibabjhehlmchaa
open Go.RowKit
set_option linter.unusedVariables false

theorem Dsk.ptr {w : World} {B : Nat} {p : Value} {F V : List (List Int)} {U : List (Nat × List Int)} (h : Dsk w B p F V U) : ∃ bp, p = .pointer (some ⟨bp, 0, none⟩) := by
  obtain ⟨bp, _, _, _, h, _⟩ := h
  exact ⟨bp, h⟩
/-- make([]byte, n), read. -/
theorem bsl_made (W : World) (M : Nat) : BSl (W.alloc (.cells (Array.replicate M (.int .u8 0)) 5)) (.slice (some ⟨W.heap.size, 0, none⟩) M M) (List.replicate M 0) := by
  refine ⟨byt_replicate M, .inr ⟨⟨W.heap.size, 0, none⟩, M, by rw [List.length_replicate], by rw [List.length_replicate]; exact Nat.le_refl _, fun j hj => ⟨by simp, rfl, ?_⟩⟩⟩
  rw [List.length_replicate] at hj
  show (W.alloc _).cell? ⟨W.heap.size, 0 + j, none⟩ = _
  rw [cell_of_row _ _ _ _ _ _ (heap_alloc_last W _)]
  simp [hj, List.getD_eq_getElem?_getD]

theorem wpList_wanted {P : Program} {ops : Array Oper} {rest : List Oper} {o : Oper} {a : Act} {w : World} {Q : Exit → Act → World → Prop} (hw : Region.wanted o (yielded ops a.tmps) = true)
    (h : ∀ K : Act → World → Prop, (∀ a w, wpList P ops Q rest a w → K a w) → o.wp P a w K Q) : wpList P ops Q (o :: rest) a w :=
  wpList_step fun K hK => by rw [if_pos hw]; exact h K hK
/-- make([]byte, n) behind a guard that holds. -/
theorem wpList_make_u8w (w : World) {ops : Array Oper} {rest : List Oper} {o : Oper} {a : Act} {Q : Exit → Act → World → Prop}
    (hw : Region.wanted o (yielded ops a.tmps) = true) (l c : Operand) (hop : o.op = Op.makeSlice 30 l c) (C : Int) (n : Nat) (hl : a.eval l = .int .i64 C) (hc : a.eval c = .int .i64 C) (hC : C = n) (hn : n ≤ 200000000000000)
    (hK : wpList Try.prog ops Q rest (a.put o.dst (.slice (some ⟨w.heap.size, 0, none⟩) n n)) (w.alloc (.cells (Array.replicate n (.int .u8 0)) 5))) :
    wpList Try.prog ops Q (o :: rest) a w := by
  refine wpList_wanted hw fun K hK' => ?_
  obtain ⟨i, h2, h3, h4, h5⟩ := info_parts infoU8
  subst hC
  have hrun := run_make (P := Try.prog) w 30 5 i (.int .u8 0) Try.underlying30 h2 h3 .i64 .i64 n n (by omega) (by omega) (by rw [h5]; omega) (by omega)
  unfold Oper.wp
  simp only [Int.toNat_natCast, h4, Nat.mul_one, made_u8] at hrun
  simp [execOp, hop, hl, hc, hrun, Result.andThen]
  exact hK' _ _ hK

set_option maxRecDepth 100000 in
theorem awake3_any (w : World) : Calls Try.prog 6 #[] w fun e w' => e = .returned (.bool true) ∧ Below w.heap.size w w' := by
  obtain ⟨M, hM⟩ : ∃ M, M = 256 := ⟨_, rfl⟩
  have HM := Lib.hid hM
  have HM1 : M ≤ 200000000000000 := by omega
  have HM2 : (M : Int) = 256 := by omega
  clear hM
  obtain ⟨Z, hZ⟩ : ∃ Z, Z = List.replicate 3 zb := ⟨_, rfl⟩
  have hZl : Z.length = 3 := by rw [hZ]; rfl
  have HN := dNew_at w 3 (by decide)
  rw [← hZ] at HN
  clear hZ
  go_enter Try.func6, Try.ntmps6
  go_wp2_with (first
    | (go_at_call 8; refine HN.mono ?_; rintro e w1 ⟨p, rfl, _, hd1, hb1⟩; obtain ⟨bp, rfl⟩ := hd1.ptr
       have hs1 := hb1.size)
    | (go_at_call 18; refine (dBlocks_at hd1).mono ?_; rintro e w2 ⟨rfl, rfl⟩; rw [hZl])
    | (at_make; refine wpList_make_u8w _ (by rfl) _ _ (by rfl) 256 M (by rfl) (by rfl) HM2.symm HM1 ?_
       have hbs := bsl_made w1 M
       have hbm : Below w1.heap.size w1 (w1.alloc (.cells (Array.replicate M (.int .u8 0)) 5)) := (Below.refl _ _).alloc (Nat.le_refl _) _
       have hd2 := hd1.below hbm)
    | (go_at_call 9; refine (dWrite_at hd2 2 (by rw [hZl]; decide) hbs (by rw [List.length_replicate]; exact HM.out) (by decide)).mono ?_; rintro e w3 ⟨rfl, hd3, hb3⟩)
    | (go_at_call 14; refine (dUnflushed_at hd3).mono ?_; rintro e w4 ⟨rfl, rfl⟩))
  go_ret
  exact ⟨rfl, (hb1.trans (hbm.mono hs1)).trans hb3⟩
end Go.Proofs.Ytibabjhehlmchaa
