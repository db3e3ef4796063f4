/- Two inodes are the same. -/
import Derived.Test.YtbikbglkecbgjaaInoA
import Derived.Laws.StructEq
namespace Go.Proofs.Ytbikbglkecbgjaa
open Go.RowKit
set_option linter.unusedVariables false

theorem eq_arr10 (p0 p1 p2 p3 p4 p5 p6 p7 p8 p9 q0 q1 q2 q3 q4 q5 q6 q7 q8 q9 : Int) (w : World) :
    (Op.equalIn 9999 37 (.agg #[.int .i64 p0, .int .i64 p1, .int .i64 p2, .int .i64 p3, .int .i64 p4, .int .i64 p5, .int .i64 p6, .int .i64 p7, .int .i64 p8, .int .i64 p9]) (.agg #[.int .i64 q0, .int .i64 q1, .int .i64 q2, .int .i64 q3, .int .i64 q4, .int .i64 q5, .int .i64 q6, .int .i64 q7, .int .i64 q8, .int .i64 q9])).run Try.prog w
      = .ok (decide ([p0, p1, p2, p3, p4, p5, p6, p7, p8, p9] = [q0, q1, q2, q3, q4, q5, q6, q7, q8, q9])) w := by
  have u3 := Try.underlying3
  have a3 := Try.isAgg3
  have z3 := Try.sizeOf3
  rw [show (9999 : Nat) = 9998 + 1 from rfl, Op.equalIn]
  simp only [Sem.run_bind, run_underlying Try.underlying37, Result.andThen_ok]
  simp only [Std.Legacy.Range.forIn_eq_forIn_range', Std.Legacy.Range.size, Nat.sub_zero, Nat.add_sub_cancel, Nat.div_one, List.range'_succ, List.range'_zero, List.forIn_cons, List.forIn_nil]
  go_simp
  by_cases e0 : p0 = q0
  case neg => (rw [if_neg e0, decide_eq_false e0]; rfl)
  rw [if_pos e0, decide_eq_true e0, Bool.true_and]
  by_cases e1 : p1 = q1
  case neg => (rw [if_neg e1, decide_eq_false e1]; rfl)
  rw [if_pos e1, decide_eq_true e1, Bool.true_and]
  by_cases e2 : p2 = q2
  case neg => (rw [if_neg e2, decide_eq_false e2]; rfl)
  rw [if_pos e2, decide_eq_true e2, Bool.true_and]
  by_cases e3 : p3 = q3
  case neg => (rw [if_neg e3, decide_eq_false e3]; rfl)
  rw [if_pos e3, decide_eq_true e3, Bool.true_and]
  by_cases e4 : p4 = q4
  case neg => (rw [if_neg e4, decide_eq_false e4]; rfl)
  rw [if_pos e4, decide_eq_true e4, Bool.true_and]
  by_cases e5 : p5 = q5
  case neg => (rw [if_neg e5, decide_eq_false e5]; rfl)
  rw [if_pos e5, decide_eq_true e5, Bool.true_and]
  by_cases e6 : p6 = q6
  case neg => (rw [if_neg e6, decide_eq_false e6]; rfl)
  rw [if_pos e6, decide_eq_true e6, Bool.true_and]
  by_cases e7 : p7 = q7
  case neg => (rw [if_neg e7, decide_eq_false e7]; rfl)
  rw [if_pos e7, decide_eq_true e7, Bool.true_and]
  by_cases e8 : p8 = q8
  case neg => (rw [if_neg e8, decide_eq_false e8]; rfl)
  rw [if_pos e8, decide_eq_true e8, Bool.true_and]
  by_cases e9 : p9 = q9
  · rw [if_pos e9, decide_eq_true e9]
  · rw [if_neg e9, decide_eq_false e9]

theorem eqIno_at (kp lp sp p0 p1 p2 p3 p4 p5 p6 p7 p8 p9 mp kq lq sq q0 q1 q2 q3 q4 q5 q6 q7 q8 q9 mq : Int) (w : World) :
    (Op.equalIn 10000 39 (.agg #[.int .i64 kp, .int .i64 lp, .int .i64 sp, .int .i64 p0, .int .i64 p1, .int .i64 p2, .int .i64 p3, .int .i64 p4, .int .i64 p5, .int .i64 p6, .int .i64 p7, .int .i64 p8, .int .i64 p9, .int .i64 mp]) (.agg #[.int .i64 kq, .int .i64 lq, .int .i64 sq, .int .i64 q0, .int .i64 q1, .int .i64 q2, .int .i64 q3, .int .i64 q4, .int .i64 q5, .int .i64 q6, .int .i64 q7, .int .i64 q8, .int .i64 q9, .int .i64 mq])).run Try.prog w
      = .ok (decide ([kp, lp, sp, p0, p1, p2, p3, p4, p5, p6, p7, p8, p9, mp] = [kq, lq, sq, q0, q1, q2, q3, q4, q5, q6, q7, q8, q9, mq])) w := by
  have hq := eq_arr10 p0 p1 p2 p3 p4 p5 p6 p7 p8 p9 q0 q1 q2 q3 q4 q5 q6 q7 q8 q9
  have u3 := Try.underlying3
  have a3 := Try.isAgg3
  have z3 := Try.sizeOf3
  go_simp
  by_cases e : kp = kq
  case neg => (rw [if_neg e, decide_eq_false e]; rfl)
  rw [if_pos e, decide_eq_true e]
  simp only [Bool.true_and]
  clear e
  by_cases e : lp = lq
  case neg => (rw [if_neg e, decide_eq_false e]; rfl)
  rw [if_pos e, decide_eq_true e]
  simp only [Bool.true_and]
  clear e
  by_cases e : sp = sq
  case neg => (rw [if_neg e, decide_eq_false e]; rfl)
  rw [if_pos e, decide_eq_true e]
  simp only [Bool.true_and]
  clear e
  by_cases e : p0 = q0
  case neg => (rw [decide_eq_false e]; rfl)
  rw [decide_eq_true e]
  simp only [Bool.true_and]
  clear e
  by_cases e : p1 = q1
  case neg => (rw [decide_eq_false e]; rfl)
  rw [decide_eq_true e]
  simp only [Bool.true_and]
  clear e
  by_cases e : p2 = q2
  case neg => (rw [decide_eq_false e]; rfl)
  rw [decide_eq_true e]
  simp only [Bool.true_and]
  clear e
  by_cases e : p3 = q3
  case neg => (rw [decide_eq_false e]; rfl)
  rw [decide_eq_true e]
  simp only [Bool.true_and]
  clear e
  by_cases e : p4 = q4
  case neg => (rw [decide_eq_false e]; rfl)
  rw [decide_eq_true e]
  simp only [Bool.true_and]
  clear e
  by_cases e : p5 = q5
  case neg => (rw [decide_eq_false e]; rfl)
  rw [decide_eq_true e]
  simp only [Bool.true_and]
  clear e
  by_cases e : p6 = q6
  case neg => (rw [decide_eq_false e]; rfl)
  rw [decide_eq_true e]
  simp only [Bool.true_and]
  clear e
  by_cases e : p7 = q7
  case neg => (rw [decide_eq_false e]; rfl)
  rw [decide_eq_true e]
  simp only [Bool.true_and]
  clear e
  by_cases e : p8 = q8
  case neg => (rw [decide_eq_false e]; rfl)
  rw [decide_eq_true e]
  simp only [Bool.true_and]
  clear e
  by_cases e : p9 = q9
  case neg => (rw [decide_eq_false e]; rfl)
  rw [decide_eq_true e]
  simp only [Bool.true_and]
  clear e
  by_cases e : mp = mq
  · rw [if_pos e, decide_eq_true e]; rfl
  · rw [if_neg e, decide_eq_false e]; rfl
theorem eqIno (L M : List Int) (hL : L.length = 14) (hM : M.length = 14) (w : World) : (Op.equalIn 10000 39 (.agg (iC L).toArray) (.agg (iC M).toArray)).run Try.prog w = .ok (decide (L = M)) w := by
  match L, hL, M, hM with
  | [kp, lp, sp, p0, p1, p2, p3, p4, p5, p6, p7, p8, p9, mp], _, [kq, lq, sq, q0, q1, q2, q3, q4, q5, q6, q7, q8, q9, mq], _ => exact eqIno_at kp lp sp p0 p1 p2 p3 p4 p5 p6 p7 p8 p9 mp kq lq sq q0 q1 q2 q3 q4 q5 q6 q7 q8 q9 mq w
theorem wpList_eqIno {ops : Array Oper} {rest : List Oper} {o : Oper} {a : Act} {w : World} {Q : Exit → Act → World → Prop} (hgd : o.guard = none) (x y : Operand) (ho : o.op = .binOp .eql 39 x y 39)
    (L M : List Int) (hL : L.length = 14) (hM : M.length = 14) (hx : a.eval x = .agg (iC L).toArray) (hy : a.eval y = .agg (iC M).toArray)
    (h : wpList Try.prog ops Q rest (a.put o.dst (.bool (decide (L = M)))) w) : wpList Try.prog ops Q (o :: rest) a w := by
  refine wpList_plain hgd fun K hK => ?_
  have hg : Try.prog.eqGuardType Try.prog.depth 39 = false := by kernel_rfl
  unfold Oper.wp execOp
  simp only [ho, hx, hy, Sem.run_bind, run_eqGuard_agg w _ _ _ _ _ _ hg, Result.andThen_ok, run_eql_struct, eqIno L M hL hM]
  exact hK _ _ h

theorem eqRIno_at (kp lp sp p0 p1 p2 p3 p4 p5 p6 p7 p8 p9 mp kq lq sq q0 q1 q2 q3 q4 q5 q6 q7 q8 q9 mq : Int) (w : World) :
    (Op.equalIn 10000 41 (.agg #[.int .i64 kp, .int .i64 lp, .int .i64 sp, .int .i64 p0, .int .i64 p1, .int .i64 p2, .int .i64 p3, .int .i64 p4, .int .i64 p5, .int .i64 p6, .int .i64 p7, .int .i64 p8, .int .i64 p9, .int .i64 mp]) (.agg #[.int .i64 kq, .int .i64 lq, .int .i64 sq, .int .i64 q0, .int .i64 q1, .int .i64 q2, .int .i64 q3, .int .i64 q4, .int .i64 q5, .int .i64 q6, .int .i64 q7, .int .i64 q8, .int .i64 q9, .int .i64 mq])).run Try.prog w
      = .ok (decide ([kp, lp, sp, p0, p1, p2, p3, p4, p5, p6, p7, p8, p9, mp] = [kq, lq, sq, q0, q1, q2, q3, q4, q5, q6, q7, q8, q9, mq])) w := by
  have hq := eq_arr10 p0 p1 p2 p3 p4 p5 p6 p7 p8 p9 q0 q1 q2 q3 q4 q5 q6 q7 q8 q9
  have u3 := Try.underlying3
  have a3 := Try.isAgg3
  have z3 := Try.sizeOf3
  go_simp
  by_cases e : kp = kq
  case neg => (rw [if_neg e, decide_eq_false e]; rfl)
  rw [if_pos e, decide_eq_true e]
  simp only [Bool.true_and]
  clear e
  by_cases e : lp = lq
  case neg => (rw [if_neg e, decide_eq_false e]; rfl)
  rw [if_pos e, decide_eq_true e]
  simp only [Bool.true_and]
  clear e
  by_cases e : sp = sq
  case neg => (rw [if_neg e, decide_eq_false e]; rfl)
  rw [if_pos e, decide_eq_true e]
  simp only [Bool.true_and]
  clear e
  by_cases e : p0 = q0
  case neg => (rw [decide_eq_false e]; rfl)
  rw [decide_eq_true e]
  simp only [Bool.true_and]
  clear e
  by_cases e : p1 = q1
  case neg => (rw [decide_eq_false e]; rfl)
  rw [decide_eq_true e]
  simp only [Bool.true_and]
  clear e
  by_cases e : p2 = q2
  case neg => (rw [decide_eq_false e]; rfl)
  rw [decide_eq_true e]
  simp only [Bool.true_and]
  clear e
  by_cases e : p3 = q3
  case neg => (rw [decide_eq_false e]; rfl)
  rw [decide_eq_true e]
  simp only [Bool.true_and]
  clear e
  by_cases e : p4 = q4
  case neg => (rw [decide_eq_false e]; rfl)
  rw [decide_eq_true e]
  simp only [Bool.true_and]
  clear e
  by_cases e : p5 = q5
  case neg => (rw [decide_eq_false e]; rfl)
  rw [decide_eq_true e]
  simp only [Bool.true_and]
  clear e
  by_cases e : p6 = q6
  case neg => (rw [decide_eq_false e]; rfl)
  rw [decide_eq_true e]
  simp only [Bool.true_and]
  clear e
  by_cases e : p7 = q7
  case neg => (rw [decide_eq_false e]; rfl)
  rw [decide_eq_true e]
  simp only [Bool.true_and]
  clear e
  by_cases e : p8 = q8
  case neg => (rw [decide_eq_false e]; rfl)
  rw [decide_eq_true e]
  simp only [Bool.true_and]
  clear e
  by_cases e : p9 = q9
  case neg => (rw [decide_eq_false e]; rfl)
  rw [decide_eq_true e]
  simp only [Bool.true_and]
  clear e
  by_cases e : mp = mq
  · rw [if_pos e, decide_eq_true e]; rfl
  · rw [if_neg e, decide_eq_false e]; rfl
theorem eqRIno (L M : List Int) (hL : L.length = 14) (hM : M.length = 14) (w : World) : (Op.equalIn 10000 41 (.agg (iC L).toArray) (.agg (iC M).toArray)).run Try.prog w = .ok (decide (L = M)) w := by
  match L, hL, M, hM with
  | [kp, lp, sp, p0, p1, p2, p3, p4, p5, p6, p7, p8, p9, mp], _, [kq, lq, sq, q0, q1, q2, q3, q4, q5, q6, q7, q8, q9, mq], _ => exact eqRIno_at kp lp sp p0 p1 p2 p3 p4 p5 p6 p7 p8 p9 mp kq lq sq q0 q1 q2 q3 q4 q5 q6 q7 q8 q9 mq w
theorem wpList_eqRIno {ops : Array Oper} {rest : List Oper} {o : Oper} {a : Act} {w : World} {Q : Exit → Act → World → Prop} (hgd : o.guard = none) (x y : Operand) (ho : o.op = .binOp .eql 41 x y 41)
    (L M : List Int) (hL : L.length = 14) (hM : M.length = 14) (hx : a.eval x = .agg (iC L).toArray) (hy : a.eval y = .agg (iC M).toArray)
    (h : wpList Try.prog ops Q rest (a.put o.dst (.bool (decide (L = M)))) w) : wpList Try.prog ops Q (o :: rest) a w := by
  refine wpList_plain hgd fun K hK => ?_
  have hg : Try.prog.eqGuardType Try.prog.depth 41 = false := by kernel_rfl
  unfold Oper.wp execOp
  simp only [ho, hx, hy, Sem.run_bind, run_eqGuard_agg w _ _ _ _ _ _ hg, Result.andThen_ok, run_eql_struct, eqRIno L M hL hM]
  exact hK _ _ h
end Go.Proofs.Ytbikbglkecbgjaa
