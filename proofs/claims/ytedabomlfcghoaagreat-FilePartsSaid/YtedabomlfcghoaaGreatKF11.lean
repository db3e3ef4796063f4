/- What the law rests on: part 11. -/
import Derived.Laws.StructEq
import Derived.Maps.Keyed
import Derived.WideKeyEntry
import Derived.ArgAppend
import Derived.ChangeMaps5
import Derived.Maps.Own
import Derived.Maps.OwnSet
import Derived.Maps.Views
import Derived.Lib.SlKeysI
import Derived.Lib.SlMapMerge
import Derived.Test.YtedabomlfcghoaaGreatKF10
set_option linter.unusedVariables false
namespace Go.Proofs.YtedabomlfcghoaaGreat
set_option maxRecDepth 100000
open Go.RowKit
theorem eq_arr10 (p0 p1 p2 p3 p4 p5 p6 p7 p8 p9 q0 q1 q2 q3 q4 q5 q6 q7 q8 q9:Int) (w:World):
 (Op.equalIn 9999 45 (.agg #[.int .i64 p0,.int .i64 p1,.int .i64 p2,.int .i64 p3,.int .i64 p4,.int .i64 p5,.int .i64 p6,.int .i64 p7,.int .i64 p8,.int .i64 p9]) (.agg #[.int .i64 q0,.int .i64 q1,.int .i64 q2,.int .i64 q3,.int .i64 q4,.int .i64 q5,.int .i64 q6,.int .i64 q7,.int .i64 q8,.int .i64 q9])).run Tryz.prog w
   =.ok (decide ([p0,p1,p2,p3,p4,p5,p6,p7,p8,p9]=[q0,q1,q2,q3,q4,q5,q6,q7,q8,q9])) w:=by
 have u3:=Tryz.underlying3
 have a3:=Tryz.isAgg3
 have z3:=Tryz.sizeOf3
 rw[show (9999:Nat)=9998+1 from rfl,Op.equalIn]
 simp only[Sem.run_bind,run_underlying Tryz.underlying45,Result.andThen_ok]
 simp only[Std.Legacy.Range.forIn_eq_forIn_range',Std.Legacy.Range.size,Nat.sub_zero,Nat.add_sub_cancel,Nat.div_one,List.range'_succ,List.range'_zero,List.forIn_cons,List.forIn_nil]
 go_simp
 by_cases e0:p0=q0
 case neg=>(rw [if_neg e0,decide_eq_false e0];rfl)
 rw[if_pos e0,decide_eq_true e0,Bool.true_and]
 by_cases e1:p1=q1
 case neg=>(rw [if_neg e1,decide_eq_false e1];rfl)
 rw[if_pos e1,decide_eq_true e1,Bool.true_and]
 by_cases e2:p2=q2
 case neg=>(rw [if_neg e2,decide_eq_false e2];rfl)
 rw[if_pos e2,decide_eq_true e2,Bool.true_and]
 by_cases e3:p3=q3
 case neg=>(rw [if_neg e3,decide_eq_false e3];rfl)
 rw[if_pos e3,decide_eq_true e3,Bool.true_and]
 by_cases e4:p4=q4
 case neg=>(rw [if_neg e4,decide_eq_false e4];rfl)
 rw[if_pos e4,decide_eq_true e4,Bool.true_and]
 by_cases e5:p5=q5
 case neg=>(rw [if_neg e5,decide_eq_false e5];rfl)
 rw[if_pos e5,decide_eq_true e5,Bool.true_and]
 by_cases e6:p6=q6
 case neg=>(rw [if_neg e6,decide_eq_false e6];rfl)
 rw[if_pos e6,decide_eq_true e6,Bool.true_and]
 by_cases e7:p7=q7
 case neg=>(rw [if_neg e7,decide_eq_false e7];rfl)
 rw[if_pos e7,decide_eq_true e7,Bool.true_and]
 by_cases e8:p8=q8
 case neg=>(rw [if_neg e8,decide_eq_false e8];rfl)
 rw[if_pos e8,decide_eq_true e8,Bool.true_and]
 by_cases e9:p9=q9
 · rw[if_pos e9,decide_eq_true e9]
 · rw[if_neg e9,decide_eq_false e9]
theorem eqIno_at (kp lp sp p0 p1 p2 p3 p4 p5 p6 p7 p8 p9 mp kq lq sq q0 q1 q2 q3 q4 q5 q6 q7 q8 q9 mq:Int) (w:World):
 (Op.equalIn 10000 47 (.agg #[.int .i64 kp,.int .i64 lp,.int .i64 sp,.int .i64 p0,.int .i64 p1,.int .i64 p2,.int .i64 p3,.int .i64 p4,.int .i64 p5,.int .i64 p6,.int .i64 p7,.int .i64 p8,.int .i64 p9,.int .i64 mp]) (.agg #[.int .i64 kq,.int .i64 lq,.int .i64 sq,.int .i64 q0,.int .i64 q1,.int .i64 q2,.int .i64 q3,.int .i64 q4,.int .i64 q5,.int .i64 q6,.int .i64 q7,.int .i64 q8,.int .i64 q9,.int .i64 mq])).run Tryz.prog w
   =.ok (decide ([kp,lp,sp,p0,p1,p2,p3,p4,p5,p6,p7,p8,p9,mp]=[kq,lq,sq,q0,q1,q2,q3,q4,q5,q6,q7,q8,q9,mq])) w:=by
 have hq:=eq_arr10 p0 p1 p2 p3 p4 p5 p6 p7 p8 p9 q0 q1 q2 q3 q4 q5 q6 q7 q8 q9
 have u3:=Tryz.underlying3
 have a3:=Tryz.isAgg3
 have z3:=Tryz.sizeOf3
 go_simp
 by_cases e:kp=kq
 case neg=>(rw [if_neg e,decide_eq_false e];rfl)
 rw[if_pos e,decide_eq_true e]
 simp only[Bool.true_and]
 clear e
 by_cases e:lp=lq
 case neg=>(rw [if_neg e,decide_eq_false e];rfl)
 rw[if_pos e,decide_eq_true e]
 simp only[Bool.true_and]
 clear e
 by_cases e:sp=sq
 case neg=>(rw [if_neg e,decide_eq_false e];rfl)
 rw[if_pos e,decide_eq_true e]
 simp only[Bool.true_and]
 clear e
 by_cases e:p0=q0
 case neg=>(rw [decide_eq_false e];rfl)
 rw[decide_eq_true e]
 simp only[Bool.true_and]
 clear e
 by_cases e:p1=q1
 case neg=>(rw [decide_eq_false e];rfl)
 rw[decide_eq_true e]
 simp only[Bool.true_and]
 clear e
 by_cases e:p2=q2
 case neg=>(rw [decide_eq_false e];rfl)
 rw[decide_eq_true e]
 simp only[Bool.true_and]
 clear e
 by_cases e:p3=q3
 case neg=>(rw [decide_eq_false e];rfl)
 rw[decide_eq_true e]
 simp only[Bool.true_and]
 clear e
 by_cases e:p4=q4
 case neg=>(rw [decide_eq_false e];rfl)
 rw[decide_eq_true e]
 simp only[Bool.true_and]
 clear e
 by_cases e:p5=q5
 case neg=>(rw [decide_eq_false e];rfl)
 rw[decide_eq_true e]
 simp only[Bool.true_and]
 clear e
 by_cases e:p6=q6
 case neg=>(rw [decide_eq_false e];rfl)
 rw[decide_eq_true e]
 simp only[Bool.true_and]
 clear e
 by_cases e:p7=q7
 case neg=>(rw [decide_eq_false e];rfl)
 rw[decide_eq_true e]
 simp only[Bool.true_and]
 clear e
 by_cases e:p8=q8
 case neg=>(rw [decide_eq_false e];rfl)
 rw[decide_eq_true e]
 simp only[Bool.true_and]
 clear e
 by_cases e:p9=q9
 case neg=>(rw [decide_eq_false e];rfl)
 rw[decide_eq_true e]
 simp only[Bool.true_and]
 clear e
 by_cases e:mp=mq
 · rw[if_pos e,decide_eq_true e];rfl
 · rw[if_neg e,decide_eq_false e];rfl
theorem eqIno (L M:List Int) (hL:L.length=14) (hM:M.length=14) (w:World):(Op.equalIn 10000 47 (.agg (iC L).toArray) (.agg (iC M).toArray)).run Tryz.prog w=.ok (decide (L=M)) w:=by
 match L,hL,M,hM with
 |[kp,lp,sp,p0,p1,p2,p3,p4,p5,p6,p7,p8,p9,mp],_,[kq,lq,sq,q0,q1,q2,q3,q4,q5,q6,q7,q8,q9,mq],_=>exact eqIno_at kp lp sp p0 p1 p2 p3 p4 p5 p6 p7 p8 p9 mp kq lq sq q0 q1 q2 q3 q4 q5 q6 q7 q8 q9 mq w
theorem wpList_eqIno {ops:Array Oper}{rest:List Oper}{o:Oper}{a:Act}{w:World}{Q:Exit->Act->World->Prop} (hgd:o.guard=none) (x y:Operand) (ho:o.op=.binOp .eql 47 x y 47)
 (L M:List Int) (hL:L.length=14) (hM:M.length=14) (hx:a.eval x=.agg (iC L).toArray) (hy:a.eval y=.agg (iC M).toArray)
 (h:wpList Tryz.prog ops Q rest (a.put o.dst (.bool (decide (L=M)))) w):wpList Tryz.prog ops Q (o :: rest) a w:=by
 refine wpList_plain hgd fun K hK=>?_
 have hg:Tryz.prog.eqGuardType Tryz.prog.depth 47=false:=by kernel_rfl
 unfold Oper.wp execOp
 simp only[ho,hx,hy,Sem.run_bind,run_eqGuard_agg w _ _ _ _ _ _ hg,Result.andThen_ok,run_eql_struct,eqIno L M hL hM]
 exact hK _ _ h
theorem eqRIno_at (kp lp sp p0 p1 p2 p3 p4 p5 p6 p7 p8 p9 mp kq lq sq q0 q1 q2 q3 q4 q5 q6 q7 q8 q9 mq:Int) (w:World):
 (Op.equalIn 10000 146 (.agg #[.int .i64 kp,.int .i64 lp,.int .i64 sp,.int .i64 p0,.int .i64 p1,.int .i64 p2,.int .i64 p3,.int .i64 p4,.int .i64 p5,.int .i64 p6,.int .i64 p7,.int .i64 p8,.int .i64 p9,.int .i64 mp]) (.agg #[.int .i64 kq,.int .i64 lq,.int .i64 sq,.int .i64 q0,.int .i64 q1,.int .i64 q2,.int .i64 q3,.int .i64 q4,.int .i64 q5,.int .i64 q6,.int .i64 q7,.int .i64 q8,.int .i64 q9,.int .i64 mq])).run Tryz.prog w
   =.ok (decide ([kp,lp,sp,p0,p1,p2,p3,p4,p5,p6,p7,p8,p9,mp]=[kq,lq,sq,q0,q1,q2,q3,q4,q5,q6,q7,q8,q9,mq])) w:=by
 have hq:=eq_arr10 p0 p1 p2 p3 p4 p5 p6 p7 p8 p9 q0 q1 q2 q3 q4 q5 q6 q7 q8 q9
 have u3:=Tryz.underlying3
 have a3:=Tryz.isAgg3
 have z3:=Tryz.sizeOf3
 go_simp
 by_cases e:kp=kq
 case neg=>(rw [if_neg e,decide_eq_false e];rfl)
 rw[if_pos e,decide_eq_true e]
 simp only[Bool.true_and]
 clear e
 by_cases e:lp=lq
 case neg=>(rw [if_neg e,decide_eq_false e];rfl)
 rw[if_pos e,decide_eq_true e]
 simp only[Bool.true_and]
 clear e
 by_cases e:sp=sq
 case neg=>(rw [if_neg e,decide_eq_false e];rfl)
 rw[if_pos e,decide_eq_true e]
 simp only[Bool.true_and]
 clear e
 by_cases e:p0=q0
 case neg=>(rw [decide_eq_false e];rfl)
 rw[decide_eq_true e]
 simp only[Bool.true_and]
 clear e
 by_cases e:p1=q1
 case neg=>(rw [decide_eq_false e];rfl)
 rw[decide_eq_true e]
 simp only[Bool.true_and]
 clear e
 by_cases e:p2=q2
 case neg=>(rw [decide_eq_false e];rfl)
 rw[decide_eq_true e]
 simp only[Bool.true_and]
 clear e
 by_cases e:p3=q3
 case neg=>(rw [decide_eq_false e];rfl)
 rw[decide_eq_true e]
 simp only[Bool.true_and]
 clear e
 by_cases e:p4=q4
 case neg=>(rw [decide_eq_false e];rfl)
 rw[decide_eq_true e]
 simp only[Bool.true_and]
 clear e
 by_cases e:p5=q5
 case neg=>(rw [decide_eq_false e];rfl)
 rw[decide_eq_true e]
 simp only[Bool.true_and]
 clear e
 by_cases e:p6=q6
 case neg=>(rw [decide_eq_false e];rfl)
 rw[decide_eq_true e]
 simp only[Bool.true_and]
 clear e
 by_cases e:p7=q7
 case neg=>(rw [decide_eq_false e];rfl)
 rw[decide_eq_true e]
 simp only[Bool.true_and]
 clear e
 by_cases e:p8=q8
 case neg=>(rw [decide_eq_false e];rfl)
 rw[decide_eq_true e]
 simp only[Bool.true_and]
 clear e
 by_cases e:p9=q9
 case neg=>(rw [decide_eq_false e];rfl)
 rw[decide_eq_true e]
 simp only[Bool.true_and]
 clear e
 by_cases e:mp=mq
 · rw[if_pos e,decide_eq_true e];rfl
 · rw[if_neg e,decide_eq_false e];rfl
theorem eqRIno (L M:List Int) (hL:L.length=14) (hM:M.length=14) (w:World):(Op.equalIn 10000 146 (.agg (iC L).toArray) (.agg (iC M).toArray)).run Tryz.prog w=.ok (decide (L=M)) w:=by
 match L,hL,M,hM with
 |[kp,lp,sp,p0,p1,p2,p3,p4,p5,p6,p7,p8,p9,mp],_,[kq,lq,sq,q0,q1,q2,q3,q4,q5,q6,q7,q8,q9,mq],_=>exact eqRIno_at kp lp sp p0 p1 p2 p3 p4 p5 p6 p7 p8 p9 mp kq lq sq q0 q1 q2 q3 q4 q5 q6 q7 q8 q9 mq w
theorem wpList_eqRIno {ops:Array Oper}{rest:List Oper}{o:Oper}{a:Act}{w:World}{Q:Exit->Act->World->Prop} (hgd:o.guard=none) (x y:Operand) (ho:o.op=.binOp .eql 146 x y 146)
 (L M:List Int) (hL:L.length=14) (hM:M.length=14) (hx:a.eval x=.agg (iC L).toArray) (hy:a.eval y=.agg (iC M).toArray)
 (h:wpList Tryz.prog ops Q rest (a.put o.dst (.bool (decide (L=M)))) w):wpList Tryz.prog ops Q (o :: rest) a w:=by
 refine wpList_plain hgd fun K hK=>?_
 have hg:Tryz.prog.eqGuardType Tryz.prog.depth 146=false:=by kernel_rfl
 unfold Oper.wp execOp
 simp only[ho,hx,hy,Sem.run_bind,run_eqGuard_agg w _ _ _ _ _ _ hg,Result.andThen_ok,run_eql_struct,eqRIno L M hL hM]
 exact hK _ _ h
def most (kd:Int):Int:=if kd=3 then 200 else 35328
def zeroI:List Int:=[0,0,0,0,0,0,0,0,0,0,0,0,0,0]
def frmN (kd ln sz mp:Int) (D:List Int):Bool:=decide (1<=kd/\kd<=3) && (decide (0<=ln/\ln<=200) && (decide (0<=sz/\sz<=most kd) && (locS D && inB mp)))
def frmI (L:List Int):Bool:=if L.getD 0 0=0 then decide (L=zeroI) else frmN (L.getD 0 0) (L.getD 1 0) (L.getD 2 0) (L.getD 13 0) ((L.drop 3).take 10)
theorem iLongest_yes (kd:Int) (h:1<=kd/\kd<=3) (w:World):Calls Tryz.prog 138 #[.int .i64 kd] w fun e w'=>e=.returned (.tuple #[.int .i64 (most kd),.bool true])/\w=w':=by
 have:kd=1\/kd=2\/kd=3:=by omega
 rcases this with rfl|rfl|rfl
 all_goals
  clear h
  go_enter Tryz.func138,Tryz.ntmps138
  go_wp2
  go_ret2
  exact ⟨rfl,rfl⟩
theorem iLongest_no (kd:Int) (h:¬ (1<=kd/\kd<=3)) (w:World):Calls Tryz.prog 138 #[.int .i64 kd] w fun e w'=>e=.returned (.tuple #[.int .i64 0,.bool false])/\w=w':=by
 have h1:(kd==1)=false:=by simp;omega
 have h2:(kd==2)=false:=by simp;omega
 have h3:(kd==3)=false:=by simp;omega
 clear h
 go_enter Tryz.func138,Tryz.ntmps138
 go_wp2
 go_ret2
 exact ⟨rfl,rfl⟩
theorem iForm_zero (kd ln sz d0 d1 d2 d3 d4 d5 d6 d7 d8 d9 mp:Int) (h:kd=0) (w:World):Calls Tryz.prog 90 #[.agg #[.int .i64 kd,.int .i64 ln,.int .i64 sz,.int .i64 d0,.int .i64 d1,.int .i64 d2,.int .i64 d3,.int .i64 d4,.int .i64 d5,.int .i64 d6,.int .i64 d7,.int .i64 d8,.int .i64 d9,.int .i64 mp]] w fun e w'=>e=.returned (.bool (decide ([kd,ln,sz,d0,d1,d2,d3,d4,d5,d6,d7,d8,d9,mp]=zeroI)))/\Below w.heap.size w w':=by
 have hb:=below_box w (.cells #[.int .i64 kd,.int .i64 ln,.int .i64 sz,.int .i64 d0,.int .i64 d1,.int .i64 d2,.int .i64 d3,.int .i64 d4,.int .i64 d5,.int .i64 d6,.int .i64 d7,.int .i64 d8,.int .i64 d9,.int .i64 mp] 47)
 have hr:=heap_alloc_new w (.cells #[.int .i64 kd,.int .i64 ln,.int .i64 sz,.int .i64 d0,.int .i64 d1,.int .i64 d2,.int .i64 d3,.int .i64 d4,.int .i64 d5,.int .i64 d6,.int .i64 d7,.int .i64 d8,.int .i64 d9,.int .i64 mp] 47)
 have hrg:(w.alloc (.cells #[.int .i64 kd,.int .i64 ln,.int .i64 sz,.int .i64 d0,.int .i64 d1,.int .i64 d2,.int .i64 d3,.int .i64 d4,.int .i64 d5,.int .i64 d6,.int .i64 d7,.int .i64 d8,.int .i64 d9,.int .i64 mp] 47)).rangeAt w.heap.size 0 (iC [kd,ln,sz,d0,d1,d2,d3,d4,d5,d6,d7,d8,d9,mp]):=io_range hr
 have HRG:=Lib.hid hrg
 have u1:=Tryz.underlying47
 clear hr hrg
 have hk:(kd==0)=true:=by simp[h]
 clear h
 go_enter Tryz.func90,Tryz.ntmps90
 go_wp2_with (first
  |(with_reducible refine wpList_load_nums rfl 47 (.tmp 1) rfl w.heap.size 0 rfl [kd,ln,sz,d0,d1,d2,d3,d4,d5,d6,d7,d8,d9,mp] _ HRG.out u1 rfl rfl ?_)
  |(with_reducible refine wpList_eqIno rfl (.tmp 8) (.tmp 9) rfl [kd,ln,sz,d0,d1,d2,d3,d4,d5,d6,d7,d8,d9,mp] zeroI rfl rfl rfl rfl ?_))
 go_ret
 exact ⟨rfl,hb⟩
theorem run_slice_arr10 (W:World) (a:Addr):(Instr.sliceAt 45 (.pointer (some a)) none none none).run Tryz.prog W=.ok (.slice (some a) 10 10) W:=by
 obtain ⟨i,h2,h3,h4,h5⟩:=info_parts infoI64
 have l10:Tryz.prog.arrayLen 45=10:=by kernel_rfl
 have e10:Tryz.prog.elem 45=3:=by kernel_rfl
 obtain ⟨a1,a2,a3⟩:=a
 simp[Instr.sliceAt,run_underlying Tryz.underlying45,sizeOf,typeInfo,h2,Addr.add,Instr.sureAddr,Instr.sliceBounds]
theorem iForm_kind (kd ln sz d0 d1 d2 d3 d4 d5 d6 d7 d8 d9 mp:Int) (h0:kd≠0) (h:¬ (1<=kd/\kd<=3)) (w:World):Calls Tryz.prog 90 #[.agg #[.int .i64 kd,.int .i64 ln,.int .i64 sz,.int .i64 d0,.int .i64 d1,.int .i64 d2,.int .i64 d3,.int .i64 d4,.int .i64 d5,.int .i64 d6,.int .i64 d7,.int .i64 d8,.int .i64 d9,.int .i64 mp]] w fun e w'=>e=.returned (.bool false)/\Below w.heap.size w w':=by
 have hb:=below_box w (.cells #[.int .i64 kd,.int .i64 ln,.int .i64 sz,.int .i64 d0,.int .i64 d1,.int .i64 d2,.int .i64 d3,.int .i64 d4,.int .i64 d5,.int .i64 d6,.int .i64 d7,.int .i64 d8,.int .i64 d9,.int .i64 mp] 47)
 have KL:=Lib.hid (iLongest_no kd h)
 have hk:(kd==0)=false:=by simp[h0]
 clear h h0
 go_enter Tryz.func90,Tryz.ntmps90
 go_wp2_with (first
  |(go_at_call 138;with_reducible refine (KL.out _).mono ?_;rintro e w' ⟨rfl,rfl⟩))
 go_ret
 exact ⟨rfl,hb⟩
theorem iForm_n (kd ln sz d0 d1 d2 d3 d4 d5 d6 d7 d8 d9 mp:Int) (h:1<=kd/\kd<=3) (w:World):Calls Tryz.prog 90 #[.agg #[.int .i64 kd,.int .i64 ln,.int .i64 sz,.int .i64 d0,.int .i64 d1,.int .i64 d2,.int .i64 d3,.int .i64 d4,.int .i64 d5,.int .i64 d6,.int .i64 d7,.int .i64 d8,.int .i64 d9,.int .i64 mp]] w fun e w'=>e=.returned (.bool (frmN kd ln sz mp [d0,d1,d2,d3,d4,d5,d6,d7,d8,d9]))/\Below w.heap.size w w':=by
 have hb:=below_box w (.cells #[.int .i64 kd,.int .i64 ln,.int .i64 sz,.int .i64 d0,.int .i64 d1,.int .i64 d2,.int .i64 d3,.int .i64 d4,.int .i64 d5,.int .i64 d6,.int .i64 d7,.int .i64 d8,.int .i64 d9,.int .i64 mp] 47)
 have hr:(w.alloc (.cells #[.int .i64 kd,.int .i64 ln,.int .i64 sz,.int .i64 d0,.int .i64 d1,.int .i64 d2,.int .i64 d3,.int .i64 d4,.int .i64 d5,.int .i64 d6,.int .i64 d7,.int .i64 d8,.int .i64 d9,.int .i64 mp] 47)).heap[w.heap.size]? =some (iO [kd,ln,sz,d0,d1,d2,d3,d4,d5,d6,d7,d8,d9,mp] 47):=heap_alloc_new w _
 have KL:=Lib.hid (iLongest_yes kd h)
 have hk:(kd==0)=false:=by simp;omega
 have hsl:=run_slice_arr10 (w.alloc (.cells #[.int .i64 kd,.int .i64 ln,.int .i64 sz,.int .i64 d0,.int .i64 d1,.int .i64 d2,.int .i64 d3,.int .i64 d4,.int .i64 d5,.int .i64 d6,.int .i64 d7,.int .i64 d8,.int .i64 d9,.int .i64 mp] 47)) ⟨w.heap.size,3,none⟩
 unfold frmN
 rw[decide_eq_true h,Bool.true_and]
 obtain ⟨M,hM⟩:∃ M,M=most kd:=⟨_,rfl⟩
 rw[<- hM] at KL |-
 clear hM h
 obtain ⟨B1,h1⟩:∃ B,decide (0<=ln/\ln<=200)=B:=⟨_,rfl⟩
 obtain ⟨B2,h2⟩:∃ B,decide (0<=sz/\sz<=M)=B:=⟨_,rfl⟩
 obtain ⟨B3,h3⟩:∃ B,locS [d0,d1,d2,d3,d4,d5,d6,d7,d8,d9]=B:=⟨_,rfl⟩
 obtain ⟨B4,h4⟩:∃ B,inB mp=B:=⟨_,rfl⟩
 rw[h1,h2,h3,h4]
 have hd:ISl (w.alloc (.cells #[.int .i64 kd,.int .i64 ln,.int .i64 sz,.int .i64 d0,.int .i64 d1,.int .i64 d2,.int .i64 d3,.int .i64 d4,.int .i64 d5,.int .i64 d6,.int .i64 d7,.int .i64 d8,.int .i64 d9,.int .i64 mp] 47)) (.slice (some ⟨w.heap.size,3,none⟩) 10 10) [d0,d1,d2,d3,d4,d5,d6,d7,d8,d9]:=.inr ⟨_,_,rfl,fun j hj=>by
  refine ⟨by simp,rfl,?_⟩
  have hj:j<10:=hj
  have hx:=io_cell hr (3+j) (by simp;omega)
  show (w.alloc _).cell? ⟨w.heap.size,3+j,none⟩=_
  rw[hx,show 3+j=j+3 by omega]
  have:j=0\/j=1\/j=2\/j=3\/j=4\/j=5\/j=6\/j=7\/j=8\/j=9:=by omega
  rcases this with rfl|rfl|rfl|rfl|rfl|rfl|rfl|rfl|rfl|rfl <;> rfl⟩
 have K1:=Lib.hid (iWithin_is ln 200 B1 h1)
 have K2:=Lib.hid (iWithin_is sz M B2 h2)
 have KD:=Lib.hid (iLocated_is hd (by simp) B3 h3)
 have K4:=Lib.hid (iIsBlock_is mp B4 h4)
 clear h1 h2 h3 h4 hd hr
 cases B1
 case false=>
  go_enter Tryz.func90,Tryz.ntmps90
  go_wp2_with (first
   |(go_at_call 138;with_reducible refine (KL.out _).mono ?_;rintro e w' ⟨rfl,rfl⟩)
   |(go_at_call 139;with_reducible refine (K1.out _).mono ?_;rintro e w' ⟨rfl,rfl⟩)
   |(go_at_call 139;with_reducible refine (K2.out _).mono ?_;rintro e w' ⟨rfl,rfl⟩)
   |(go_at_call 140;refine KD.out.mono ?_;rintro e w' ⟨rfl,rfl⟩)
   |(go_at_call 141;with_reducible refine (K4.out _).mono ?_;rintro e w' ⟨rfl,rfl⟩))
  go_ret
  exact ⟨rfl,hb⟩
 cases B2
 case false=>
  go_enter Tryz.func90,Tryz.ntmps90
  go_wp2_with (first
   |(go_at_call 138;with_reducible refine (KL.out _).mono ?_;rintro e w' ⟨rfl,rfl⟩)
   |(go_at_call 139;with_reducible refine (K1.out _).mono ?_;rintro e w' ⟨rfl,rfl⟩)
   |(go_at_call 139;with_reducible refine (K2.out _).mono ?_;rintro e w' ⟨rfl,rfl⟩)
   |(go_at_call 140;refine KD.out.mono ?_;rintro e w' ⟨rfl,rfl⟩)
   |(go_at_call 141;with_reducible refine (K4.out _).mono ?_;rintro e w' ⟨rfl,rfl⟩))
  go_ret
  exact ⟨rfl,hb⟩
 cases B3
 case false=>
  go_enter Tryz.func90,Tryz.ntmps90
  go_wp2_with (first
   |(go_at_call 138;with_reducible refine (KL.out _).mono ?_;rintro e w' ⟨rfl,rfl⟩)
   |(go_at_call 139;with_reducible refine (K1.out _).mono ?_;rintro e w' ⟨rfl,rfl⟩)
   |(go_at_call 139;with_reducible refine (K2.out _).mono ?_;rintro e w' ⟨rfl,rfl⟩)
   |(go_at_call 140;refine KD.out.mono ?_;rintro e w' ⟨rfl,rfl⟩)
   |(go_at_call 141;with_reducible refine (K4.out _).mono ?_;rintro e w' ⟨rfl,rfl⟩))
  go_ret
  exact ⟨rfl,hb⟩
 cases B4
 case false=>
  go_enter Tryz.func90,Tryz.ntmps90
  go_wp2_with (first
   |(go_at_call 138;with_reducible refine (KL.out _).mono ?_;rintro e w' ⟨rfl,rfl⟩)
   |(go_at_call 139;with_reducible refine (K1.out _).mono ?_;rintro e w' ⟨rfl,rfl⟩)
   |(go_at_call 139;with_reducible refine (K2.out _).mono ?_;rintro e w' ⟨rfl,rfl⟩)
   |(go_at_call 140;refine KD.out.mono ?_;rintro e w' ⟨rfl,rfl⟩)
   |(go_at_call 141;with_reducible refine (K4.out _).mono ?_;rintro e w' ⟨rfl,rfl⟩))
  go_ret
  exact ⟨rfl,hb⟩
 case true=>
  go_enter Tryz.func90,Tryz.ntmps90
  go_wp2_with (first
   |(go_at_call 138;with_reducible refine (KL.out _).mono ?_;rintro e w' ⟨rfl,rfl⟩)
   |(go_at_call 139;with_reducible refine (K1.out _).mono ?_;rintro e w' ⟨rfl,rfl⟩)
   |(go_at_call 139;with_reducible refine (K2.out _).mono ?_;rintro e w' ⟨rfl,rfl⟩)
   |(go_at_call 140;refine KD.out.mono ?_;rintro e w' ⟨rfl,rfl⟩)
   |(go_at_call 141;with_reducible refine (K4.out _).mono ?_;rintro e w' ⟨rfl,rfl⟩))
  go_ret
  exact ⟨rfl,hb⟩
theorem iForm_of {L:List Int} (hL:L.length=14) (w:World):Calls Tryz.prog 90 #[.agg (iC L).toArray] w fun e w'=>e=.returned (.bool (frmI L))/\Below w.heap.size w w':=by
 match L,hL with
 |[kd,ln,sz,d0,d1,d2,d3,d4,d5,d6,d7,d8,d9,mp],_=>
  show Calls Tryz.prog 90 #[.agg #[.int .i64 kd,.int .i64 ln,.int .i64 sz,.int .i64 d0,.int .i64 d1,.int .i64 d2,.int .i64 d3,.int .i64 d4,.int .i64 d5,.int .i64 d6,.int .i64 d7,.int .i64 d8,.int .i64 d9,.int .i64 mp]] w fun e w'=>e=.returned (.bool (if kd=0 then decide ([kd,ln,sz,d0,d1,d2,d3,d4,d5,d6,d7,d8,d9,mp]=zeroI) else frmN kd ln sz mp [d0,d1,d2,d3,d4,d5,d6,d7,d8,d9]))/\Below w.heap.size w w'
  by_cases h0:kd=0
  · rw[if_pos h0];exact iForm_zero kd ln sz d0 d1 d2 d3 d4 d5 d6 d7 d8 d9 mp h0 w
  · rw[if_neg h0]
    by_cases h:1<=kd/\kd<=3
    · exact iForm_n kd ln sz d0 d1 d2 d3 d4 d5 d6 d7 d8 d9 mp h w
    · have e:frmN kd ln sz mp [d0,d1,d2,d3,d4,d5,d6,d7,d8,d9]=false:=by unfold frmN;rw[decide_eq_false h];rfl
      rw[e];exact iForm_kind kd ln sz d0 d1 d2 d3 d4 d5 d6 d7 d8 d9 mp h0 h w
theorem iForm_is {L:List Int} (hL:L.length=14) (B:Bool) (h:frmI L=B) (w:World):Calls Tryz.prog 90 #[.agg (iC L).toArray] w fun e w'=>e=.returned (.bool B)/\Below w.heap.size w w':=by
 rw[<- h];exact iForm_of hL w
def w7 (j:Nat):Nat:=if j<2 then 1 else if j=2 then 4 else 2
def p7:Nat->Nat
 |0=>0
 |j+1=>p7 j+w7 j
theorem w7_le (j:Nat):1<=w7 j/\w7 j<=4:=by unfold w7;split <;> (try split) <;> omega
theorem w7_two (j:Nat):w7 (3+j)=2:=by unfold w7;rw[if_neg (by omega),if_neg (by omega)]
theorem p7_two:∀ j,p7 (3+j)=6+2*j
 |0=>rfl
 |j+1=>by
  have:=p7_two j
  show p7 (3+j)+w7 (3+j)=_
  rw[this,w7_two];omega
theorem p7_in (j:Nat) (hj:j<14):p7 j+w7 j<=28:=by
 by_cases h:j<3
 · have:j=0\/j=1\/j=2:=by omega
   rcases this with rfl|rfl|rfl <;> decide
 · obtain ⟨k,rfl⟩:∃ k,j=3+k:=⟨j-3,by omega⟩
   rw[p7_two,w7_two];omega
theorem p7_end:p7 14=28:=rfl
def con7 (L:List Int):Nat->List Int
 |0=>[]
 |j+1=>con7 L j ++ lowB (L.getD j 0) (w7 j)
theorem con7_length (L:List Int):∀ j,(con7 L j).length=p7 j
 |0=>rfl
 |j+1=>by rw[con7,List.length_append,con7_length L j,lowB_length];rfl
def enc7 (L:List Int):List Int:=con7 L 14 ++ List.replicate 4 0
theorem enc7_length (L:List Int):(enc7 L).length=32:=by rw[enc7,List.length_append,con7_length,List.length_replicate];rfl
theorem con7_split (L:List Int) (i:Nat):∀ j,i<j->∃ B,con7 L j=con7 L i ++ (lowB (L.getD i 0) (w7 i) ++ B):=by
 intro j
 induction j with
 |zero=>intro h;omega
 |succ j ih=>
  intro h
  by_cases e:i=j
  · subst e;exact ⟨[],by rw[con7];simp⟩
  · obtain ⟨B,hB⟩:=ih (by omega)
    exact ⟨B ++ lowB (L.getD j 0) (w7 j),by rw[con7,hB];simp⟩
theorem frm7_num {L:List Int} (hL:L.length=14) (h:frmI L=true) (j:Nat) (hj:j<14):0<=L.getD j 0/\L.getD j 0<256 ^ w7 j:=by
 unfold frmI at h
 split at h
 · have e:=of_decide_eq_true h
   have h0:L.getD j 0=0:=by
    rw[e]
    match j,hj with
    |0,_|1,_|2,_|3,_|4,_|5,_|6,_|7,_|8,_|9,_|10,_|11,_|12,_|13,_=>rfl
   have:=pow256_pos (w7 j)
   rw[h0];omega
 · unfold frmN at h
   simp only[Bool.and_eq_true,decide_eq_true_eq] at h
   obtain ⟨h1,h2,h3,h4,h5⟩:=h
   have hm:most (L.getD 0 0)<=35328:=by unfold most;split <;> omega
   by_cases e0:j=0
   · subst e0;rw[show w7 0=1 from rfl,Int.pow_succ,Int.pow_zero];omega
   by_cases e1:j=1
   · subst e1;rw[show w7 1=1 from rfl,Int.pow_succ,Int.pow_zero];omega
   by_cases e2:j=2
   · subst e2;rw[show w7 2=4 from rfl,show (256:Int) ^ 4=4294967296 from rfl];omega
   obtain ⟨k,rfl⟩:∃ k,j=3+k:=⟨j-3,by omega⟩
   rw[w7_two,show (256:Int) ^ 2=65536 from rfl]
   by_cases ek:k=10
   · subst ek
     have:=inB_iff.1 h5
     show 0<=L.getD 13 0/\L.getD 13 0<65536
     omega
   · have hd:=inB_iff.1 ((locS_iff _).1 h4 k (by simp[hL];omega))
     have e:((L.drop 3).take 10).getD k 0=L.getD (3+k) 0:=by
      simp only[List.getD_eq_getElem?_getD,List.getElem?_take,List.getElem?_drop]
      rw[if_pos (by omega)]
     rw[e] at hd;omega
def rd7 (c:List Int):List Int:=(List.range 14).map fun j=>getV c (p7 j) (w7 j)
theorem rd7_length (c:List Int):(rd7 c).length=14:=by simp[rd7]
theorem rd7_get (c:List Int) (j:Nat) (hj:j<14):(rd7 c).getD j 0=getV c (p7 j) (w7 j):=by
 simp[rd7,List.getD_eq_getElem?_getD,hj]
theorem list14 {L M:List Int} (h:L.length=14) (h':M.length=14) (e:∀ j,j<14->L.getD j 0=M.getD j 0):L=M:=by
 apply List.ext_getElem (by rw[h,h'])
 intro i h1 h2
 have:=e i (by omega)
 simpa [List.getD_eq_getElem?_getD,h1,h2] using this
theorem rd7_enc {L:List Int} (hL:L.length=14) (h:frmI L=true):rd7 (enc7 L)=L:=by
 refine list14 (rd7_length _) hL fun j hj=>?_
 rw[rd7_get _ _ hj,enc7]
 obtain ⟨B,hB⟩:=con7_split L j 14 hj
 obtain ⟨h0,h1⟩:=frm7_num hL h j hj
 rw[hB,List.append_assoc,List.append_assoc,<- con7_length L j]
 exact getV_in _ _ _ _ h0 h1
def rdTo7 (c:List Int) (j:Nat):List Int:=(List.range 14).map fun i=>if i<j then getV c (p7 i) (w7 i) else 0
theorem rdTo7_length (c:List Int) (j:Nat):(rdTo7 c j).length=14:=by simp[rdTo7]
theorem rdTo7_set (c:List Int) (j:Nat):(rdTo7 c j).set j (getV c (p7 j) (w7 j))=rdTo7 c (j+1):=by
 apply List.ext_getElem (by rw[List.length_set,rdTo7_length,rdTo7_length])
 intro i h1 h2
 simp only[rdTo7,List.getElem_set,List.getElem_map,List.getElem_range]
 by_cases e:j=i
 · subst e;rw[if_pos rfl,if_pos (by omega)]
 · rw[if_neg e]
   by_cases h:i<j
   · rw[if_pos h,if_pos (by omega)]
   · rw[if_neg h,if_neg (by omega)]
theorem rdTo7_full (c:List Int):rdTo7 c 14=rd7 c:=by
 unfold rdTo7 rd7
 apply List.map_congr_left
 intro i hi
 rw[if_pos (List.mem_range.1 hi)]
theorem rdTo7_zero (c:List Int):rdTo7 c 0=zeroI:=by
 unfold rdTo7
 rw[List.map_congr_left (g:=fun _=>(0:Int)) (fun i _=>if_neg (Nat.not_lt_zero _))]
 rfl
theorem getV7 {c:List Int} (hb:Byt c) (j:Nat):0<=getV c (p7 j) (w7 j)/\getV c (p7 j) (w7 j)<4294967296:=by
 have h:=getV_bound (byt_mem hb) (p7 j) (w7 j)
 have:=pow256_le (w7_le j).2
 have e:(256:Int) ^ 4=4294967296:=rfl
 omega
def allF (O:List (List Int)):Bool:=decide (O.length=8) && O.all frmI
def Len14 (O:List (List Int)):Prop:=∀ x∈O,x.length=14
theorem len14_get {O:List (List Int)} (h:Len14 O) (k:Nat) (hk:k<O.length):(O.getD k []).length=14:=by
 have:O.getD k []=O[k]:=by simp[List.getD_eq_getElem?_getD,hk]
 rw[this];exact h _ (List.getElem_mem hk)
theorem all_iff (O:List (List Int)):O.all frmI=true ↔ ∀ j,j<O.length->frmI (O.getD j [])=true:=by
 rw[List.all_eq_true]
 constructor
 · intro h j hj
   have:O.getD j []=O[j]:=by simp[List.getD_eq_getElem?_getD,hj]
   rw[this];exact h _ (List.getElem_mem hj)
 · intro h x hx
   obtain ⟨j,hj,rfl⟩:=List.getElem_of_mem hx
   have:=h j hj
   simpa [List.getD_eq_getElem?_getD,hj] using this
theorem allF_yes {O:List (List Int)} (h8:O.length=8) (h:∀ j,j<8->frmI (O.getD j [])=true):allF O=true:=by
 unfold allF
 rw[decide_eq_true h8,Bool.true_and,all_iff,h8];exact h
theorem allF_no {O:List (List Int)}{k:Nat} (h8:O.length=8) (hk:k<8) (h:frmI (O.getD k [])=false):allF O=false:=by
 cases ha:allF O
 · rfl
 · unfold allF at ha
   rw[Bool.and_eq_true] at ha
   have:=(all_iff O).1 ha.2 k (by omega)
   rw[h] at this;cases this
theorem allF_len {O:List (List Int)} (h:allF O=true):O.length=8/\∀ j,j<8->frmI (O.getD j [])=true:=by
 unfold allF at h
 rw[Bool.and_eq_true] at h
 have h8:=of_decide_eq_true h.1
 refine ⟨h8,fun j hj=>(all_iff O).1 h.2 j (by omega)⟩
def encK7 (O:List (List Int)):Nat->List Int
 |0=>[]
 |k+1=>encK7 O k ++ enc7 (O.getD k [])
theorem encK7_length (O:List (List Int)):∀ k,(encK7 O k).length=32*k
 |0=>rfl
 |k+1=>by rw[encK7,List.length_append,encK7_length O k,enc7_length];omega
def encT (O:List (List Int)):List Int:=encK7 O 8
def chunk (l:List Int) (k:Nat):List Int:=(l.drop (32*k)).take 32
theorem chunk_length {l:List Int} (h:l.length=256) (k:Nat) (hk:k<8):(chunk l k).length=32:=by simp[chunk];omega
theorem encK7_split (O:List (List Int)) (i:Nat):∀ j,i<j->∃ B,encK7 O j=encK7 O i ++ (enc7 (O.getD i []) ++ B):=by
 intro j
 induction j with
 |zero=>intro h;omega
 |succ j ih=>
  intro h
  by_cases e:i=j
  · subst e;exact ⟨[],by rw[encK7];simp⟩
  · obtain ⟨B,hB⟩:=ih (by omega)
    exact ⟨B ++ enc7 (O.getD j []),by rw[encK7,hB];simp⟩
theorem chunk_enc (O:List (List Int)) (k:Nat) (hk:k<8):chunk (encT O) k=enc7 (O.getD k []):=by
 obtain ⟨B,hB⟩:=encK7_split O k 8 hk
 unfold chunk encT
 rw[hB,<- encK7_length O k,List.drop_left,<- enc7_length (O.getD k []),List.take_left]
def rdJ (l:List Int) (k:Nat):List Int:=rd7 (chunk l k)
def rdT (l:List Int) (n:Nat):List (List Int):=(List.range n).map (rdJ l)
theorem rdT_length (l:List Int) (n:Nat):(rdT l n).length=n:=by simp[rdT]
theorem rdT_14 (l:List Int) (n:Nat):Len14 (rdT l n):=fun x hx=>by
 obtain ⟨j,_,rfl⟩:=List.mem_map.1 hx
 exact rd7_length _
def rdTill7 (l:List Int) (n k:Nat):List (List Int):=(List.range n).map fun j=>if j<k then rdJ l j else zeroI
theorem rdTill7_length (l:List Int) (n k:Nat):(rdTill7 l n k).length=n:=by simp[rdTill7]
theorem rdTill7_set (l:List Int) (n k:Nat):(rdTill7 l n k).set k (rdJ l k)=rdTill7 l n (k+1):=by
 apply List.ext_getElem (by rw[List.length_set,rdTill7_length,rdTill7_length])
 intro i h1 h2
 simp only[rdTill7,List.getElem_set,List.getElem_map,List.getElem_range]
 by_cases e:k=i
 · subst e;rw[if_pos rfl,if_pos (by omega)]
 · rw[if_neg e]
   by_cases h:i<k
   · rw[if_pos h,if_pos (by omega)]
   · rw[if_neg h,if_neg (by omega)]
theorem rdTill7_zero (l:List Int) (n:Nat):rdTill7 l n 0=List.replicate n zeroI:=by
 rw[List.eq_replicate_iff]
 refine ⟨rdTill7_length l n 0,fun x hx=>?_⟩
 obtain ⟨i,_,rfl⟩:=List.mem_map.1 hx
 rw[if_neg (by omega)]
theorem rdTill7_full (l:List Int) (n:Nat):rdTill7 l n n=rdT l n:=by
 unfold rdTill7 rdT
 apply List.map_congr_left
 intro i hi
 rw[if_pos (List.mem_range.1 hi)]
theorem rdTill7_14 (l:List Int) (n k:Nat):Len14 (rdTill7 l n k):=fun x hx=>by
 obtain ⟨j,_,rfl⟩:=List.mem_map.1 hx
 split
 · exact rd7_length _
 · rfl
def hasT (l:List Int):Prop:=l.length=256/\allF (rdT l 8)=true/\encT (rdT l 8)=l
theorem rdT_enc {O:List (List Int)} (hO:Len14 O) (h:allF O=true):rdT (encT O) 8=O:=by
 obtain ⟨h8,hf⟩:=allF_len h
 apply List.ext_getElem (by rw[rdT_length,h8])
 intro i h1 h2
 have hi:i<8:=by omega
 have e:O.getD i []=O[i]:=by simp[List.getD_eq_getElem?_getD,h2]
 simp only[rdT,List.getElem_map,List.getElem_range,rdJ]
 rw[chunk_enc O i hi,rd7_enc (len14_get hO i h2) (hf i hi),e]
theorem has_enc7 {O:List (List Int)} (hO:Len14 O) (h:allF O=true):hasT (encT O):=by
 have e:=rdT_enc hO h
 exact ⟨by rw[encT,encK7_length],by rw[e];exact h,by rw[e]⟩
end Go.Proofs.YtedabomlfcghoaaGreat
namespace Go.Proofs.YtedabomlfcghoaaGreat
set_option maxRecDepth 100000
open Go.RowKit BM
def inT (N:List (List Int)) (t:Nat):List (List Int):=(N.drop (8*t)).take 8
theorem inT_length {N:List (List Int)}{t:Nat} (h:N.length=48) (ht:t<6):(inT N t).length=8:=by
 unfold inT;rw[List.length_take,List.length_drop];omega
theorem inT_getD (N:List (List Int)) (t:Nat) {j:Nat} (hj:j<8):(inT N t).getD j []=N.getD (8*t+j) []:=by
 unfold inT
 rw[List.getD_eq_getElem?_getD,List.getElem?_take,if_pos hj,List.getElem?_drop,List.getD_eq_getElem?_getD]
theorem inT_set (N:List (List Int)) {n t:Nat} (x:List Int) (ht:n / 8≠t):inT (N.set n x) t=inT N t:=by
 apply List.ext_getElem?
 intro i
 unfold inT
 rw[List.getElem?_take,List.getElem?_take]
 split
 · rw[List.getElem?_drop,List.getElem?_drop,List.getElem?_set_ne (by omega)]
 · rfl
theorem inT_set_self (N:List (List Int)) (n:Nat) (x:List Int):inT (N.set n x) (n / 8)=(inT N (n / 8)).set (n%8) x:=by
 apply List.ext_getElem?
 intro i
 unfold inT
 rw[List.getElem?_take]
 by_cases hi:i<8
 · rw[if_pos hi,List.getElem?_drop]
   by_cases he:n%8=i
   · have e1:8*(n / 8)+i=n:=by omega
     rw[e1]
     by_cases hn:n<N.length
     · rw[List.getElem?_set_self hn,he,List.getElem?_set_self (by rw[List.length_take,List.length_drop];omega)]
     · rw[List.getElem?_eq_none (by rw[List.length_set];omega),List.getElem?_eq_none (by rw[List.length_set,List.length_take,List.length_drop];omega)]
   · rw[List.getElem?_set_ne (by omega),List.getElem?_set_ne he,List.getElem?_take,if_pos hi,List.getElem?_drop]
 · rw[if_neg hi,List.getElem?_eq_none]
   rw[List.length_set,List.length_take];omega
structure NOk (N:List (List Int)):Prop where
 len:N.length=48
 l14:Len14 N
 frm:∀ j,j<48->frmI (N.getD j [])=true
theorem NOk.get {N:List (List Int)} (h:NOk N) {j:Nat} (hj:j<48):(N.getD j []).length=14:=len14_get h.l14 j (by rw[h.len];exact hj)
theorem NOk.set {N:List (List Int)} (h:NOk N) (n:Nat) {x:List Int} (hx:x.length=14) (hf:frmI x=true):NOk (N.set n x):=by
 have hl:=h.len
 refine ⟨by rw[List.length_set];exact hl,fun y hy=>?_,fun j hj=>?_⟩
 · rcases List.mem_or_eq_of_mem_set hy with h1|h1
   · exact h.l14 y h1
   · rw[h1];exact hx
 · by_cases e:j=n
   · subst e;rw[List.getD_eq_getElem?_getD,List.getElem?_set_self (by omega)];exact hf
   · rw[List.getD_eq_getElem?_getD,List.getElem?_set_ne (Ne.symm e),<- List.getD_eq_getElem?_getD];exact h.frm j hj
theorem inT_14 {N:List (List Int)} (h:Len14 N) (t:Nat):Len14 (inT N t):=fun x hx=>h x (List.mem_of_mem_drop (List.mem_of_mem_take hx))
theorem NOk.all {N:List (List Int)} (h:NOk N) {t:Nat} (ht:t<6):Len14 (inT N t)/\allF (inT N t)=true:=
 ⟨inT_14 h.l14 t,allF_yes (inT_length h.len ht) fun j hj=>by rw[inT_getD N t hj];exact h.frm _ (by omega)⟩
def tabAt (S:List Int) (t:Nat):Nat:=(num S (6+t)).toNat
structure Tab (G:List (List Int)) (S:List Int) (N:List (List Int)):Prop where
 s12:S.length=12
 sf:frmS S=true
 n:NOk N
 g0:G.getD 0 []=encS S
 g63:G.getD 63 []=encS S
 tb:∀ t,t<6->G.getD (tabAt S t) []=encT (inT N t)
 le:num S 0<=G.length
theorem getD_other {α:Type} (G:List α) {i m:Nat} (x d:α) (h:m≠i):(G.set i x).getD m d=G.getD m d:=by
 rw[List.getD_eq_getElem?_getD,List.getElem?_set_ne (Ne.symm h),<- List.getD_eq_getElem?_getD]
theorem tabAt_in {S:List Int} (hf:frmS S=true) {t:Nat} (ht:t<6):num S (6+t)=(tabAt S t:Int)/\(tabAt S t:Int)<num S 0/\num S 0<=768/\fixB (tabAt S t:Int)=false/\OutJ (tabAt S t)/\tabAt S t≠0/\tabAt S t≠63:=by
 obtain ⟨h1,_,h3⟩:=frm_bound hf
 obtain ⟨k,k1,k12,hk⟩:=frm_yes h1
 obtain ⟨⟨a1,a2⟩,a3,_⟩:=frm_tab h3 t ht
 have e:num S (6+t)=(tabAt S t:Int):=by unfold tabAt;omega
 rw[e] at a1 a2 a3
 have hx:=of_decide_eq_false a3
 refine ⟨e,by omega,by omega,a3,?_,by omega,by omega⟩
 unfold OutJ;omega
theorem tabAt_ne {S:List Int} (hf:frmS S=true) {t s:Nat} (ht:t<6) (hs:s<6) (h:t≠s):tabAt S t≠tabAt S s:=by
 have h3:=(frm_bound hf).2.2
 have a:=(tabAt_in hf ht).1
 have b:=(tabAt_in hf hs).1
 intro e
 rw[e] at a
 rcases Nat.lt_or_gt_of_ne h with hl|hl
 · exact (frm_tab h3 s hs).2.2 t hl (by rw[a,b])
 · exact (frm_tab h3 t ht).2.2 s hl (by rw[a,b])
section
variable {G:List (List Int)}{S:List Int}{N:List (List Int)}
theorem Tab.at (h:Tab G S N) {t:Nat} (ht:t<6):tabAt S t<G.length:=by
 have:=tabAt_in h.sf ht
 have:=h.le
 omega
theorem Tab.same (h:Tab G S N) {G':List (List Int)} (hl:G'.length=G.length) (he:∀ i,i=0\/i=63\/(∃ t,t<6/\i=tabAt S t)->G'.getD i []=G.getD i []):Tab G' S N:=
 ⟨h.s12,h.sf,h.n,by rw[he 0 (.inl rfl)];exact h.g0,by rw[he 63 (.inr (.inl rfl))];exact h.g63,fun t ht=>by rw[he _ (.inr (.inr ⟨t,ht,rfl⟩))];exact h.tb t ht,by rw[hl];exact h.le⟩
theorem Tab.putI (h:Tab G S N) {n:Nat} (hn:n<48) {x:List Int} (hx:x.length=14) (hf:frmI x=true):Tab (G.set (tabAt S (n / 8)) (encT (inT (N.set n x) (n / 8)))) S (N.set n x):=by
 have ht:n / 8<6:=by omega
 have hin:=tabAt_in h.sf ht
 have hl:=h.at ht
 refine ⟨h.s12,h.sf,h.n.set n hx hf,?_,?_,fun t ht2=>?_,by rw[List.length_set];exact h.le⟩
 · rw[getD_other _ _ _ (Ne.symm hin.2.2.2.2.2.1)];exact h.g0
 · rw[getD_other _ _ _ (Ne.symm hin.2.2.2.2.2.2)];exact h.g63
 · by_cases e:t=n / 8
   · subst e;rw[List.getD_eq_getElem?_getD,List.getElem?_set_self hl];rfl
   · rw[getD_other _ _ _ (tabAt_ne h.sf ht2 ht e),inT_set N x (Ne.symm e)];exact h.tb t ht2
theorem dscN_fix {g:Nat} (hg:g<12):fixB (dscN g:Int)=true/\fixB ((dscN g+1:Nat):Int)=true/\dscN g≠0/\dscN g+1≠63/\dscN g≠63:=by
 unfold dscN fixB
 split <;> refine ⟨decide_eq_true (by omega),decide_eq_true (by omega),by omega,by omega,by omega⟩
theorem Tab.putG (h:Tab G S N) {g:Nat} (hg:g<12) (D:List (Int × Int)):Tab (putG G g D) S N:=by
 have hx:=dscN_fix hg
 refine h.same (by unfold Go.Proofs.YtedabomlfcghoaaGreat.putG;rw[List.length_set,List.length_set]) fun i hi=>?_
 have h12:i≠dscN g/\i≠dscN g+1:=by
  rcases hi with rfl|rfl| ⟨t,ht,rfl⟩
  · omega
  · omega
  · have hin:=(tabAt_in h.sf ht).2.2.2.1
    constructor
    · intro e;rw[e,hx.1] at hin;cases hin
    · intro e;rw[e,hx.2.1] at hin;cases hin
 unfold Go.Proofs.YtedabomlfcghoaaGreat.putG
 rw[getD_other _ _ _ h12.1,getD_other _ _ _ h12.2]
end
theorem Has.other {G:List (List Int)}{O:List (Int × Int)}{k:Nat} (h:Has G O k) (hk:k<=12) {i:Nat} (hi:i=0\/i=63\/fixB (i:Int)=false) (x:List Int):Has (G.set i x) O k:=by
 have hne:∀ g,g<k->dscN g≠i/\dscN g+1≠i:=fun g hg=>by
  have hx:=dscN_fix (show g<12 by omega)
  rcases hi with rfl|rfl|hi
  · omega
  · omega
  · constructor
    · intro e;rw[<- e,hx.1] at hi;cases hi
    · intro e;rw[<- e,hx.2.1] at hi;cases hi
 exact ⟨by rw[List.length_set];exact h.len,fun g hg=>by rw[getD_other _ _ _ (hne g hg).1];exact h.ds g hg,fun g hg=>by rw[getD_other _ _ _ (hne g hg).2];exact h.ow g hg⟩
theorem encS_len {S:List Int}:(encS S).length=256:=by rw[encS];exact sealS_length _ (by rw[con_le];decide)
theorem encT_len (O:List (List Int)):(encT O).length=256:=encK7_length O 8
def newS (kk:Nat):List Int:=[64*(kk:Int),0,0,0,0,0,43,44,45,46,47,48]
def rootI:List Int:=[2,1,0,0,0,0,0,0,0,0,0,0,0,0]
def newN:List (List Int):=(List.replicate 48 zeroI).set 1 rootI
theorem newN_ok:NOk newN:=by
 refine ⟨rfl,?_,?_⟩
 · intro x hx
   rcases List.mem_or_eq_of_mem_set hx with h|h
   · rw[List.eq_of_mem_replicate h];rfl
   · rw[h];rfl
 · decide
theorem newS_frm {kk:Nat} (h1:1<=kk) (h2:kk<=12):frmS (newS kk)=true:=by
 unfold frmS
 have e0:num (newS kk) 0=64*(kk:Int):=rfl
 rw[e0,frm_mk kk h1 h2,Bool.and_eq_true,Bool.and_eq_true]
 have hn:∀ k:Nat,k<6->num (newS kk) (6+k)=43+(k:Int):=fun k hk=>by
  have hi2:k=0\/k=1\/k=2\/k=3\/k=4\/k=5:=by omega
  rcases hi2 with rfl|rfl|rfl|rfl|rfl|rfl <;> rfl
 refine ⟨rfl,rfl,(frmTo_iff _ 6).2 fun i hi=>?_⟩
 unfold okTS
 rw[e0,hn i hi]
 refine ⟨by omega,?_,fun k hk=>by rw[hn k (by omega)];omega⟩
 unfold fixB;exact decide_eq_false (by omega)
def T3 (G:List (List Int)) (c:Nat):Prop:=∀ t,t<c->G.getD (43+t) []=encT (inT newN t)
theorem T3.zero (G:List (List Int)):T3 G 0:=fun t h=>absurd h (Nat.not_lt_zero _)
theorem T3.put {G:List (List Int)}{k:Nat} (h:T3 G k) (hl:43+k<G.length) {x:List Int} (hx:x=encT (inT newN k)):T3 (G.set (43+k) x) (k+1):=fun t ht=>by
 by_cases e:t=k
 · subst e;rw[List.getD_eq_getElem?_getD,List.getElem?_set_self hl,hx];rfl
 · rw[getD_other _ _ _ (by omega)];exact h t (by omega)
theorem T3.other {G:List (List Int)}{k:Nat} (h:T3 G k) {i:Nat} (hi:i<43\/49<=i) (hk:k<=6) (x:List Int):T3 (G.set i x) k:=fun t ht=>by
 rw[getD_other _ _ _ (by omega)];exact h t ht
theorem newT_other {k:Nat} (h:k<6) (h0:k≠0):List.replicate 8 zeroI=inT newN k:=by
 have hi2:k=1\/k=2\/k=3\/k=4\/k=5:=by omega
 rcases hi2 with rfl|rfl|rfl|rfl|rfl <;> rfl
theorem newT_frm:allF ((List.replicate 8 zeroI).set 1 rootI)=true/\allF (List.replicate 8 zeroI)=true:=by decide
structure New3 (G:List (List Int)) (kk:Nat):Prop where
 t:T3 G 6
 g0:G.getD 0 []=encS (newS kk)
 g63:G.getD 63 []=encS (newS kk)
theorem New3.tab {G:List (List Int)}{kk:Nat} (h:New3 G kk) (h1:1<=kk) (h2:kk<=12) (hl:G.length=64*kk):Tab G (newS kk) newN:=
 ⟨rfl,newS_frm h1 h2,newN_ok,h.g0,h.g63,fun t ht=>by
   have hi2:t=0\/t=1\/t=2\/t=3\/t=4\/t=5:=by omega
   have:=h.t t ht
   rcases hi2 with rfl|rfl|rfl|rfl|rfl|rfl <;> exact this,by rw[hl];show 64*(kk:Int)<=_;omega⟩
theorem T3.sup {G:List (List Int)} (h:T3 G 6) (kk:Nat) (hl:63<G.length) {x:List Int} (hx:x=encS (newS kk)):New3 ((G.set 0 x).set 63 x) kk:=by
 refine ⟨(h.other (.inl (by decide)) (by decide) x).other (.inr (by decide)) (by decide) x,?_,?_⟩
 · rw[getD_other _ _ _ (by decide),List.getD_eq_getElem?_getD,List.getElem?_set_self (by omega),hx];rfl
 · rw[List.getD_eq_getElem?_getD,List.getElem?_set_self (by rw[List.length_set];exact hl),hx];rfl
theorem spPoss_any (n:Int) (w:World):Calls Tryz.prog 206 #[.int .i64 n] w fun e w'=>e=.returned (.bool (decide (0<=n/\n<768)))/\w=w':=by
 by_cases h0:0<=n
 · by_cases h1:n<768
   · rw[decide_eq_true ⟨h0,h1⟩]
     go_enter Tryz.func206,Tryz.ntmps206
     go_wp2
     go_ret
     exact ⟨rfl,rfl⟩
   · rw[decide_eq_false (fun h=>h1 h.2)]
     go_enter Tryz.func206,Tryz.ntmps206
     go_wp2
     go_ret
     exact ⟨rfl,rfl⟩
 · rw[decide_eq_false (fun h=>h0 h.1)]
   go_enter Tryz.func206,Tryz.ntmps206
   go_wp2
   go_ret
   exact ⟨rfl,rfl⟩
theorem spPoss_is (n:Int) (B:Bool) (h:decide (0<=n/\n<768)=B) (w:World):Calls Tryz.prog 206 #[.int .i64 n] w fun e w'=>e=.returned (.bool B)/\w=w':=by
 rw[<- h];exact spPoss_any n w
def openN (n:Int):Bool:=decide (0<=n/\n<768) && !fixB n
theorem spOpen_any (n:Int) (hm:n<=9223372036854775807) (w:World):Calls Tryz.prog 191 #[.int .i64 n] w fun e w'=>e=.returned (.bool (openN n))/\w=w':=by
 cases hp:decide (0<=n/\n<768)
 · have e1:openN n=false:=by rw[openN,hp];rfl
   rw[e1]
   have KP:=Lib.hid (spPoss_is n false hp)
   clear hp e1
   go_enter Tryz.func191,Tryz.ntmps191
   go_wp2_with (go_at_call 206;refine (KP.out _).mono ?_;rintro e w' ⟨rfl,rfl⟩)
   go_ret
   exact ⟨rfl,rfl⟩
 · obtain ⟨F,hF⟩:∃ F,F=fixB n:=⟨_,rfl⟩
   have e1:openN n=!F:=by rw[openN,hp,hF];rfl
   rw[e1]
   have KP:=Lib.hid (spPoss_is n true hp)
   have KF:=Lib.hid (gFixed_is n hm F hF.symm)
   clear hp e1 hF
   cases F
   all_goals
    go_enter Tryz.func191,Tryz.ntmps191
    go_wp2_with (first
     |(go_at_call 206;refine (KP.out _).mono ?_;rintro e w' ⟨rfl,rfl⟩)
     |(go_at_call 146;refine (KF.out _).mono ?_;rintro e w' ⟨rfl,rfl⟩))
    go_ret
    exact ⟨rfl,rfl⟩
theorem spOpen_is (n:Int) (hm:n<=9223372036854775807) (B:Bool) (h:openN n=B) (w:World):Calls Tryz.prog 191 #[.int .i64 n] w fun e w'=>e=.returned (.bool B)/\w=w':=by
 rw[<- h];exact spOpen_any n hm w
def freeP (i a:Int):Bool:=(i==0) && (a==0)
theorem spFree_any (i a:Int) (w:World):Calls Tryz.prog 57 #[.agg #[.int .u16 i,.int .u16 a]] w fun e w'=>e=.returned (.bool (freeP i a))/\Below w.heap.size w w':=by
 have hob:=below_box w (.cells #[.int .u16 i,.int .u16 a] 109)
 cases h1:(i==0)
 all_goals cases h2:(a==0)
 all_goals
  rw[freeP,h1,h2]
  go_enter Tryz.func57,Tryz.ntmps57
  go_wp2
  go_ret
  exact ⟨by simp,hob⟩
theorem spFree_is (i a:Int) (B:Bool) (h:freeP i a=B) (w:World):Calls Tryz.prog 57 #[.agg #[.int .u16 i,.int .u16 a]] w fun e w'=>e=.returned (.bool B)/\Below w.heap.size w w':=by
 rw[<- h];exact spFree_any i a w
theorem spDesc_is {w:World}{v:Value}{O:List (Int × Int)} (hs:OwSl w v O) (g:Int) (hg1:0<=g) (hg2:g<12) (ha:allO O=true):
 Calls Tryz.prog 98 #[.int .i64 g,v] w fun e w'=>∃ v,e=.returned (.tuple #[v,.int .i64 0])/\OB w' w.heap.size v (descS g (usedK O 64))/\Below w.heap.size w w':=by
 have HA:=Lib.hid (grOf_good hs g hg1 hg2 ha)
 have HE:=Lib.hid (fun (W:World) (p r:Nat) (h:BRow W p r (usedK O 64))=>grEnc_yes h g hg1 hg2 (usedK_length O 64))
 obtain ⟨ao,cap,rfl⟩:=hs.shape
 clear hs ha
 go_enter Tryz.func98,Tryz.ntmps98
 go_wp2_with (first
  |(go_at_call 147;refine HA.out.mono ?_;rintro e w1 ⟨p,r,rfl,hrow,hb1⟩;have hrow2:=hrow.low (below_box w1 (.cells #[.int .i64 g,.pointer (some ⟨p,0,none⟩)] 212));have hb2:=below_box w1 (.cells #[.int .i64 g,.pointer (some ⟨p,0,none⟩)] 212))
  |(go_at_call 148;refine (HE.out _ p r hrow2).mono ?_;rintro e w3 ⟨v,rfl,hob,hb3⟩))
 go_ret2
 exact ⟨v,rfl,hob.more (by simp;have:=hb1.size;omega),(hb1.trans (hb2.mono hb1.size)).trans (hb3.mono (by simp;have:=hb1.size;omega))⟩
end Go.Proofs.YtedabomlfcghoaaGreat
namespace Go.Proofs.YtedabomlfcghoaaGreat
set_option maxRecDepth 100000
open Go.RowKit Go.ChangeMaps
def addS (S:List Int) (n:Int):List Int:=if n∈S then S else S ++ [n]
theorem iKeyed:Maps.Keyed Tryz.prog 3:=Maps.int_keyed Tryz.underlying3
theorem i64wf {n:Int} (h: -9223372036854775808<=n/\n<=9223372036854775807):(Lit.int .i64 n).wf=true:=by
 simp only[Lit.wf,Bool.and_eq_true,decide_eq_true_eq]
 exact h
theorem ikey {n:Int} (h:(Lit.int .i64 n).wf=true):keyOf Tryz.prog 3 (.int .i64 n)=some (.int .i64 n):=Maps.keyOf_int_mk Tryz.underlying3 h
section
variable {w:World}{b:Nat}{S:List Int}
end
end Go.Proofs.YtedabomlfcghoaaGreat
namespace Go.Proofs.YtedabomlfcghoaaGreat
set_option maxRecDepth 100000
open Go.RowKit
structure RSt where
 is:List (List Int)
 call:List (List Int)
 put:List Int
 sts:List (List (List Int))
 wi:Bool
theorem ownsRow_keep {w w':World}{B n size:Nat}{T:TypeId}{v:Value}{us:List Value} (h:w.ownsRow B T size v n us) (hk:∀ g,v.ownBlock=some g->w'.heap[g]? =w.heap[g]?):w'.ownsRow B T size v n us:=by
 refine ⟨h.1,h.2.imp id ?_⟩
 rintro ⟨g,cap,cur,rfl,hB,hh,r⟩
 exact ⟨g,cap,cur,rfl,hB,by rw[hk g rfl];exact hh,r⟩
section
variable {w:World}{P M:Nat->Prop}{b m:Nat}{vI vC vP vS:Value}{s:RSt}
end
structure XSt where
 base:List (List Int)
 is:List (List Int)
 call:List (List Int)
 put:List Int
 wi:Bool
 dt:Nat
 ds:DS
structure XOk (X:XSt):Prop where
 lst:Lst X.is.length X.ds X.base
 pow:X.ds.dn=false
 un:X.ds.U.length<=1000
 call:X.wi=true->X.call.length=X.is.length
 dt:X.dt<=37
def DeadOk (n:Nat) (ds:DS) (l:List (List (List Int))):Prop:=ds.U.length<=1000/\ds.F.length=n/\∀ kp,∃ G∈l,Jst n (ds.crash kp).F G
def xBegin (X:XSt):Int × XSt:=if X.wi=true then (17,X) else (0,{ X with call:=X.is,put:=[],wi:=true })
def xPut (X:XSt) (n:Int) (l:List Int):Int × XSt:=
 if X.wi=false then (17,X) else if n<0\/(X.is.length:Int)<=n\/l.length≠256 then (1,X) else if n ∉ X.put/\37<=X.put.length then (13,X) else (0,{ X with call:=X.call.set n.toNat l,put:=addS X.put n })
def XOut (Inv:World->(Nat->Prop)->Value->Value->XSt->Prop) (w:World) (P:Nat->Prop) (d p:Value) (r:Int × XSt) (e:Ending) (w':World):Prop:=
 e=.returned (.int .i64 r.1)/\∃ P',Inv w' P' d p r.2/\Chg P P' w w'
def XDead (Dead:World->(Nat->Prop)->Value->Value->DS->Prop) (w:World) (P:Nat->Prop) (d p:Value) (X:XSt) (l:List (List (List Int))) (e:Ending) (w':World):Prop:=
 X.ds.fu=true/\e=.returned (.int .i64 2)/\∃ P' ds',Dead w' P' d p ds'/\Chg P P' w w'/\DeadOk X.is.length ds' l
structure Sto (Inv:World->(Nat->Prop)->Value->Value->XSt->Prop) (Dead:World->(Nat->Prop)->Value->Value->DS->Prop):Prop where
 plain:∀ {w P d p X},Inv w P d p X->XOk X
 ptr:∀ {w P d p X},Inv w P d p X->∃ b,p=.pointer (some ⟨b,0,none⟩)
 lt:∀ {w P d p X},Inv w P d p X->∀ k,P k->k<w.heap.size
 keep:∀ {w w' P d p X},Inv w P d p X->w.heap.size<=w'.heap.size->(∀ k,P k->w'.heap[k]? =w.heap[k]?)->Inv w' P d p X
 disk:∀ {w P d p X},Inv w P d p X->∃ Pd,(∀ k,Pd k->P k)/\Dk w Pd d X.ds
 deadLt:∀ {w P d p ds},Dead w P d p ds->∀ k,P k->k<w.heap.size
 deadKeep:∀ {w w' P d p ds},Dead w P d p ds->w.heap.size<=w'.heap.size->(∀ k,P k->w'.heap[k]? =w.heap[k]?)->Dead w' P d p ds
 deadDisk:∀ {w P d p ds},Dead w P d p ds->∃ Pd,(∀ k,Pd k->P k)/\Dk w Pd d ds
 begin:∀ {w P d p X},Inv w P d p X->Calls Tryz.prog 18 #[p] w (XOut Inv w P d p (xBegin X))
 put:∀ {w P d p X n v l},Inv w P d p X->BSl w v l-> -9223372036854775808<=n/\n<=9223372036854775807->OutJ n.toNat->Calls Tryz.prog 67 #[p,.int .i64 n,v] w (XOut Inv w P d p (xPut X n l))
 getOut:∀ {w P d p X n},Inv w P d p X-> -9223372036854775808<=n/\n<=9223372036854775807->n<0\/(X.is.length:Int)<=n->Calls Tryz.prog 61 #[p,.int .i64 n] w fun e w'=>e=.returned (.tuple #[.slice none 0 0,.int .i64 1])/\∃ P',Inv w' P' d p X/\Chg P P' w w'
 getIn:∀ {w P d p X} {n:Nat},Inv w P d p X->n<X.is.length->Calls Tryz.prog 61 #[p,.int .i64 n] w fun e w'=>∃ v l,e=.returned (.tuple #[v,.int .i64 0])/\BSl w' v l/\(OutJ n->l=(if X.wi=true then X.call else X.is).getD n [])/\∃ P',Inv w' P' d p X/\Chg P P' w w'
 endNo:∀ {w P d p X k},Inv w P d p X->X.wi=false->Calls Tryz.prog 21 #[p,.bool k] w (XOut Inv w P d p (17,X))
 endUndo:∀ {w P d p X},Inv w P d p X->X.wi=true->Calls Tryz.prog 21 #[p,.bool false] w (XOut Inv w P d p (0,{ X with wi:=false }))
 endKeep:∀ {w P d p X},Inv w P d p X->X.wi=true->Calls Tryz.prog 21 #[p,.bool true] w fun e w'=>
  (∃ B dt ds',(B=X.base\/B=X.is\/B=X.call)/\ds'.fu=X.ds.fu/\XOut Inv w P d p (0,{ X with base:=B,is:=X.call,wi:=false,dt:=dt,ds:=ds' }) e w')\/XDead Dead w P d p X [X.base,X.is,X.call] e w'
 opens:∀ {w P d ds n G},Dk w P d ds->64<=n->n<=768->ds.U=[]->ds.dn=false->Jst n ds.F G->Calls Tryz.prog 46 #[d] w fun e w'=>
  (∃ p ds' P',e=.returned (.tuple #[p,.int .i64 0])/\ds'.fu=ds.fu/\Inv w' P' d p ⟨G,G,[],[],false,0,ds'⟩/\Chg P P' w w')\/
    (ds.fu=true/\e=.returned (.tuple #[.pointer none,.int .i64 2])/\∃ ds' P',Dk w' P' d ds'/\Chg P P' w w'/\DeadOk n ds' [G])
end Go.Proofs.YtedabomlfcghoaaGreat
namespace Go.Proofs.YtedabomlfcghoaaGreat
set_option maxRecDepth 100000
open Go.RowKit Go.Maps
def hdr (v:Value):Option (DataW Unit × List MemPlace):=
 match v with
 |.slice none 0 0=>some (.nil,[])
 |.slice (some ⟨b,off,none⟩) n c=>some (.agg [.lit (.int .u64 b),.lit (.int .u64 off),.lit (.int .u64 n),.lit (.int .u64 c)],[])
 |_=>none
theorem hdr_nil:hdr (.slice none 0 0)=some (.nil,[]):=rfl
theorem hdr_some (b off n c:Nat):hdr (.slice (some ⟨b,off,none⟩) n c)=some (.agg [.lit (.int .u64 b),.lit (.int .u64 off),.lit (.int .u64 n),.lit (.int .u64 c)],[]):=rfl
theorem hdr_cases {v:Value}{y:DataW Unit × List MemPlace} (h:hdr v=some y):(v=.slice none 0 0/\y=(.nil,[]))\/∃ b off n c,v=.slice (some ⟨b,off,none⟩) n c/\y=(.agg [.lit (.int .u64 b),.lit (.int .u64 off),.lit (.int .u64 n),.lit (.int .u64 c)],[]):=by
 unfold hdr at h
 split at h
 · exact .inl ⟨rfl,(Option.some.inj h).symm⟩
 · exact .inr ⟨_,_,_,_,rfl,(Option.some.inj h).symm⟩
 · cases h
theorem hdr_inj {v v':Value}{d:DataW Unit}{ps ps':List MemPlace} (h:hdr v=some (d,ps)) (h':hdr v'=some (d,ps')):v=v':=by
 rcases hdr_cases h with ⟨rfl,e⟩| ⟨b,off,n,c,rfl,e⟩ <;> rcases hdr_cases h' with ⟨rfl,e'⟩| ⟨b',off',n',c',rfl,e'⟩
 · rfl
 · have e1:=(Prod.mk.inj e).1.symm.trans (Prod.mk.inj e').1;cases e1
 · have e1:=(Prod.mk.inj e).1.symm.trans (Prod.mk.inj e').1;cases e1
 · have e1:=(Prod.mk.inj e).1.symm.trans (Prod.mk.inj e').1
   simp only[DataW.agg.injEq,List.cons.injEq,DataW.lit.injEq,Lit.int.injEq,true_and,and_true,Int.natCast_inj] at e1
   obtain ⟨rfl,rfl,rfl,rfl⟩:=e1
   rfl
def Mp (w:World) (b:Nat) (N:List Int) (g:Int->Value):Prop:=
 ∃ D:DataW Unit,w.ownsMap Tryz.prog 3 hdr b N.length D/\N.Nodup/\(∀ x∈N,(Lit.int .i64 x).wf=true)/\(∀ x,Maps.has D (.int .i64 x)=decide (x∈N))/\∀ x∈N,∃ d,hdr (g x)=some (d,[])/\∀ z,D.atKey (.int .i64 x) z=d
theorem infoBys:(Tryz.prog.info? 30).map (fun i=>(i.zero,i.size,i.bytes))=some (some (.slice none 0 0),1,24):=by kernel_rfl
theorem zeroBys (w:World):(zeroValue 30).run Tryz.prog w=.ok (.slice none 0 0) w:=by
 obtain ⟨t,h2,h3,_⟩:=info_parts infoBys
 simp[zeroValue,typeInfo,h2,h3,Result.andThen]
theorem owns_tight {w:World}{b n:Nat}{D:DataW Unit} (h:w.ownsMap Tryz.prog 3 hdr b n D):w.ownsMap Tryz.prog 3 hdr b (Maps.size D) D:=by
 obtain ⟨es,clock,hb,F,hs,rfl⟩:=h
 exact ⟨es,clock,hb,F,Nat.le_of_eq (by unfold Maps.size;exact (length_read es).symm),rfl⟩
theorem owns_size {w:World}{b n:Nat}{D:DataW Unit} (h:w.ownsMap Tryz.prog 3 hdr b n D) {N:List Int} (hN:N.Nodup) (hh:∀ x,Maps.has D (.int .i64 x)=decide (x∈N)):N.Perm (intKeys D)/\Maps.size D=N.length:=by
 obtain ⟨es,rfl,hp,_⟩:=h.entries iKeyed
 have hk:∀ p∈es,∃ x,p.1=.int .i64 x:=fun p hp'=>by
  obtain ⟨es',e1,_,k⟩:=h.canonK iKeyed
  cases e1
  obtain ⟨v,hv⟩:=k p hp'
  obtain ⟨x,_,e,_⟩:=Maps.keyOf_i64 Tryz.underlying3 hv
  exact ⟨x,e⟩
 have hperm:=perm_intKeys hp hk hN (fun x=>by rw[hh x,decide_eq_true_eq])
 refine ⟨hperm,?_⟩
 have:=hperm.length_eq
 rw[this]
 show es.length=(es.map fun p=>_root_.Go.intOf p.1).length
 rw[List.length_map]
theorem owns_mp {w:World}{b n:Nat}{D:DataW Unit} (h:w.ownsMap Tryz.prog 3 hdr b n D) {N:List Int}{g:Int->Value} (hN:N.Nodup) (hw:∀ x∈N,(Lit.int .i64 x).wf=true) (hh:∀ x,Maps.has D (.int .i64 x)=decide (x∈N)) (hg:∀ x∈N,∃ d,hdr (g x)=some (d,[])/\∀ z,D.atKey (.int .i64 x) z=d):Mp w b N g:=by
 obtain ⟨_,e⟩:=owns_size h hN hh
 have h':=owns_tight h
 rw[e] at h'
 exact ⟨D,h',hN,hw,hh,hg⟩
section
variable {w:World}{b:Nat}{N:List Int}{g:Int->Value}
theorem Mp.lt (h:Mp w b N g):b<w.heap.size:=by
 obtain ⟨D,h,_⟩:=h
 exact h.lt
theorem Mp.keep {w':World} (h:Mp w b N g) (hk:w'.heap[b]? =w.heap[b]?):Mp w' b N g:=by
 obtain ⟨D,⟨es,clock,hb,r⟩,r'⟩:=h
 exact ⟨D,⟨es,clock,hk.trans hb,r⟩,r'⟩
theorem Mp.not_cells (h:Mp w b N g) {k:Nat}{cs:Array Value}{T:TypeId}{z:Nat × Nat} (hk:w.heap[k]? =some (.cells cs T z)):b≠k:=fun e=>by
 obtain ⟨D,⟨es,clock,hb,_⟩,_⟩:=h
 rw[e,hk] at hb;cases hb
theorem Mp.nodup (h:Mp w b N g):N.Nodup:=by obtain ⟨_,_,h,_⟩:=h;exact h
theorem Mp.wf (h:Mp w b N g):∀ x∈N,(Lit.int .i64 x).wf=true:=by obtain ⟨_,_,_,h,_⟩:=h;exact h
theorem Mp.made (w:World) (g:Int->Value):Mp (w.alloc (.map #[] 0)) w.heap.size [] g:=
 ⟨.map [],World.ownsMap_made w _ _ _,List.nodup_nil,fun x hx=>absurd hx List.not_mem_nil,fun x=>rfl,fun x hx=>absurd hx List.not_mem_nil⟩
theorem Mp.len (h:Mp w b N g) (ty:TypeId):(Builtin.len_ #[90] ty #[.map (some b)]).run Tryz.prog w=.ok (.int .i64 N.length) w:=by
 obtain ⟨D,h1,h2,h3,h4,h5⟩:=h
 rw[h1.len Tryz.underlying90 ty,(owns_size h1 h2 h4).2]
theorem Mp.look_ok (h:Mp w b N g) {x:Int} (hx:(Lit.int .i64 x).wf=true):(Instr.lookup 90 (.map (some b)) (.int .i64 x) true).run Tryz.prog w=.ok (.tuple #[if x∈N then g x else .slice none 0 0,.bool (decide (x∈N))]) w:=by
 obtain ⟨D,⟨es,clock,hb,F,hs,rfl⟩,h2,h3,h4,h5⟩:=h
 rcases Maps.fit_look true iKeyed Tryz.underlying90 (zeroBys w) hb F (ikey hx) with ⟨hrun,hno,hat⟩| ⟨e0,y,he0,hk,hrun,hRv,hat,_⟩
 · have hn:x ∉ N:=fun hin=>by
    obtain ⟨d,hd,ha⟩:=h5 x hin
    have e1:=(hat .nil).symm.trans (ha .nil)
    have e2:=(hat (.lit (.bool true))).symm.trans (ha (.lit (.bool true)))
    rw[<- e1] at e2;cases e2
   rw[if_neg hn,decide_eq_false hn]
   exact hrun
 · have hn:x∈N:=by
    have:=h4 x
    rw[Maps.has_true_of_atKey hat] at this
    exact of_decide_eq_true this.symm
   rw[if_pos hn,decide_eq_true hn]
   obtain ⟨d,hd,ha⟩:=h5 x hn
   have e1:y.1=d:=(hat .nil).symm.trans (ha .nil)
   have:e0.val=g x:=hdr_inj (ps:=y.2) (by rw[hRv,<- e1]) hd
   rw[<- this]
   exact hrun
theorem Mp.look (h:Mp w b N g) {x:Int} (hx:x∈N):(Instr.lookup 90 (.map (some b)) (.int .i64 x) false).run Tryz.prog w=.ok (g x) w:=by
 have hw:=h.wf x hx
 obtain ⟨D,h1,h2,h3,h4,h5⟩:=h
 obtain ⟨v,ps,hrun,hv⟩:=h1.lookup iKeyed Tryz.underlying90 (zeroBys w) hdr_nil (ikey hw)
 obtain ⟨d,hd,ha⟩:=h5 x hx
 rw[ha] at hv
 rw[hdr_inj hd hv]
 exact hrun
theorem Mp.store (h:Mp w b N g) {x:Int} (hx:(Lit.int .i64 x).wf=true) {v:Value}{d:DataW Unit} (hv:hdr v=some (d,[])) (hN:N.length<1000000):
 ∃ w',(Instr.mapUpdate 90 (.map (some b)) (.int .i64 x) v).run Tryz.prog w=.ok () w'/\Mp w' b (addS N x) (fun y=>if y=x then v else g y)/\w.grownBy w' (some b)/\w'.heap.size=w.heap.size:=by
 obtain ⟨D,h1,h2,h3,h4,h5⟩:=h
 have hlt:N.length<maxLen:=by simp only[maxLen];omega
 have hm:=h1.isMap
 have hkl:WideAt.IsKeyLit (.int .i64 x):=iKeyed.key (ikey hx)
 obtain ⟨w',hrun,h6,hg,ht⟩:∃ w',(Instr.mapUpdate 90 (.map (some b)) (.int .i64 x) v).run Tryz.prog w=.ok () w'/\w'.ownsMap Tryz.prog 3 hdr b (N.length+1) (D.put (.int .i64 x) d)/\w.grownBy w' (some b)/\w'.heap.size=w.heap.size:=by
  obtain ⟨w',hrun,h6,h7⟩:=h1.store iKeyed Tryz.underlying90 hlt (ikey hx) hv
  exact ⟨w',hrun,h6,h7.grown,by obtain ⟨_,_,_,_,_,rfl⟩:=h7;simp[ChangeMaps.setBlock]⟩
 refine ⟨w',hrun,owns_mp h6 ?_ ?_ ?_ ?_,hg,ht⟩
 · unfold addS
   split
   · exact h2
   · rename_i hn
     exact List.nodup_append.2 ⟨h2,by simp,fun a ha c hc e=>hn (by simp at hc;rw[<- hc,<- e];exact ha)⟩
 · intro y hy
   unfold addS at hy
   split at hy
   · exact h3 y hy
   · rcases List.mem_append.1 hy with hy|hy
     · exact h3 y hy
     · simp at hy;subst hy;exact hx
 · intro y
   have hmem:y∈addS N x ↔ y∈N\/y=x:=by
    unfold addS
    split
    · exact ⟨.inl,fun h=>h.elim id fun e=>by rw[e];assumption⟩
    · simp
   by_cases e:y=x
   · subst e
     rw[Maps.has_put_same hm hkl,decide_eq_true (hmem.2 (.inr rfl))]
   · rw[Maps.has_put_other (fun e'=>e (by cases e';rfl)),h4 y]
     exact decide_eq_decide.2 ⟨fun h=>hmem.2 (.inl h),fun h=>(hmem.1 h).resolve_right e⟩
 · intro y hy
   by_cases e:y=x
   · subst e
     exact ⟨d,by rw[if_pos rfl];exact hv,fun z=>Maps.atKey_put_same hm hkl d z⟩
   · have hy':y∈N:=by
      unfold addS at hy
      split at hy
      · exact hy
      · exact (List.mem_append.1 hy).resolve_right fun h=>e (by simpa using h)
     obtain ⟨d',hd',ha'⟩:=h5 y hy'
     exact ⟨d',by rw[if_neg e];exact hd',fun z=>by rw[Maps.atKey_put_other (fun e'=>e (by cases e';rfl))];exact ha' z⟩
end
end Go.Proofs.YtedabomlfcghoaaGreat
