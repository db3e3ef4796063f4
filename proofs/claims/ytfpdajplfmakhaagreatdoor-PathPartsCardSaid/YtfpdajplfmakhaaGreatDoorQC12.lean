/- What the law rests on. -/
import Derived.DeepKeys4
import Derived.Test.YtfpdajplfmakhaaGreatDoorQC11
open Go.Value renaming int->Y,slice->C,pointer->Al,tuple->AH,bool->AP,agg->BN
open Go.IntKind renaming i64->J
open Go.Proofs.Tryz renaming prog->U
open Option renaming none->H,some->Z
open Go renaming World->I,Value->Ao,Calls->Av,Oper->BE,strOfNums->BX,TypeId->Cg
open Go.Ending renaming returned->Aj
open Go.Obj renaming cells->G
open Go.RowKit renaming Below->Ap
open Bool renaming false->Ay,true->AE
open Or renaming inl->AU,inr->AW
open List renaming length_cons->Bm
namespace Go.Proofs.YtfpdajplfmakhaaGreatDoor
set_option maxHeartbeats 12000000
set_option linter.unusedVariables false
set_option maxRecDepth 100000
open Go.RowKit BM
attribute [local go_sem] BE.semAt_some
theorem Qz{w:I}{ops:Array BE}{o:BE}{a:Act}{K:Act->I->Prop}{Q:Exit->Act->I->Prop}{E:Prop}(Du:o.guard=H)(s y:Operand)(ho:o.op=.call { callee:=.builtin .append,args:=#[s,y],argTypes:=#[23,23] })
 (B:Nat) (v:Ao) (O:List ByteArray) (hs:a.eval s=v) (hown:TR w B v O) (x:ByteArray) (q:Nat) (hq:w.heap[q]? =Z (G #[.string x] 9 (0,0))) (hy:a.eval y=C (Z ⟨q,0,H⟩) 1 1) (hlen:O.length<=100000) (hB:B<=w.heap.size)
 (h:∀ v' w',TR w' B v' (O ++ [x])->Ap B w w'->KeepsOthers w w'->K (a.put o.dst v') w'):
 if Region.wanted o (yielded ops a.tmps)=AE then BE.wp U o a w K Q else E:=by
 rw[Au (by simp[Region.wanted,Du])];obtain⟨t,h2,h3,h4,h5⟩:=Bf Iz;obtain⟨v',w',CX,h6,h7,_,h8⟩:=run_append_own_at (P:=U) w B 23 o.type 9 t _ 1 16 Tryz.underlying23 h2 h3 h4 h5 rfl (by decide) v O.length _ hown ⟨q,0,H⟩ 1 1 [.string x] rfl (fun j u hj=>by
  have hj0:j=0:=by have:=(Bb.1 hj).1;simp at this;omega
  subst hj0;rw[BY,Br,Aq _ _ _ _ _ _ hq,<- hj];rfl) (fun u hu=>by
  simp at hu;subst hu;rfl) (by simp only[maxLen];omega) (by omega) hB
 unfold BE.wp execOp;simp only[ho,resolve,invoke,builtin,Dg,Sem.run_pure,Result.andThen_ok,Fc,DO,IJ,hs,hy,CX];refine h v' w' ?_ ((AC _ _).grown h7 hB fun k hk=>(BO hown k hk).1) (KeepsOthers.of_grownBy h7 fun j o e ho=>?_)
 rotate_left
 . rcases hown.2 with⟨hv,_⟩| ⟨g,cap,cur,hv,hg,hh,_⟩
   . rw[hv] at e;cases e
   . rw[hv] at e
     have e2:g=j:=A0 e;rw[<- e2,hh] at ho;cases ho
     rfl
 show w'.ownsRow B 9 1 v' (O ++ [x]).length ((O ++ [x]).map .string)
 rw[AD,Cp];exact h6
theorem rf(w:I)(c1 c2 c3 c4 c5 c6:Array Ao)(t1 t2 t3 t4 t5 t6:Cg){W:I}(hW:W=(((((w.alloc (G c1 t1)).alloc (G c2 t2)).alloc (G c3 t3)).alloc (G c4 t4)).alloc (G c5 t5)).alloc (G c6 t6)):
 W.heap[w.heap.size]? =Z (G c1 t1 (0,0))/\W.heap[w.heap.size+1]? =Z (G c2 t2 (0,0))/\W.heap[w.heap.size+1+1]? =Z (G c3 t3 (0,0))/\W.heap[w.heap.size+1+1+1]? =Z (G c4 t4 (0,0))/\W.heap[w.heap.size+1+1+1+1]? =Z (G c5 t5 (0,0))/\W.heap[w.heap.size+1+1+1+1+1]? =Z (G c6 t6 (0,0))/\W.heap.size=w.heap.size+1+1+1+1+1+1/\Ap w.heap.size w W:=by
 obtain⟨V,hV⟩:=nm (((((w.alloc (G c1 t1)).alloc (G c2 t2)).alloc (G c3 t3)).alloc (G c4 t4)).alloc (G c5 t5));obtain⟨g1,g2,g3,g4,g5,gs,gb⟩:=jU w _ _ _ _ _ _ _ _ _ _ hV;rw[<- hV] at hW;have hb:=As V (G c6 t6);have hn:=Ar V (G c6 t6);have hz:(V.alloc (G c6 t6)).heap.size=V.heap.size+1:=World.size_alloc _ _;rw[<- hW] at hb hn hz;rw[gs] at hn;exact⟨(hb.block _ (by omega)).trans g1,(hb.block _ (by omega)).trans g2,(hb.block _ (by omega)).trans g3,(hb.block _ (by omega)).trans g4,(hb.block _ (by omega)).trans g5,hn,by omega,gb.trans (hb.mono (by omega))⟩
theorem QA:∀ l c:List UInt8,(Hq l c).length<=l.length+1
 |[],c=>At _
 |b :: r,c=>by
  unfold Hq;split
  . rw[Bm,Bm];have:=QA r [];omega
  . have:=QA r (c ++ [b]);rw[Bm];omega
theorem kz(s:ByteArray):(JC s).length<=s.size+1:=by
 unfold JC;rw[Ba];have:=QA s.data.toList [];rw[GJ] at this;exact this
theorem SpI.more{w0 W:I}{q ws:Nat}{pre:List ByteArray}{x:ByteArray}(h:SpI w0 q ws pre W)(hg:Ve x)(h0:x.size=0):SpI w0 q ws (pre ++ [x]) W:=by
 obtain⟨⟨v,a,b⟩,c,d,e,f,g⟩:=h;refine⟨⟨v,a,by rw[rq h0];exact b⟩,c,d,e,f,fun p hp=>?_⟩;rcases BI.1 hp with hp|hp
 . exact g p hp
 . rw[BA.1 hp];exact hg
theorem Vw(s:ByteArray)(h2:s.size<=200)(w:I):Av U 17 #[.string s] w (Zw s w):=by
 have g2:(s.size:Int)<=200:=by omega
 obtain⟨q,hq⟩:=nm w.heap.size;have HQ:=wM hq;refine(Di (n:=9)).1 ?_;refine callsIn_of_wp_marks Tryz.func17 rfl trivial ?_ rfl;simp only[Tryz.ntmps17,List.size_toArray,Bm,List.length_nil,Nat.reduceAdd,Nat.reduceSub,Array.replicate_succ,Array.replicate_zero,List.push_toArray,List.append_toArray,List.nil_append,List.cons_append]
 gi_wp2_with (refine⟨trivial,?_⟩;gi_at_call 40;refine(Di.2 (TJ s _)).mono ?_;rintro e w2 ⟨rfl,hw2⟩)
 rw[<- hw2];obtain⟨g1,g2',g3,g4,g5,g6,gs,gb⟩:=rf w _ _ _ _ _ _ _ _ _ _ _ _ hw2;rw[<- hq] at g1 g2' g3 g4 g5 g6 gs |-
 have HGS:=wM gs;have HGB:=wM gb;have H2:=wM h2;have ml:SpI w q w2.heap.size [] w2:=⟨⟨_,g3,Zz _ _⟩,g1,g2',gb,At _,fun p hp=>(by cases hp)⟩;have hH:=Vd (n:=8) (by decide) (sB:=q+1+1+1) (eB:=q+1+1+1+1) (vB:=q+1+1+1+1+1) (s:=s) (by omega) (w:=w2) (by omega) (by omega) g4 g5 g6;clear hw2 g1 g2' g3 g4 g5 g6 hq
 refine m8 (by decide) (gf:=125) (lb:=#[Al (Z ⟨q+1+1+1+1,0,H⟩),Al (Z ⟨q+1+1+1,0,H⟩),Al (Z ⟨q+1+1+1+1+1,0,H⟩)]) rfl (enters_of Tryz.func125 (by kernel_rfl) rfl) hH
  (fun V V' k ⟨r,e⟩ hk=>by rw[e];exact AN V ⟨q+1+1+1,0,H⟩ k _ (by show k≠q+1+1+1;omega)) (fun h k=>⟨k.1.trans h.1,k.2.1.trans h.2.1,k.2.2.trans h.2.2⟩)
  (fun W l' o hl'=>⟨World.putObj_heap_other (by omega),World.putObj_heap_other (by omega),World.putObj_heap_other (by omega)⟩) (fun _=>rfl)
  (SpI w q w2.heap.size) (SpX w s q) (nl gb.size (by omega)) (n9 gb.size (by omega)) (fun xs V V' hc hi=>hi.cell HQ.out (by omega) hc) ml
  (fun x=>{ tmps:=#[.string s,undef,Al (Z ⟨q,0,H⟩),Al (Z ⟨q+1,0,H⟩),Al (Z ⟨q+1+1,0,H⟩),.string x,.string s,Y J (s.size:Int),AP (decide ((200:Int)<(s.size:Int))),.string s,.func (.func 125) #[] #[Al (Z ⟨q+1+1+1+1,0,H⟩),Al (Z ⟨q+1+1+1,0,H⟩),Al (Z ⟨q+1+1+1+1+1,0,H⟩)],.string x,undef,undef,undef,undef,undef,undef,undef,undef,undef,undef,undef,undef,undef,undef,undef,undef,undef,undef,undef],defers:=[] }) ?assign ?body ?done ?stop
 case assign=>
  intro l' x W K hK;clear gs
  gi_wp2
  exact hK
 case body=>
  rintro l' pre x W hI hpre;have hx:x∈JC s:=hpre.subset (Cs _ (BA.2 rfl));have KZ:=fun W=>Uc x 0 W
  have hz:=T5 x.data.toList 0;have HI:=wM hI;have k1:=BV hI.r1;have k2:=BV hI.r2;have f1:=CV hI.r1;have f2:=CV hI.r2;have HX:=wM hx;have HLEN:Hid ((dz pre).length<=100000):=wM (by
   have h1:=hpre.length_le;have h3:=kz s;have h4:(dz pre).length<=pre.length:=List.length_filter_le _ _;rw[AD,List.length_singleton] at h1;have:=H2.out;omega)
  clear hI hpre hx gs;obtain⟨z,pc⟩:=nm (Lib.indexByte x.data.toList 0);have KZ2:∀ W,Av U 41 #[.string x,Y .u8 0] W fun e w'=>e=Aj (Y J z)/\W=w':=fun W=>by rw[pc];exact KZ W
  rw[<- pc] at hz;have HZ:Hid (0<=z ↔ ∃ b∈x.data.toList,b=0):=wM (by
   constructor
   . intro h0
     have:decide (z<0)=Ay:=AB (by omega);rw[hz] at this;obtain⟨b,hb,hb2⟩:=List.all_eq_false.1 this;exact⟨b,hb,by simpa using hb2⟩
   . rintro⟨b,hb,rfl⟩
     have:x.data.toList.all (fun b=>!(b==0))=Ay:=List.all_eq_false.2 ⟨0,hb,by simp⟩;rw[this] at hz;have:=BB hz;omega)
  clear hz pc KZ;by_cases WS:13<x.size
  . have g13:(13:Int)<(x.size:Int):=by omega
    have HN:Hid (¬ OkP s):=wM (US HX.out fun h=>by have:=h.1;omega);clear KZ2 WS
    gi_wp2
    refine⟨trivial,?_⟩
    gi_wp2
    exact HI.out.leave HN.out HQ.out
  . have g13:¬ (13:Int)<(x.size:Int):=by omega
    by_cases vx:0<=z
    . have HN:Hid (¬ OkP s):=wM (US HX.out fun h=>by
       obtain⟨b,hb,e⟩:=HZ.out.1 vx;exact h.2 b hb e)
      clear WS
      gi_wp2_with (refine⟨trivial,?_⟩;gi_at_call 41;refine(CallsIn.inRound _ (Di.2 (KZ2 _))).mono ?_;rintro e w3 ⟨rfl,rfl⟩)
      exact HI.out.leave HN.out HQ.out
    . have HG:Hid (Ve x):=wM ⟨by omega,fun b hb e=>vx (HZ.out.2 ⟨b,hb,e⟩)⟩
      by_cases h0:x.size=0
      . have hx0:x=⟨#[]⟩:=ByteArray.ext (Array.eq_empty_of_size_eq_zero h0)
        subst hx0;clear WS
        gi_wp2_with (refine⟨trivial,?_⟩;gi_at_call 41;refine(CallsIn.inRound _ (Di.2 (KZ2 _))).mono ?_;rintro e w3 ⟨rfl,rfl⟩)
        exact⟨KeepsOthers.refl _,⟨rfl,rfl,rfl⟩,HI.out.more HG.out rfl⟩
      . have hne:(x.toList==[])=Ay:=by
         rw[Ce,B0];intro e;exact h0 (by rw[<- GJ,e];rfl)
        clear WS
        gi_wp2_with (refine⟨trivial,?_⟩;gi_at_call 41;refine(CallsIn.inRound _ (Di.2 (KZ2 _))).mono ?_;rintro e w3 ⟨rfl,rfl⟩)
        obtain⟨v,hv0,hv1⟩:=HI.out.row;have HV1:=wM hv1;have c0:W.drew.cell? ⟨q+1+1,0,H⟩=Z v:=BV hv0;have HV0:Hid (W.drew.heap[q+1+1]? =Z (G #[v] 23 (0,0))):=wM hv0;have KC:=fun V=>cw x (by have:=HG.out.1;omega) V
        clear hv0 hv1;refine mQ (by kernel_rfl) rfl (by rintro⟨_,_,h⟩;exact h) ?_;refine JN (S:=fun V=>V.cell? ⟨q+1+1,0,H⟩=Z v) (m:=5) _ _ _ _ ?_;refine NB (i:=1) (v:=.string x) rfl rfl (by kernel_rfl) (by kernel_rfl) (by kernel_rfl) (by kernel_rfl) (by kernel_rfl) (fun _ _ _ h=>h) (AU ⟨by rfl,?_⟩) c0 ?_
        . intro V hS
          go_simp
        try simp only[Act.put,AV,List.set_cons_zero,List.set_cons_succ,List.getElem_toArray,List.getElem_cons_zero,List.getElem_cons_succ]
        refine NB (i:=0) (v:=v) rfl rfl (by kernel_rfl) (by kernel_rfl) (by kernel_rfl) (by kernel_rfl) (by kernel_rfl) (fun _ _ _ h=>h) (AU ⟨by rfl,?_⟩) c0 ?_
        . intro V hS
          go_simp
        try simp only[Act.put,AV,List.set_cons_zero,List.set_cons_succ,List.getElem_toArray,List.getElem_cons_zero]
        refine EI (rs:=[2]) (by kernel_rfl) (by simp) (TillReady.cons rfl (fun K hK=>?_) TillReady.nil)
        go_simp
        go_at_call 42
        refine(KC _).mono ?_;rintro e w4 ⟨rfl,hb4⟩;have hb4:Ap W.heap.size W w4:=(AM (AC _ W) 1).trans hb4;have c4:w4.cell? ⟨q+1+1,0,H⟩=Z v:=(hb4.cell (p:=⟨q+1+1,0,H⟩) (Ah.1 HV0.out).1).trans c0;refine hK.out _ _ (fun _=>c4) ?_;clear hK K
        try simp only[Act.put,AV,List.set_cons_zero,List.set_cons_succ,List.getElem_toArray,List.getElem_cons_zero,List.getElem_cons_succ]
        refine EI (rs:=[3]) (by kernel_rfl) (by simp) (TillReady.cons rfl (fun K hK=>?_) TillReady.nil)
        go_simp
        have gW:=Ar w4 (G #[.string x] 9);have hb5:Ap W.heap.size W (w4.alloc (G #[.string x] 9)):=hb4.alloc hb4.size _;have c5:(w4.alloc (G #[.string x] 9)).cell? ⟨q+1+1,0,H⟩=Z v:=(hb5.cell (p:=⟨q+1+1,0,H⟩) (Ah.1 HV0.out).1).trans c0;refine hK.out _ _ (fun _=>c5) ?_;clear hK K
        try simp only[Act.put,AV,List.set_cons_zero,List.set_cons_succ,List.getElem_toArray,List.getElem_cons_zero,List.getElem_cons_succ]
        refine EI (rs:=[4]) (by kernel_rfl) (by simp) (TillReady.cons rfl (fun K hK=>?_) TillReady.nil);refine Qz rfl _ _ rfl w2.heap.size v (dz pre) rfl (HV1.out.below hb5) x w4.heap.size gW rfl HLEN.out (AI HI.out.sz hb5.size) ?_;intro v6 w6 hr6 hb6 qA;have c6:w6.heap[q+1+1]? =Z (G #[v] 23 (0,0)):=(hb6.block _ (by have:=HGS.out;omega)).trans ((hb5.block _ (Ah.1 HV0.out).1).trans HV0.out);refine hK.out _ _ (fun _=>BV c6) ?_;clear hK K
        try simp only[Act.put,AV,List.set_cons_zero,List.set_cons_succ,List.getElem_toArray,List.getElem_cons_zero,List.getElem_cons_succ]
        refine EI (rs:=[5]) (by kernel_rfl) (by simp) (TillReady.cons rfl (fun K hK=>?_) TillReady.nil);have d6:=BV c6;have f6:=CV c6;have HR6:=wM hr6;have HC6:=wM c6;have HK6:=wM qA;have HB6:=wM hb6;have HB5:=wM hb5;obtain⟨ao6,cap6,rfl,_⟩:=hr6.sl;clear hr6 hb6 hb5 hb4 c4 c5 gW c6 qA KC KZ2
        go_simp
        refine hK.out _ _ (fun h=>by simp at h) ?_;clear hK K
        try simp only[Act.put,AV,List.set_cons_zero,List.set_cons_succ,List.getElem_toArray,List.getElem_cons_zero,List.getElem_cons_succ]
        refine RK (by kernel_rfl) ?_ _;have tB:=HI.out.sz;have gF:=HGS.out;have ho:∀ (u:Ao) k,k≠q+1+1->k<w2.heap.size->(w6.setCell ⟨q+1+1,0,H⟩ u).heap[k]? =W.heap[k]? :=fun u k h1 h2=>(AN w6 ⟨q+1+1,0,H⟩ k u h1).trans ((HB6.out.block k h2).trans (HB5.out.block k (by omega)))
        refine⟨((J6 HB5.out).trans HK6.out).trans (KeepsOthers.setCell _ _ _),⟨ho _ _ (by omega) (by omega),ho _ _ (by omega) (by omega),ho _ _ (by omega) (by omega)⟩,⟨_,DN HC6.out,?_⟩,(ho _ _ (by omega) (by omega)).trans HI.out.r1,(ho _ _ (by omega) (by omega)).trans HI.out.r2,?_,?_,fun p hp=>?_⟩
        . have e6:(dz pre).length+1=(dz pre ++ [x]).length:=by rw[AD,List.length_singleton]
          rw[oK h0,e6];exact HR6.out.same fun k hk _=>AN w6 ⟨q+1+1,0,H⟩ k _ (by show k≠q+1+1;omega)
        . have hw:w.heap.size<=W.heap.size:=HI.out.be.size
          exact(HI.out.be.trans ((HB5.out.mono hw).trans (HB6.out.mono (by have:=HQ.out;omega)))).setCell (p:=⟨q+1+1,0,H⟩) (by show w.heap.size<=q+1+1;have:=HQ.out;omega) _
        . rw[I.size_setCell]
          exact AI tB (AI HB5.out.size HB6.out.size)
        . rcases BI.1 hp with hp|hp
          . exact HI.out.ok p hp
          . rw[BA.1 hp];exact HG.out
 case done=>
  rintro D W hD hI hK;obtain⟨v,hv0,hv1⟩:=hI.row;rw[show dz (JC s)=BL s from(Lg s).symm] at hv1;have HOK:=wM (lx hI.ok H2.out);have c0:=BV hv0;have c1:=BV hI.r1;have c2:=BV hI.r2;have f1:=CV hI.r1;have f2:=CV hI.r2;obtain⟨ao,cap,rfl,_⟩:=hv1.sl;have HV1:=wM hv1;have HI:=wM hI;have HK:=wM hK;have HD:=wM hD;obtain⟨m,hm⟩:=nm ((BL s).length);rw[<- hm] at c0 HV1 HOK;clear gs hv0 hv1 hI hK hD hm
  have fin:∀ (v y:Ao),let V:=(W.setCell ⟨q,0,H⟩ v).setCell ⟨q+1,0,H⟩ y
   V.heap[D]? =Z (.deferred (Z []))/\(V.putObj D (.deferred H)).heap[q]? =Z (G #[v] 23 (0,0))/\(V.putObj D (.deferred H)).heap[q+1]? =Z (G #[y] 24 (0,0))/\(∀ k,w2.heap.size<=k->k≠D->(V.putObj D (.deferred H)).heap[k]? =W.heap[k]?)/\Ap w.heap.size w (V.putObj D (.deferred H)):=fun v y=>by
   intro V;have gF:=HGS.out;have gS:=HD.out;have h1:(W.setCell ⟨q,0,H⟩ v).heap[q]? =Z (G #[v] 23 (0,0)):=DN HI.out.r1;have h2:(W.setCell ⟨q,0,H⟩ v).heap[q+1]? =Z (G #[Y J 0] 24 (0,0)):=(AN W ⟨q,0,H⟩ (q+1) _ (by show q+1≠q;omega)).trans HI.out.r2;have k1:V.heap[q]? =Z (G #[v] 23 (0,0)):=(AN _ ⟨q+1,0,H⟩ q _ (by show q≠q+1;omega)).trans h1;have k2:V.heap[q+1]? =Z (G #[y] 24 (0,0)):=DN h2;have k3:∀ k,w2.heap.size<=k->V.heap[k]? =W.heap[k]? :=fun k hk=>(AN _ ⟨q+1,0,H⟩ k _ (by show k≠q+1;omega)).trans (AN W ⟨q,0,H⟩ k _ (by show k≠q;omega))
   have kD:=(k3 D gS).trans HK.out;have hb:Ap w.heap.size w V:=(HI.out.be.setCell (p:=⟨q,0,H⟩) (by show w.heap.size<=q;have:=HQ.out;omega) _).setCell (p:=⟨q+1,0,H⟩) (by show w.heap.size<=q+1;have:=HQ.out;omega) _;exact⟨kD,(World.putObj_heap_other (by omega)).trans k1,(World.putObj_heap_other (by omega)).trans k2,fun k hk hne=>(World.putObj_heap_other hne).trans (k3 k hk),hb.trans (belowK_b (w:=w2) (by have:=HQ.out;omega) V D _ _ gS kD rfl rfl)⟩
  have FIN:=wM fin;clear fin;by_cases h20:m<=20
  . have g20:¬ (20:Int)<(m:Int):=by omega
    gi_wp2
    obtain⟨e1,e2,e3,e4,e5⟩:=FIN.out (C ao m cap) (Y J 0);refine⟨by simp,AU ⟨_,_,rfl,run_takeDeferred e1,?_⟩⟩;refine⟨_,Jl rfl _ _ q (q+1) _ _ _ _ rfl rfl e2 e3,AU ⟨HOK.out.2 h20,_,rfl,?_⟩,e5⟩;exact(HV1.out.same fun k hk ⟨cs,hc⟩=>e4 k hk fun e=>by rw[e,HK.out] at hc;cases hc).more HGB.out.size
  . have g20:(20:Int)<(m:Int):=by omega
    gi_wp2
    obtain⟨e1,e2,e3,e4,e5⟩:=FIN.out (C H 0 0) (Y J 10);refine⟨by simp,AU ⟨_,_,rfl,run_takeDeferred e1,?_⟩⟩;exact⟨_,Jl rfl _ _ q (q+1) _ _ _ _ rfl rfl e2 e3,AW ⟨fun h=>h20 (HOK.out.1 h),rfl⟩,e5⟩
 case stop=>
  rintro D pre W hD hX hK;have HX:=wM hX;have HK:=wM hK;clear gs hX
  gi_wp2
  refine⟨by simp,AU ⟨_,_,rfl,run_takeDeferred HK.out,?_⟩⟩;have m1:(W.putObj D (.deferred H)).heap[q]? =Z (G #[C H 0 0] 23 (0,0)):=(World.putObj_heap_other (by have:=HGS.out;omega)).trans HX.out.r1;have m2:(W.putObj D (.deferred H)).heap[q+1]? =Z (G #[Y J 10] 24 (0,0)):=(World.putObj_heap_other (by have:=HGS.out;omega)).trans HX.out.r2;refine⟨_,Jl rfl _ _ q (q+1) _ _ _ _ rfl rfl m1 m2,AW ⟨HX.out.no,rfl⟩,?_⟩;exact HX.out.be.trans (belowK_b (w:=w2) (by have:=HGS.out;have:=HQ.out;omega) W D _ _ hD HK.out rfl rfl)
attribute [local go_sem] BE.semAt_some
theorem Zx(s:ByteArray)(h2:¬ s.size<=200)(w:I):Av U 17 #[.string s] w (Zw s w):=by
 have g2:(200:Int)<(s.size:Int):=by omega
 have HNO:Hid (¬ OkP s):=wM fun h=>h2 h.sz
 have hb1:=As w (G #[C H 0 0] 23);have FV:=Ar w (G #[C H 0 0] 23);have IL:(w.alloc (G #[C H 0 0] 23)).heap.size=w.heap.size+1:=World.size_alloc _ _;obtain⟨w1,hw1⟩:=nm (w.alloc (G #[C H 0 0] 23));rw[<- hw1] at hb1 FV IL;have hb2:=As w1 (G #[Y J 0] 24);have L1:=Ar w1 (G #[Y J 0] 24);obtain⟨w2,hw2⟩:=nm (w1.alloc (G #[Y J 0] 24));rw[<- hw2] at hb2 L1;rw[IL] at L1;have k1:w2.heap[w.heap.size]? =Z (G #[C H 0 0] 23 (0,0)):=(hb2.block _ (by omega)).trans FV;have HB:Hid (Ap w.heap.size w w2):=wM (hb1.trans (hb2.mono (by omega)));have HW:Hid (((w.alloc (G #[C H 0 0] 23)).alloc (G #[Y J 0] 24))=w2):=wM (by rw[<- hw1,<- hw2]);have c2:=BV k1;have c3:=BV L1;have f2:=CV k1;have f3:=CV L1;have HK1:=wM k1;have HK2:=wM L1;clear h2 hw1 hw2 hb1 hb2 FV L1 IL k1;refine(Di (n:=9)).1 ?_;refine callsIn_of_wp_marks Tryz.func17 rfl trivial ?_ rfl;simp only[Tryz.ntmps17,List.size_toArray,Bm,List.length_nil,Nat.reduceAdd,Nat.reduceSub,Array.replicate_succ,Array.replicate_zero,List.push_toArray,List.append_toArray,List.nil_append,List.cons_append];refine wpIn_wide.2 ?_;go_upto_region 1 with(fail)
 rw[HW.out];go_wp2;have m1:((w2.setCell ⟨w.heap.size,0,H⟩ (C H 0 0)).setCell ⟨w.heap.size+1,0,H⟩ (Y J 10)).heap[w.heap.size]? =Z (G #[C H 0 0] 23 (0,0)):=(AN _ ⟨w.heap.size+1,0,H⟩ _ _ (by show w.heap.size≠w.heap.size+1;omega)).trans (DN HK1.out);have m2:((w2.setCell ⟨w.heap.size,0,H⟩ (C H 0 0)).setCell ⟨w.heap.size+1,0,H⟩ (Y J 10)).heap[w.heap.size+1]? =Z (G #[Y J 10] 24 (0,0)):=DN ((AN _ ⟨w.heap.size,0,H⟩ _ _ (by show w.heap.size+1≠w.heap.size;omega)).trans HK2.out);refine⟨_,Jl rfl _ _ w.heap.size (w.heap.size+1) _ _ _ _ rfl rfl m1 m2,AW ⟨HNO.out,rfl⟩,?_⟩;exact(HB.out.setCell (p:=⟨w.heap.size,0,H⟩) (At _) _).setCell (p:=⟨w.heap.size+1,0,H⟩) (by show w.heap.size<=w.heap.size+1;omega) _
theorem RJ(s:ByteArray)(w:I):Av U 17 #[.string s] w (Zw s w):=by
 by_cases h:s.size<=200
 . exact Vw s h w
 . exact Zx s h w
theorem Lm(s:ByteArray)(w:I):Av U 7 #[.string s] w fun e w'=>(s.data.toList.head? =Z 47/\Zw s w e w')\/(s.data.toList.head? ≠Z 47/\e=Aj (AH #[C H 0 0,Y J 9])/\w=w'):=by
 have KP:=wM (fun W=>aK s W);have KS:=wM (RJ s w);by_cases h1:s.data.toList.head? =Z 47
 . have KP2:Hid (∀ W,Av U 16 #[.string s,.string ⟨#[47]⟩] W fun e w'=>e=Aj (AP AE)/\W=w'):=wM fun W=>by
    have:=KP.out W;rw[Az h1] at this;exact this
   have H1:=wM h1;clear KP h1;go_enter Tryz.func7,Tryz.ntmps7
   go_wp2_with (first
    |(go_at_call 16;(with_reducible refine(KP2.out _).mono ?_);rintro e w2 ⟨rfl,rfl⟩)
    |(go_at_call 17;(with_reducible refine KS.out.mono ?_);rintro e w3 ⟨(⟨ho,v,rfl,hv⟩| ⟨ho,rfl⟩),hb⟩))
   . go_ret2
     exact AU ⟨H1.out,AU ⟨ho,v,rfl,hv⟩,hb⟩
   . go_ret2
     exact AU ⟨H1.out,AW ⟨ho,rfl⟩,hb⟩
 . have KP2:Hid (∀ W,Av U 16 #[.string s,.string ⟨#[47]⟩] W fun e w'=>e=Aj (AP Ay)/\W=w'):=wM fun W=>by
    have:=KP.out W;rw[AB h1] at this;exact this
   have H1:=wM h1;clear KP h1 KS;go_enter Tryz.func7,Tryz.ntmps7;go_wp2_with (go_at_call 16;(with_reducible refine(KP2.out _).mono ?_);rintro e w2 ⟨rfl,rfl⟩)
   go_ret2;exact AW ⟨H1.out,rfl,rfl⟩
structure FsW (W1:I) (bf:Nat) (T:EV):Prop where
 get:∀ V,Ap W1.heap.size W1 V->∀ i x,T i=Z x->Av U 13 #[Al (Z ⟨bf,0,H⟩),.int J i] V fun e w'=>∃ x1 x3 x4 x5 x6 x7 x8 x9 x10 x11 x12 x13,e=Aj (AH #[BN #[.int J x.kd,.int J x1,.int J x.sz,.int J x3,.int J x4,.int J x5,.int J x6,.int J x7,.int J x8,.int J x9,.int J x10,.int J x11,.int J x12,.int J x13],.int J 0])/\Ap V.heap.size V w'
 find:∀ V,Ap W1.heap.size W1 V->∀ i x,T i=Z x->x.kd=2->∀ s,Av U 147 #[Al (Z ⟨bf,0,H⟩),.int J i,.string s] V fun e w'=>e=Aj (AH #[.int J (Rm x.L s),.int J (Rp x.L s)])/\Ap V.heap.size V w'
 read:∀ V,Ap W1.heap.size W1 V->∀ i x,T i=Z x->x.kd=3->Av U 96 #[Al (Z ⟨bf,0,H⟩),.int J i,.int J 0,.int J x.sz] V fun e w'=>∃ v,e=Aj (AH #[v,.int J 0])/\BSl w' v x.tg/\Ap V.heap.size V w'
theorem RestT.fsw{w0 w:I}{d p:Ao}{kk bf:Nat}{T:EV}{c:Nat}{P:Nat->Prop}(h:RestT w0 d p kk bf T c P w)(hT:OkT T):FsW w bf T:=by
 refine⟨fun V hV i x hx=>?_,fun V hV i x hx hk s=>?_,fun V hV i x hx hk=>?_⟩
 . obtain⟨X,N,O,F,a,r⟩:=(h.low hV).rd
   obtain⟨⟨M,f1,_⟩,f3⟩:=r.nd i x hx;obtain⟨i1,i48⟩:=hT.hi i x hx;have hl:=a.tab.n.get (j:=i) i48;have hz:=f1.zs;refine(He a.inv a.fs a.tab i1 i48 (AC _ _)).mono ?_;rintro e1 w' ⟨he,hb⟩;obtain⟨kd,ln,sz',d0,d1,d2,d3,d4,d5,d6,d7,d8,d9,mp,hl⟩:=LZ hl;unfold Cy at f3;rw[hl] at he hz f3;have hz2:sz'=(x.sz:Int):=hz;have JG:kd=(x.kd:Int):=f3;rw[hz2,JG] at he;exact⟨_,_,_,_,_,_,_,_,_,_,_,_,he,hb⟩
 . obtain⟨X,N,O,F,a,r⟩:=(h.low hV).rd
   obtain⟨⟨M,f1,f2,_⟩,f3⟩:=r.nd i x hx;obtain⟨i1,i48⟩:=hT.hi i x hx;exact YQ a f1 (by rw[f3,hk];rfl) i1 i48 (f2 hk).f s
 . obtain⟨X,N,O,F,a,r⟩:=(h.low hV).rd
   obtain⟨⟨M,f1,_,f2⟩,f3⟩:=r.nd i x hx;obtain⟨i1,i48⟩:=hT.hi i x hx;obtain⟨l1,l2,_⟩:=hT.link i x hx;have Ed:x.sz=x.tg.length:=(by unfold Nd.sz;rw[Ax (by omega)]);refine(RW a f1 i1 i48 (a:=0) (m:=x.sz) (by omega) (by omega)).mono ?_;rintro e1 w' ⟨v,he,hv,hb⟩;rw[show min x.sz (x.sz-0)=x.tg.length by omega,f2 (by omega),pZ l2] at hv;exact⟨v,he,hv.bsl,hb⟩
def pM(d:Int)(s:ByteArray):Lit:=.string (keyBytes [.int J d,.string s.data.toList])
def Ys(d:Int)(s:ByteArray):Ao:=BN #[.int J d,.string s]
theorem uf:laidOutB U=AE:=by kernel_rfl
theorem tY:(192:Cg)<U.types.size:=AX (by kernel_rfl)
theorem ua:(match U.underlying 192 with |some (.array _ _)|some (.struct _)=>AE|_=>Ay)=AE:=by kernel_rfl
theorem wo:WideMaps.KeyLaw U 192:=deep_law_laid uf (m:=3) (by omega) tY (by kernel_rfl) ua
theorem kdW:Maps.Keyed U 192:=Maps.Keyed.of_law wo
theorem tU:U.keyType 192=AE:=by kernel_rfl
theorem k_:U.cellsOf 192=2:=by kernel_rfl
theorem eJ{d:Int}{s:ByteArray}(hd:(Lit.int J d).wf=AE)(hs:s.size<=1000):keyOf U 192 (Ys d s)=Z (pM d s):=by
 have hf:(Ys d s).formed U 192=AE:=by simp[Ys,Ao.formed,Tryz.underlying192,k_]
 obtain⟨m,hm⟩:∃ m,U.types.size+1=m+1+1:=by
  obtain⟨k,hk⟩:=Nat.exists_eq_add_of_lt tY;exact⟨_,by rw[hk]⟩
 have Ot:s.size<=maxLen:=by simp only[maxLen];omega
 have hk:U.keyLits (U.types.size+1) 192 [.int J d,.string s]=Z [.int J d,.string s.data.toList]:=by
  rw[hm];simp[Program.keyLits,Tryz.underlying192,k_,hd,Ot,show U.cellsOf 3=1 by kernel_rfl,show U.cellsOf 9=1 by kernel_rfl]
 unfold keyOf;rw[Tryz.underlying192];simp only[tU,hf,Bool.and_self,if_true];show((U.keyLits (U.types.size+1) 192 [.int J d,.string s]).map fun ls=>Lit.string (keyBytes ls))=_
 rw[hk];rfl
theorem oR{d d':Int}{s s':ByteArray}(hd:(Lit.int J d).wf=AE)(hd':(Lit.int J d').wf=AE)(hs:s.size<=1000)(hs':s'.size<=1000)(h:pM d s=pM d' s'):d=d'/\s=s':=by
 have:=kdW.inj (eJ hd hs) (by rw[h];exact eJ hd' hs');unfold Ys at this;simp at this;exact this
def MpK(w:I)(b:Nat)(K:Int->ByteArray->Option Int)(n:Nat):Prop:=
 ∃ D:DataW Unit,w.ownsMap U 192 (plainElem U 3) b n D/\∀ d s,(Lit.int J d).wf=AE->s.size<=1000->Maps.has D (pM d s)=(K d s).isSome/\D.atKey (pM d s) (.lit (.int J 0))=.lit (.int J ((K d s).getD 0))
def Jo(K:Int->ByteArray->Option Int)(d:Int)(s:ByteArray)(v:Int):Int->ByteArray->Option Int:=fun d' s'=>if d'=d/\s'=s then Z v else K d' s'
theorem qi(w:I):(zeroValue 3).run U w=.ok (.int J 0) w:=by
 have hi:(U.info? 3).map (fun i=>(i.zero,i.size,i.bytes))=Z (Z (.int J 0),1,8):=by kernel_rfl
 obtain⟨t,h2,h3,_⟩:=Bf hi;simp[zeroValue,typeInfo,h2,h3,Result.andThen]
section
variable {w:I}{b n:Nat}{K:Int->ByteArray->Option Int}
theorem MpK.lt(h:MpK w b K n):b<w.heap.size:=by
 obtain⟨D,h,_⟩:=h;exact h.lt
theorem MpK.keep{w':I}(h:MpK w b K n)(hk:w'.heap[b]? =w.heap[b]?):MpK w' b K n:=by
 obtain⟨D,⟨es,clock,hb,r⟩,r'⟩:=h;exact⟨D,⟨es,clock,hk.trans hb,r⟩,r'⟩
theorem MpK.not_cells(h:MpK w b K n){k:Nat}{cs:Array Ao}{T:Cg}{z:Nat × Nat}(hk:w.heap[k]? =Z (G cs T z)):b≠k:=fun e=>by
 obtain⟨D,⟨es,clock,hb,_⟩,_⟩:=h;rw[e,hk] at hb;cases hb
theorem MpK.made(w:I):MpK (w.alloc (.map #[] 0)) w.heap.size (fun _ _=>H) 0:=
 ⟨.map [],I.ownsMap_made w _ _ _,fun d s _ _=>⟨rfl,rfl⟩⟩
theorem MpK.look(h:MpK w b K n){d:Int}{s:ByteArray}(hd:(Lit.int J d).wf=AE)(hs:s.size<=1000):(Instr.lookup 80 (.map (Z b)) (Ys d s) AE).run U w=.ok (AH #[.int J ((K d s).getD 0),.bool (K d s).isSome]) w:=by
 obtain⟨D,h1,h2⟩:=h;obtain⟨a1,a2⟩:=h2 d s hd hs;obtain⟨v,ps,CX,hv⟩:=h1.look_ok kdW Tryz.underlying80 (qi w) (plainElem_int Tryz.underlying3 (by decide)) (eJ hd hs);obtain⟨c,rfl,hc,hwc⟩:=plainElem_int_inv Tryz.underlying3 hv;simp only[Prod.mk.injEq] at hc;rw[a2] at hc;have e:(K d s).getD 0=c:=by have:=hc.1;cases this;rfl
 rw[CX,a1,e]
theorem MpK.get(h:MpK w b K n){d:Int}{s:ByteArray}(hd:(Lit.int J d).wf=AE)(hs:s.size<=1000):(Instr.lookup 80 (.map (Z b)) (Ys d s) Ay).run U w=.ok (.int J ((K d s).getD 0)) w:=by
 obtain⟨D,h1,h2⟩:=h;obtain⟨a1,a2⟩:=h2 d s hd hs;obtain⟨c,CX,hc,_⟩:=h1.lookup_int kdW Tryz.underlying80 Tryz.underlying3 (qi w) (eJ hd hs);rw[a2] at hc;have e:(K d s).getD 0=c:=by cases hc;rfl
 rw[CX,e]
theorem MpK.store(h:MpK w b K n){d v:Int}{s:ByteArray}(hd:(Lit.int J d).wf=AE)(hs:s.size<=1000)(hv:(Lit.int J v).wf=AE)(hn:n<100000):
 ∃ w',(Instr.mapUpdate 80 (.map (Z b)) (Ys d s) (.int J v)).run U w=.ok () w'/\MpK w' b (Jo K d s v) (n+1)/\w.grownBy w' (Z b)/\w'.heap.size=w.heap.size:=by
 obtain⟨D,h1,h2⟩:=h;have hm:=h1.isMap;have hkl:WideAt.IsKeyLit (pM d s):=kdW.key (eJ hd hs);obtain⟨w',CX,h6,hg⟩:=h1.store kdW Tryz.underlying80 (by simp only[maxLen];omega) (eJ hd hs) (plainElem_int Tryz.underlying3 hv);refine⟨w',CX,⟨_,h6,fun d' s' hd' hs'=>?_⟩,hg.grown,by obtain⟨_,_,_,_,_,rfl⟩:=hg;simp[ChangeMaps.setBlock]⟩;unfold Jo;by_cases e:d'=d/\s'=s
 . obtain⟨rfl,rfl⟩:=e
   rw[Au ⟨rfl,rfl⟩];exact⟨Maps.has_put_same hm hkl _,Maps.atKey_put_same hm hkl _ _⟩
 . rw[Ax e]
   have hne:pM d' s'≠pM d s:=fun h=>e (oR hd' hd hs' hs h)
   rw[Maps.has_put_other hne,Maps.atKey_put_other hne];exact h2 d' s' hd' hs'
end
structure OkU (T:EV) (m:Nat):Prop where
 up:∀ i x,T i=Z x->∀ e∈x.L,(i:Int)<e.1/\2<=e.1
 one:∀ i x j y,T i=Z x->T j=Z y->∀ a b,a<x.L.length->b<y.L.length->(x.L.getD a default).1=(y.L.getD b default).1->i=j/\a=b
 all:∀ n:Nat,2<=n->n<=m->∃ i x,T i=Z x/\∃ e∈x.L,e.1=(n:Int)
 nm:∀ i x,T i=Z x->(∀ e∈x.L,Hx e.2=AE)/\∀ a b,a<x.L.length->b<x.L.length->(x.L.getD a default).2=(x.L.getD b default).2->a=b
 ln:∀ i x,T i=Z x->x.L.length+1<=m
theorem tX:OkU T0 1:=by
 have key:∀ i x,T0 i=Z x->x.L=[]:=fun i x h=>by
  unfold T0 at h;split at h
  . rw[<- A0 h]
  . cases h
 refine⟨fun i x h e he=>?_,fun i x j y h _ a b ha=>?_,fun n h1 h2=>by omega,fun i x h=>⟨fun e he=>?_,fun a b ha=>?_⟩,fun i x h=>by rw[key i x h];decide⟩
 . rw[key i x h] at he;cases he
 . rw[key i x h] at ha;cases ha
 . rw[key i x h] at he;cases he
 . rw[key i x h] at ha;cases ha
def ddS:ByteArray:=⟨#[46,46]⟩
theorem ZH{s:ByteArray}(h:(s.toList==[46,46])=Ay):s≠ddS:=fun e=>by
 rw[e] at h;have:ddS.toList=[46,46]:=by rw[B0];rfl
 rw[this] at h;cases h
structure KnO (T:EV) (K:Int->ByteArray->Option Int):Prop where
 nm:∀ (a:Nat) s n,K a s=Z n->s≠ddS->∃ x y,∃ k:Nat,n=(k:Int)/\T a=Z x/\x.kd=2/\Dr x.L s<x.L.length/\(x.L.getD (Dr x.L s) default).1=(k:Int)/\T k=Z y/\y.kd=2
 up:∀ (a:Nat) n,K a ddS=Z n->n=(Tq T a:Int)
 cl:∀ (a:Nat) n,K a ddS=Z n->(K n ddS).isSome=AE
theorem oS{T:EV}{m:Nat}(h:OkU T m):Tq T 1=1:=VX fun j _=>by
 unfold Rl;cases hx:T j with
 |none=>rfl
 |some x=>
  have:(x.L.any fun e=>e.1==(1:Int))=Ay:=List.any_eq_false.2 fun e he=>by
   have:=(h.up j x hx e he).2;rw[Da];omega
  show(decide (x.kd=2) && x.L.any fun e=>e.1==(1:Int))=Ay
  rw[this,Bool.and_false]
theorem t7{T:EV}{m a k:Nat}{x:Nd}{i:Nat}(ho:OkT T)(h:OkU T m)(hx:T a=Z x)(h2:x.kd=2)(hi:i<x.L.length)(hk:(x.L.getD i default).1=(k:Int)):Tq T (k:Int)=a:=by
 refine jQ (ho.hi a x hx).2 ?_ fun j hj=>?_
 . unfold Rl
   rw[hx];show(decide (x.kd=2) && x.L.any fun e=>e.1==(k:Int))=AE
   rw[Az h2,AG];refine List.any_eq_true.2 ⟨x.L.getD i default,by rw[Gq _ hi];exact Be _,by rw[Da];exact hk⟩
 . unfold Rl
   cases hy:T j with
   |none=>rfl
   |some y=>
    have:(y.L.any fun e=>e.1==(k:Int))=Ay:=List.any_eq_false.2 fun e he=>by
     rw[Da];intro hek;obtain⟨b,hb,hbe⟩:=Cw he;have hb2:y.L.getD b default=e:=(by rw[Gq _ hb];exact hbe);have:=(h.one j y a x hy hx b i hb hi (by rw[hb2,hek,hk])).1;omega
    show(decide (y.kd=2) && y.L.any fun e=>e.1==(k:Int))=Ay
    rw[this,Bool.and_false]
def TSt(w:I)(v:Ao)(O:List ByteArray):Prop:=TSl w v O/\(0<O.length->∃ b off n c cs z,v=C (Z ⟨b,off,H⟩) n c/\w.heap[b]? =Z (G cs 9 z))
theorem TSt.keep{w w':I}{v:Ao}{O:List ByteArray}(h:TSt w v O)(hs:w.heap.size<=w'.heap.size)(hk:∀ (b:Nat) (cs:Array Ao) (z:Nat × Nat),w.heap[b]? =Z (G cs 9 z)->w'.heap[b]? =w.heap[b]?):TSt w' v O:=by
 obtain⟨⟨ao,cap,hv,hn,hc⟩,h2⟩:=h;refine⟨⟨ao,cap,hv,hn,fun h0=>?_⟩,fun h0=>?_⟩
 . obtain⟨b,off,e,hlt,hj⟩:=hc h0
   obtain⟨b',off',n',c',cs,z,e',hb⟩:=h2 h0;rw[hv,e] at e';have e3:b=b':=(by cases e';rfl);rw[<- e3] at hb;exact⟨b,off,e,AA hlt hs,fun j h=>(A5 (a:=⟨b,off+j,H⟩) (hk b cs z hb)).trans (hj j h)⟩
 . obtain⟨b,off,n,c,cs,z,e,hb⟩:=h2 h0
   exact⟨b,off,n,c,cs,z,e,(hk b cs z hb).trans hb⟩
theorem TSt.below{w w':I}{v:Ao}{O:List ByteArray}(h:TSt w v O)(hb:Ap w.heap.size w w'):TSt w' v O:=h.keep hb.size fun b cs z hc=>hb.block b (Ah.1 hc).1
theorem TR.st{w:I}{B:Nat}{v:Ao}{O:List ByteArray}(h:TR w B v O):TSt w v O:=by
 refine⟨h.sl,fun h0=>?_⟩;rcases h.2 with⟨_,hl⟩| ⟨g,cap,cur,hv,hg,hh,r⟩
 . omega
 . exact⟨g,0,_,cap,cur,(0,0),hv,hh⟩
theorem TSt.tail{w:I}{b off cap n:Nat}{O:List ByteArray}(h:TSt w (C (Z ⟨b,off,H⟩) n cap) O)(h0:0<O.length):TSt w (.slice (if cap=1 then Z ⟨b,off,H⟩ else Z ⟨b,off+1,H⟩) (n-1) (cap-1)) (O.drop 1):=by
 refine⟨h.1.tail h0,fun _=>?_⟩;obtain⟨b',off',n',c',cs,z,e,hb⟩:=h.2 h0;have e3:b=b':=by cases e;rfl
 rw[<- e3] at hb;split
 . exact⟨b,off,_,_,cs,z,rfl,hb⟩
 . exact⟨b,off+1,_,_,cs,z,rfl,hb⟩
structure WkS (W1:I) (T:EV) (fo:Bool) (bf bw bm a f:Nat) (l:List ByteArray) (K:Int->ByteArray->Option Int) (n:Nat) (w:I):Prop where
 row:∃ v,w.heap[bw]? =Z (G #[Al (Z ⟨bf,0,H⟩),AP fo,Y J a,v,.map (Z bm),Y J f] 82 (0,0))/\TSt w v l
 mp:MpK w bm K n
 lo:W1.heap.size<=bw/\W1.heap.size<=bm
 be:Ap W1.heap.size W1 w
 dir:∃ x,T a=Z x/\x.kd=2
 f4:f<=4
 len:l.length<=20
 ne:∀ s∈l,s.size≠0/\s.size<=13
 kn:KnO T K
 up:(K a ddS).isSome=AE
 up1:(K 1 ddS).isSome=AE
section
variable {W1:I}{T:EV}{fo:Bool}{bf bw bm a f:Nat}{l:List ByteArray}{K:Int->ByteArray->Option Int}{n:Nat}{w w':I}
theorem WkS.cells(h:WkS W1 T fo bf bw bm a f l K n w):∃ ao cap,w.heap[bw]? =Z (G #[Al (Z ⟨bf,0,H⟩),AP fo,Y J a,C ao l.length cap,.map (Z bm),Y J f] 82 (0,0))/\TSt w (C ao l.length cap) l:=by
 obtain⟨v,h1,h2⟩:=h.row;obtain⟨ao,cap,rfl,_⟩:=id h2.1;exact⟨ao,cap,h1,h2⟩
theorem WkS.lt(h:WkS W1 T fo bf bw bm a f l K n w):bw<w.heap.size/\bm<w.heap.size:=by
 obtain⟨v,h1,_⟩:=h.row;exact⟨(Ah.1 h1).1,h.mp.lt⟩
theorem WkS.low(h:WkS W1 T fo bf bw bm a f l K n w)(hb:Ap w.heap.size w w'):WkS W1 T fo bf bw bm a f l K n w':=by
 obtain⟨l1,l2⟩:=h.lt;obtain⟨v,h1,h2⟩:=h.row;exact { h with row:=⟨v,(hb.block _ l1).trans h1,h2.below hb⟩,mp:=h.mp.keep (hb.block _ l2),be:=h.be.trans (hb.mono h.be.size) }
theorem WkS.turn(h:WkS W1 T fo bf bw bm a f l K n w){i a' f':Nat}{l':List ByteArray}{u v2:Ao}
 (hr:(w.setCell ⟨bw,i,H⟩ u).heap[bw]? =Z (G #[Al (Z ⟨bf,0,H⟩),AP fo,Y J a',v2,.map (Z bm),Y J f'] 82 (0,0))) (hv2:TSt w v2 l')
 (hd:∃ x,T a'=Z x/\x.kd=2) (hf:f'<=4) (hl:l'.length<=20) (hn:∀ s∈l',s.size≠0/\s.size<=13) (hu:(K a' ddS).isSome=AE):WkS W1 T fo bf bw bm a' f' l' K n (w.setCell ⟨bw,i,H⟩ u):=by
 obtain⟨ao,cap,h1,h2⟩:=h.cells;have CU:∀ (b:Nat) (cs:Array Ao) (z:Nat × Nat),w.heap[b]? =Z (G cs 9 z)->(w.setCell ⟨bw,i,H⟩ u).heap[b]? =w.heap[b]? :=fun b cs z hs=>AN w ⟨bw,i,H⟩ b _ (fun e=>by
  have e:b=bw:=e;rw[e,h1] at hs;cases hs)
 have tC:=h.mp.not_cells h1;have hz:w.heap.size<=(w.setCell ⟨bw,i,H⟩ u).heap.size:=by rw[I.size_setCell];exact At _
 exact { h with row:=⟨v2,hr,hv2.keep hz CU⟩,mp:=h.mp.keep (AN w ⟨bw,i,H⟩ bm _ tC),be:=h.be.setCell (p:=⟨bw,i,H⟩) h.lo.1 _,dir:=hd,f4:=hf,len:=hl,ne:=hn,up:=hu }
theorem WkS.setA(h:WkS W1 T fo bf bw bm a f l K n w){a':Nat}(hd:∃ x,T a'=Z x/\x.kd=2)(hu:(K a' ddS).isSome=AE):WkS W1 T fo bf bw bm a' f l K n (w.setCell ⟨bw,2,H⟩ (Y J a')):=by
 obtain⟨v,h1,h2⟩:=h.row;exact h.turn (i:=2) (by rw[A8 w bw 2 _ _ _ h1];rfl) h2 hd h.f4 h.len h.ne hu
theorem WkS.setL(h:WkS W1 T fo bf bw bm a f l K n w){v2:Ao}{l':List ByteArray}(hv:TSt w v2 l')(hl:l'.length<=20)(hn:∀ s∈l',s.size≠0/\s.size<=13):WkS W1 T fo bf bw bm a f l' K n (w.setCell ⟨bw,3,H⟩ v2):=by
 obtain⟨v,h1,h2⟩:=h.row;exact h.turn (i:=3) (by rw[A8 w bw 3 _ _ _ h1];rfl) hv h.dir h.f4 hl hn h.up
theorem WkS.setF(h:WkS W1 T fo bf bw bm a f l K n w){f':Nat}(hf:f'<=4):WkS W1 T fo bf bw bm a f' l K n (w.setCell ⟨bw,5,H⟩ (Y J f')):=by
 obtain⟨v,h1,h2⟩:=h.row;exact h.turn (i:=5) (by rw[A8 w bw 5 _ _ _ h1];rfl) h2 h.dir hf h.len h.ne h.up
theorem WkS.know(h:WkS W1 T fo bf bw bm a f l K n w){d:Int}{s:ByteArray}{v:Int}(hm:MpK w' bm (Jo K d s v) (n+1))(hg:w.grownBy w' (Z bm))(hk:KnO T (Jo K d s v)):WkS W1 T fo bf bw bm a f l (Jo K d s v) (n+1) w':=by
 obtain⟨ao,cap,h1,h2⟩:=h.cells;have tC:=h.mp.not_cells h1;have SK:∀ d' s',(K d' s').isSome=AE->(Jo K d s v d' s').isSome=AE:=fun d' s' h=>by
  unfold Jo;split
  . rfl
  . exact h
 refine { h with row:=⟨_,(hg.block bw h.lt.1 (fun e=>tC (A0 e).symm)).trans h1,h2.keep hg.size fun b cs z hs=>hg.block b (Ah.1 hs).1 fun e=>?_⟩,mp:=hm,be:=h.be.grown hg h.be.size (fun k e=>by cases e;exact h.lo.2),kn:=hk,up:=SK _ _ h.up,up1:=SK _ _ h.up1 };exact h.mp.not_cells hs (A0 e).symm
theorem WkS.wrote(h:WkS W1 T fo bf bw bm a f l K n w){g:Nat}(hw:Wrote w w' g){cs:Array Ao}{t:Cg}{z:Nat × Nat}(hg:w.heap[g]? =Z (G cs t z))(ht:t≠9)(Uz:g≠bw)(MX:W1.heap.size<=g):WkS W1 T fo bf bw bm a f l K n w':=by
 obtain⟨ao,cap,h1,h2⟩:=h.cells;have tC:=h.mp.not_cells hg;refine { h with row:=⟨_,(hw.2.2.2.2 bw (fun e=>Uz e.symm)).trans h1,h2.keep (by rw[hw.2.2.2.1];exact At _) fun b cs z hs=>hw.2.2.2.2 b fun e=>?_⟩,mp:=h.mp.keep (hw.2.2.2.2 bm tC),be:=h.be.trans (hw.below MX) };rw[e,hg] at hs;cases hs
 exact ht rfl
theorem Xz(h:KnO T K){a:Nat}{s:ByteArray}{v:Int}(h1:s≠ddS->∃ x y,∃ k:Nat,v=(k:Int)/\T a=Z x/\x.kd=2/\Dr x.L s<x.L.length/\(x.L.getD (Dr x.L s) default).1=(k:Int)/\T k=Z y/\y.kd=2)(h2:s=ddS->v=(Tq T a:Int))(h3:s=ddS->(Jo K a s v v ddS).isSome=AE):KnO T (Jo K a s v):=by
 refine⟨fun a' s' n' e hs=>?_,fun a' n' e=>?_,fun a' n' e=>?_⟩
 . unfold Jo at e
   split at e
   . next hc=>
     obtain⟨e1,rfl⟩:=hc;obtain rfl:a'=a:=by omega
     cases e
     exact h1 hs
   . exact h.nm a' s' n' e hs
 . unfold Jo at e
   split at e
   . next hc=>
     obtain⟨e1,e2⟩:=hc;obtain rfl:a'=a:=by omega
     cases e
     exact h2 e2.symm
   . exact h.up a' n' e
 . unfold Jo at e
   split at e
   . next hc=>
     cases e
     exact h3 hc.2.symm
   . have:=h.cl a' n' e
     unfold Jo;split
     . rfl
     . exact this
end
def FrK(bw bm:Nat)(w w':I):Prop:=w.heap.size<=w'.heap.size/\∀ k,k<w.heap.size->k≠bw->k≠bm->w'.heap[k]? =w.heap[k]?
section
variable {bw bm:Nat}{w w4 w5:I}
theorem FrK.refl(bw bm:Nat)(w:I):FrK bw bm w w:=⟨At _,fun _ _ _ _=>rfl⟩
theorem FrK.low(h:FrK bw bm w w4)(hb:Ap w4.heap.size w4 w5):FrK bw bm w w5:=⟨AI h.1 hb.size,fun k hk h1 h2=>(hb.block k (AA hk h.1)).trans (h.2 k hk h1 h2)⟩
theorem FrK.set(h:FrK bw bm w w4)(i:Nat)(u:Ao):FrK bw bm w (w4.setCell ⟨bw,i,H⟩ u):=⟨by rw[I.size_setCell];exact h.1,fun k hk h1 h2=>(AN w4 ⟨bw,i,H⟩ k u h1).trans (h.2 k hk h1 h2)⟩
theorem FrK.gr(h:FrK bw bm w w4)(hg:w4.grownBy w5 (Z bm)):FrK bw bm w w5:=⟨AI h.1 hg.size,fun k hk h1 h2=>(hg.block k (AA hk h.1) (fun e=>h2 (A0 e))).trans (h.2 k hk h1 h2)⟩
theorem FrK.wr(h:FrK bw bm w w4){g:Nat}(hw:Wrote w4 w5 g)(hg:w.heap.size<=g):FrK bw bm w w5:=⟨by rw[hw.2.2.2.1];exact h.1,fun k hk h1 h2=>(hw.2.2.2.2 k (by omega)).trans (h.2 k hk h1 h2)⟩
theorem FrK.trans(h:FrK bw bm w w4)(k:FrK bw bm w4 w5):FrK bw bm w w5:=⟨AI h.1 k.1,fun j hj h1 h2=>(k.2 j (AA hj h.1) h1 h2).trans (h.2 j hj h1 h2)⟩
end
def NxO(W1 w:I)(T:EV)(fo:Bool)(bf bw bm:Nat)(R:Yg)(μ n:Nat)(e:Ending)(w':I):Prop:=
 FrK bw bm w w'/\Ap W1.heap.size W1 w'/\((e=Aj (rU R)/\(R.2≠0\/R.1.2.1.size≠0))\/
  (e=Aj (rU (M6 0))/\∃ a f l K n',WkS W1 T fo bf bw bm a f l K n' w'/\IF T fo a f l=R/\(5-f)*21+l.length<μ/\n'<=n+2))
theorem iX{T:EV}{m:Nat}(hU:OkU T m):KnO T (Jo (fun _ _=>H) 1 ddS 1):=
 Xz (a:=1) ⟨fun a s n e=>(by cases e),fun a n e=>(by cases e),fun a n e=>(by cases e)⟩ (fun h=>absurd rfl h) (fun _=>by rw[show((1:Nat):Int)=1 from rfl,oS hU];rfl) fun _=>rfl
theorem Ym{W1:I}{T:EV}{fo:Bool}{bf bw bm m:Nat}{l:List ByteArray}(HF:FsW W1 bf T)(hT:OkT T)(hU:OkU T m){w:I}(hb:Ap W1.heap.size W1 w)(hlo:W1.heap.size<=bw/\W1.heap.size<=bm){v:Ao}
 (h1:w.heap[bw]? =Z (G #[Al (Z ⟨bf,0,H⟩),AP fo,Y J 1,v,.map (Z bm),Y J 0] 82 (0,0))) (h2:TSt w v l) (hm:MpK w bm (fun _ _=>H) 0) (hl:l.length<=20) (hn:∀ s∈l,s.size≠0/\s.size<=13):
 Av U 60 #[Al (Z ⟨bw,0,H⟩)] w fun e w'=>e=Aj (Y J 0)/\(∃ K,WkS W1 T fo bf bw bm 1 0 l K 1 w')/\FrK bw bm w w':=by
 obtain⟨x,hx,hk⟩:=hT.root;have KG:Hid (Av U 13 #[Al (Z ⟨bf,0,H⟩),Y J 1] w fun e w'=>∃ x1 x3 x4 x5 x6 x7 x8 x9 x10 x11 x12 x13,e=Aj (AH #[BN #[Y J 2,Y J x1,Y J x.sz,Y J x3,Y J x4,Y J x5,Y J x6,Y J x7,Y J x8,Y J x9,Y J x10,Y J x11,Y J x12,Y J x13],Y J 0])/\Ap w.heap.size w w'):=wM (by
  have:=HF.get w hb 1 x hx;rw[hk] at this;exact this)
 have c0:w.cell? ⟨bw,0,H⟩=Z (Al (Z ⟨bf,0,H⟩)):=by rw[Aq _ _ _ _ _ _ h1];rfl
 have hlt:=(Ah.1 h1).1;obtain⟨ao,cap,rfl,_⟩:=id h2.1;have H1:=wM h1;have H2:=wM h2;have HM:=wM hm;have HB:=wM hb;obtain⟨z,hz⟩:=nm x.sz;rw[<- hz] at KG;clear h1 h2 hm hb hz;go_enter Tryz.func60,Tryz.ntmps60
 go_upto_region 6 with(first
  |(go_at_call 13;(with_reducible refine KG.out.mono ?_);rintro e w2 ⟨x1,x3,x4,x5,x6,x7,x8,x9,x10,x11,x12,x13,rfl,hb2⟩))
 have hb3:Ap w.heap.size w (w2.alloc (G #[Y J 2,Y J x1,Y J z,Y J x3,Y J x4,Y J x5,Y J x6,Y J x7,Y J x8,Y J x9,Y J x10,Y J x11,Y J x12,Y J x13] 44)):=hb2.alloc hb2.size _;generalize w2.alloc (G #[Y J 2,Y J x1,Y J z,Y J x3,Y J x4,Y J x5,Y J x6,Y J x7,Y J x8,Y J x9,Y J x10,Y J x11,Y J x12,Y J x13] 44)=w3 at hb3 |-
 have k1:=(hb3.block bw hlt).trans H1.out;have c4:w3.cell? ⟨bw,4,H⟩=Z (.map (Z bm)):=by rw[Aq _ _ _ _ _ _ k1];rfl
 obtain⟨w4,CX,lO,hg4,hs4⟩:=(HM.out.keep (hb3.block bm HM.out.lt)).store (d:=1) (s:=ddS) (v:=1) (by decide) (by decide) (by decide) (by decide);have CX:(Instr.mapUpdate 80 (.map (Z bm)) (BN #[Y J 1,.string ⟨#[46,46]⟩]) (Y J 1)).run U w3=.ok () w4:=CX;have HM4:=wM lO;have HG4:=wM hg4;have HK1:=wM k1;have HB3:=wM hb3;clear lO hg4 hs4 k1 hb3 hb2 KG;go_wp2;go_ret;have h3:TSt w3 (C ao l.length cap) l:=H2.out.below HB3.out;have hne:bw≠bm:=fun e=>by
  obtain⟨D,⟨es,clock,hb,_⟩,_⟩:=HM.out;rw[<- e,H1.out] at hb;cases hb
 refine⟨rfl,⟨_,⟨⟨_,(HG4.out.block bw (Ah.1 HK1.out).1 (fun e=>hne (A0 e))).trans HK1.out,h3.keep HG4.out.size fun b cs z hs=>HG4.out.block b (Ah.1 hs).1 fun e=>?_⟩,HM4.out,hlo,(HB.out.trans (HB3.out.mono HB.out.size)).grown HG4.out (AI HB.out.size HB3.out.size) (fun k e=>by cases e;exact hlo.2),⟨x,hx,hk⟩,by decide,hl,hn,iX hU,rfl,rfl⟩⟩,((FrK.refl bw bm w).low HB3.out).gr HG4.out⟩;exact(HM.out.keep (HB3.out.block bm HM.out.lt)).not_cells hs (A0 e).symm
theorem Cm:(U.info? 35).map (·.size)=Z 3:=by kernel_rfl
theorem N0{W1:I}{T:EV}{fo:Bool}{bf bw bm a f n:Nat}{r:List ByteArray}{K:Int->ByteArray->Option Int}{w:I}(h:WkS W1 T fo bf bw bm a f r K n w)(s:ByteArray)(nn kd:Nat)(hs:s.size≠0)(μ:Nat)(hc:r=[]\/kd≠2):
 Av U 105 #[Al (Z ⟨bw,0,H⟩),.string s,Y J nn,Y J kd] w (NxO W1 w T fo bf bw bm (if r=[] then (((a:Int),s,(nn:Int)),0) else M6 6) μ n):=by
 obtain⟨ao,cap,h1,_⟩:=h.cells;have hlt:=h.lt.1;have c2:w.cell? ⟨bw,2,H⟩=Z (Y J a):=by rw[Aq _ _ _ _ _ _ h1];rfl
 have c3:w.cell? ⟨bw,3,H⟩=Z (C ao r.length cap):=by rw[Aq _ _ _ _ _ _ h1];rfl
 have HB:=wM h.be;by_cases h0:r=[]
 . rw[Au h0]
   subst h0;have c3:w.cell? ⟨bw,3,H⟩=Z (C ao 0 cap):=c3;clear h h1 hc;go_enter Tryz.func105,Tryz.ntmps105;go_wp2;exact AS (Bj rfl Tryz.underlying35 Cm _ _ w.heap.size _ _ _ _ _ rfl (Ar w _) rfl) rfl ⟨(FrK.refl _ _ _).low (As w _),HB.out.trans ((As w _).mono HB.out.size),AU ⟨rfl,AW hs⟩⟩
 . rw[Ax h0]
   have hk:((kd:Int) != 2)=AE:=by rw[bne_iff_ne];rcases hc with e|e;exact absurd e h0;omega
   obtain⟨q,hq⟩:=nm r.length;have Xf:((q:Int)==0)=Ay:=by rw[Ce];have:r.length≠0:=fun e=>h0 (AO e);omega
   rw[<- hq] at c3;clear h h1 hc hq h0;go_enter Tryz.func105,Tryz.ntmps105;go_wp2;exact AS (Bj rfl Tryz.underlying35 Cm _ _ w.heap.size _ _ _ _ _ rfl (Ar w _) rfl) rfl ⟨(FrK.refl _ _ _).low (As w _),HB.out.trans ((As w _).mono HB.out.size),AU ⟨rfl,AU (by show(6:Int)≠0;decide)⟩⟩
theorem Zg{W1:I}{T:EV}{fo:Bool}{bf bw bm a f n m:Nat}{r:List ByteArray}{K:Int->ByteArray->Option Int}{w:I}(h:WkS W1 T fo bf bw bm a f r K n w)(hT:OkT T)(hU:OkU T m){s:ByteArray}{nn:Nat}{x y:Nd}(hx:T a=Z x)(hi:Dr x.L s<x.L.length)(he:(x.L.getD (Dr x.L s) default).1=(nn:Int))(hy:T nn=Z y)(hk:y.kd=2)
 (hs:s.size<=13) (hd:s≠ddS) (hr:r≠[]) (hn:n<=1000) {μ:Nat} (hμ:(5-f)*21+r.length<μ):
 Av U 105 #[Al (Z ⟨bw,0,H⟩),.string s,Y J nn,Y J 2] w (NxO W1 w T fo bf bw bm (IF T fo nn f r) μ n):=by
 obtain⟨x',hx',JG⟩:=h.dir;rw[hx] at hx';cases hx'
 have L1:(2:Int)<=nn:=by
  have:=(hU.up a x hx _ (by rw[Gq _ hi];exact Be _:x.L.getD (Dr x.L s) default∈x.L)).2;rw[he] at this;exact this
 have ha48:=(hT.hi a x hx).2;have gK:=(hT.hi nn y hy).2;have hup:=t7 hT hU hx JG hi he;obtain⟨q,hq⟩:=nm r.length;have Xf:((q:Int)==0)=Ay:=by rw[Ce];have:r.length≠0:=fun e=>hr (AO e);omega
 have hb1:=As w (G #[Y J 0,.string ⟨#[]⟩,Y J 0] 35);have Fe:=Ar w (G #[Y J 0,.string ⟨#[]⟩,Y J 0] 35);obtain⟨w1,hw1⟩:=nm (w.alloc (G #[Y J 0,.string ⟨#[]⟩,Y J 0] 35));rw[<- hw1] at hb1 Fe;have HW1:Hid (w.alloc (G #[Y J 0,.string ⟨#[]⟩,Y J 0] 35)=w1):=wM hw1.symm;have S1:=h.low hb1;have S1d:WkS W1 T fo bf bw bm a f r K n w1.drew:=S1.low (AM (AC _ w1) 1);obtain⟨w2,qE,hm2,hg2,Ot⟩:=S1d.mp.store (d:=(a:Int)) (s:=s) (v:=(nn:Int)) (JR (by omega)) (by omega) (JR (by omega)) (by omega);have qE:(Instr.mapUpdate 80 (.map (Z bm)) (BN #[Y J a,.string s]) (Y J nn)).run U w1.drew=.ok () w2:=qE;have S2:=S1d.know hm2 hg2 (Xz S1.kn (fun _=>⟨x,y,nn,rfl,hx,JG,hi,he,hy,hk⟩) (fun e=>absurd e hd) (fun e=>absurd e hd));have S2d:WkS W1 T fo bf bw bm a f r (Jo K a s nn) (n+1) w2.drew:=S2.low (AM (AC _ w2) 1);obtain⟨w3,qF,qk,hg3,hs3⟩:=S2d.mp.store (d:=(nn:Int)) (s:=ddS) (v:=(a:Int)) (JR (by omega)) (by decide) (JR (by omega)) (by omega);have qF:(Instr.mapUpdate 80 (.map (Z bm)) (BN #[Y J nn,.string ⟨#[46,46]⟩]) (Y J a)).run U w2.drew=.ok () w3:=qF;have S3:=S2d.know qk hg3 (Xz S2.kn (fun e=>absurd rfl e) (fun _=>by rw[hup]) (fun _=>by
  have:=S2.up;show(Jo (Jo K a s nn) nn ddS a (a:Int) ddS).isSome=AE
  unfold Jo;split
  . rfl
  . exact this))
 have S4:=S3.setA (a':=nn) ⟨y,hy,hk⟩ (by unfold Jo;rw[Au ⟨rfl,rfl⟩];rfl);obtain⟨ao,cap,r1,_⟩:=S1.cells;obtain⟨ao2,cap2,r2,_⟩:=S2.cells;obtain⟨ao3,cap3,r3,_⟩:=S3.cells;have c12:w1.cell? ⟨bw,2,H⟩=Z (Y J a):=by rw[Aq _ _ _ _ _ _ r1];rfl
 have c13:w1.cell? ⟨bw,3,H⟩=Z (C ao r.length cap):=by rw[Aq _ _ _ _ _ _ r1];rfl
 have c14:w1.cell? ⟨bw,4,H⟩=Z (.map (Z bm)):=by rw[Aq _ _ _ _ _ _ r1];rfl
 have c22:w2.cell? ⟨bw,2,H⟩=Z (Y J a):=by rw[Aq _ _ _ _ _ _ r2];rfl
 have c24:w2.cell? ⟨bw,4,H⟩=Z (.map (Z bm)):=by rw[Aq _ _ _ _ _ _ r2];rfl
 have c32:w3.cell? ⟨bw,2,H⟩=Z (Y J a):=by rw[Aq _ _ _ _ _ _ r3];rfl
 have f32:w3.frozen? ⟨bw,2,H⟩=Ay:=by simp[I.frozen?,r3]
 rw[<- hq] at c13;have hnn1:((nn:Int) != 1)=AE:=by rw[bne_iff_ne];omega
 have mn:w2.heap[w.heap.size]? =Z (G #[Y J 0,.string ⟨#[]⟩,Y J 0] 35 (0,0)):=(hg2.block _ (Ah.1 Fe).1 (fun e=>by have:=h.lt.2;have:=A0 e;omega)).trans Fe;have hp3:w3.heap[w.heap.size]? =Z (G #[Y J 0,.string ⟨#[]⟩,Y J 0] 35 (0,0)):=(hg3.block _ (Ah.1 mn).1 (fun e=>by have:=h.lt.2;have:=A0 e;omega)).trans mn;have hp4:(w3.setCell ⟨bw,2,H⟩ (Y J nn)).heap[w.heap.size]? =Z (G #[Y J 0,.string ⟨#[]⟩,Y J 0] 35 (0,0)):=(AN w3 ⟨bw,2,H⟩ _ _ (by show w.heap.size≠bw;have:=h.lt.1;omega)).trans hp3;have HS4:=wM S4;have HFR:Hid (FrK bw bm w (w3.setCell ⟨bw,2,H⟩ (Y J nn))):=wM ((((((FrK.refl bw bm w).low hb1).low (AM (AC _ w1) 1)).gr hg2).low (AM (AC _ w2) 1)).gr hg3 |>.set 2 _);have hlo1:=h.be.size;have gM:=h.lt.1;have HP4:=wM hp4;have HM:=wM hμ;clear h hT hU hx hi he hy hup hr hq hb1 Fe hw1 S1 S1d hm2 hg2 Ot S2 S2d qk hg3 hs3 S3 S4 r1 r2 r3 mn hp3 hp4 hμ hn hk JG;go_enter Tryz.func105,Tryz.ntmps105;go_upto_region 1 with(fail)
 rw[HW1.out];go_wp2
 go_region
 go_wp2
 go_region
 have HL:=wM (And.intro hlo1 gM);go_wp2_with (with_reducible refine Bh rfl 35 Cm (.tmp 8) (.tmp 53) rfl w.heap.size rfl _ _ _ _ _ _ rfl rfl rfl rfl _ HP4.out ?_;intro w5 hw5 Db)
 have S5:=HS4.out.wrote hw5 HP4.out (by decide) (Nat.ne_of_gt HL.out.2) HL.out.1;exact AS (Bj rfl Tryz.underlying35 Cm _ _ w.heap.size _ _ _ _ _ rfl Db rfl) rfl ⟨HFR.out.wr hw5 (At _),S5.be,AW ⟨rfl,_,_,_,_,_,S5,rfl,HM.out,At _⟩⟩
theorem V9{s:ByteArray}(h:OkP s):∀ p∈BL s,p.size≠0/\p.size<=13:=fun p hp=>⟨by
 rw[Lg] at hp;have:=(List.mem_filter.1 hp).2;exact AX this,h.ln p hp⟩
def wb(W1 w:I)(T:EV)(fo:Bool)(bf bw bm:Nat)(R:Yg)(μ n:Nat)(e:Ending)(w':I):Prop:=
 FrK bw bm w w'/\Ap W1.heap.size W1 w'/\((∃ er:Int,er≠0/\e=Aj (Y J er)/\R=M6 er)\/
  (e=Aj (Y J 0)/\∃ a f l K,WkS W1 T fo bf bw bm a f l K n w'/\IF T fo a f l=R/\(5-f)*21+l.length<μ))
section
variable {W1:I}{T:EV}{fo:Bool}{bf bw bm a f n:Nat}{r:List ByteArray}{K:Int->ByteArray->Option Int}{w:I}
theorem Q9(h:WkS W1 T fo bf bw bm a 4 r K n w)(nn sz:Nat)(R:Yg)(hR:R=M6 11)(μ:Nat):Av U 148 #[Al (Z ⟨bw,0,H⟩),Y J nn,Y J sz] w (wb W1 w T fo bf bw bm R μ n):=by
 obtain⟨ao,cap,h1,_⟩:=h.cells;have c5:w.cell? ⟨bw,5,H⟩=Z (Y J 4):=by rw[Aq _ _ _ _ _ _ h1];rfl
 have HB:=wM h.be;clear h h1;go_enter Tryz.func148,Tryz.ntmps148;go_wp2;go_ret;exact⟨FrK.refl _ _ _,HB.out,AU ⟨11,by decide,rfl,hR⟩⟩
theorem Wk(h:WkS W1 T fo bf bw bm a f r K n w)(HF:FsW W1 bf T)(hT:OkT T){nn:Nat}{y:Nd}(hy:T nn=Z y)(hk:y.kd=3)(hf:¬ 4<f+1){R:Yg}
 (CU:¬ OkP (BX y.tg)->R=M6 10) (hyes:OkP (BX y.tg)->R=if 20<(BL (BX y.tg) ++ r).length then M6 10 else IF T fo (if (BX y.tg).data.toList.head? =Z 47 then 1 else a) (f+1) (BL (BX y.tg) ++ r)) {μ:Nat} (hμ:(5-f)*21<=μ):
 Av U 148 #[Al (Z ⟨bw,0,H⟩),Y J nn,Y J y.sz] w (wb W1 w T fo bf bw bm R μ n):=by
 obtain⟨ao,cap,h1,h2⟩:=h.cells;have S1:=h.setF (f':=f+1) (by omega);have gK:=(hT.hi nn y hy).2;have gN:(BX y.tg).size≠0:=by
  have h3:=(hT.link nn y hy).2.2.1 hk;rw[strOfNums_size];omega
 obtain⟨S,hS⟩:=nm (BX y.tg);rw[<- hS] at CU hyes gN;have hSe:(S.toList==[])=Ay:=by
  rw[Ce,B0];intro e;exact gN (by rw[<- GJ,e];rfl)
 have c5:w.cell? ⟨bw,5,H⟩=Z (Y J f):=by rw[Aq _ _ _ _ _ _ h1];rfl
 have f5:w.frozen? ⟨bw,5,H⟩=Ay:=by simp[I.frozen?,h1]
 obtain⟨w1,hw1⟩:=nm (w.setCell ⟨bw,5,H⟩ (Y J ((f+1:Nat):Int)));rw[<- hw1] at S1;have HW1:Hid (w.setCell ⟨bw,5,H⟩ (Y J ((f:Int)+1))=w1):=wM (by rw[hw1];rfl);obtain⟨ao1,cap1,r1,t1⟩:=S1.cells;have c10:w1.cell? ⟨bw,0,H⟩=Z (Al (Z ⟨bf,0,H⟩)):=by rw[Aq _ _ _ _ _ _ r1];rfl
 have KR:=wM (HF.read w1 S1.be nn y hy hk);have KC:Hid (∀ W v,BSl W v y.tg->(convert 77 9 v).run U W=.ok (.string S) W):=wM fun W v hv=>by rw[hS];exact Ig hv
 have KS:=wM (fun W=>RJ S W);have KP:=wM (fun W=>aK S W);obtain⟨z,hz⟩:=nm y.sz;obtain⟨tg,tD⟩:=nm y.tg;rw[<- hz,<- tD] at KR;rw[<- tD] at KC;rw[<- hz];have HS1:=wM S1;have HFR:Hid (FrK bw bm w w1):=wM (by rw[hw1];exact(FrK.refl bw bm w).set 5 _);obtain⟨q,hq⟩:=nm r.length;have HQ:=wM hq;rw[<- hq] at r1 t1;have HR1:=wM r1;have HT1:=wM t1;have hf4:((f:Int)==4)=Ay:=by rw[Ce];omega
 have hfz:(f:Int)<=3:=by omega
 have hq20:(q:Int)<=20:=by have:=h.len;omega
 have HHT:=wM hT;have hlt:=S1.lt.1;have HNE:=wM h.ne;by_cases ho:OkP S
 . have HO:=wM ho
   have hyes:=hyes ho;have KSY:Hid (∀ V,Av U 17 #[.string S] V fun e w'=>∃ v,e=Aj (AH #[v,Y J 0])/\TR w' V.heap.size v (BL S)/\Ap V.heap.size V w'):=wM fun V=>(KS.out V).mono fun e w' ⟨h1,hb⟩=>by
    rcases h1 with⟨_,v,he,hv⟩| ⟨hn,_⟩
    . exact⟨v,he,hv,hb⟩
    . exact absurd HO.out hn
   obtain⟨pn,mu⟩:=nm ((BL S).length);have hp20:(pn:Int)<=20:=(by have:=ho.ct;omega);have HPN:=wM mu;have HSH:Hid (∀ (W:I) (v:Ao) (B:Nat),TR W B v (BL S)->∃ ao cap,v=C ao pn cap):=wM fun W v B h=>by
    obtain⟨ao,cap,e,_⟩:=h.sl;exact⟨ao,cap,by rw[e,mu]⟩
   rw[AD,<- mu,<- hq] at hyes;by_cases h20:20<pn+q
   . rw[Au h20] at hyes
     have HR:=wM hyes;have g20:(20:Int)<(pn:Int)+(q:Int):=(by omega);clear h hy hk CU hyes gN S1 hw1 KS KP t1 ho mu hq HF hT hz tD hS gK hμ hf h20 h1 h2 r1;go_enter Tryz.func148,Tryz.ntmps148;go_upto_region 4 with(fail)
     rw[HW1.out];clear c5 f5
     go_wp2_with (first
      |(go_at_call 96;(with_reducible refine KR.out.mono ?_);rintro e w2 ⟨v2,rfl,hv2,hb2⟩;have WQ:=KC.out _ _ hv2;have HB2:=wM hb2)
      |(go_at_call 17;(with_reducible refine(KSY.out _).mono ?_);rintro e w3 ⟨v3,rfl,Rs,hb3⟩;obtain⟨ao3,cap3,rfl⟩:=HSH.out _ _ _ Rs;have HB3:=wM hb3;have r3:=(HB3.out.block bw (by exact AA hlt HB2.out.size)).trans ((HB2.out.block bw hlt).trans HR1.out);have c33:w3.cell? ⟨bw,3,H⟩=Z (C ao1 q cap1):=(by rw[Aq _ _ _ _ _ _ r3];rfl)))
     go_ret;exact⟨(HFR.out.low HB2.out).low HB3.out,HS1.out.be.trans ((HB2.out.mono HS1.out.be.size).trans (HB3.out.mono (AI HS1.out.be.size HB2.out.size))),AU ⟨10,by decide,rfl,HR.out⟩⟩
   . rw[Ax h20] at hyes
     have g20:¬ (20:Int)<(pn:Int)+(q:Int):=(by omega);have HL20:Hid ((BL S ++ r).length<=20/\(BL S).length<=100/\r.length<=100):=wM ⟨by rw[AD];omega,by omega,by omega⟩;have HNN:Hid (∀ s∈BL S ++ r,s.size≠0/\s.size<=13):=wM fun s hs=>by
      rcases BI.1 hs with hs|hs
      . exact V9 HO.out s hs
      . exact HNE.out s hs
     have HMU:Hid ((5-(f+1))*21+(BL S ++ r).length<μ):=wM (by have:=HL20.out.1;omega);have HCC:Hid (∀ (W:I) (vA:Ao) (B:Nat),TR W B vA (BL S)->TSl W (C ao1 q cap1) r->Av U 182 #[C (Z ⟨W.heap.size,0,H⟩) 2 2] (W.alloc (G #[vA,C ao1 q cap1] 23)) fun e w'=>∃ ao cap,e=Aj (C ao (pn+q) cap)/\TR w' (W.heap.size+1) (C ao (pn+q) cap) (BL S ++ r)/\Ap W.heap.size W w'):=wM fun W vA B hA hB=>by
      have hb:=As W (G #[vA,C ao1 q cap1] 23);have hn:=Ar W (G #[vA,C ao1 q cap1] 23);refine(Tp (g:=W.heap.size) (vA:=vA) (vB:=C ao1 q cap1) (A:=BL S) (B:=r) (by rw[Aq _ _ _ _ _ _ hn];rfl) (by rw[Aq _ _ _ _ _ _ hn];rfl) (hA.sl.below hb) (hB.below hb) HL20.out.2.1 HL20.out.2.2).mono ?_;rintro e w' ⟨v,he,hv,hb2⟩;obtain⟨ao,cap,e2,_⟩:=hv.sl;rw[AD,<- HPN.out,<- HQ.out] at e2;subst e2;rw[World.size_alloc] at hv hb2;exact⟨ao,cap,he,hv,hb.trans (hb2.mono (by omega))⟩
     have HDIR:Hid (∃ x,T 1=Z x/\x.kd=2):=wM hT.root;have key:∀ (B:Bool),B=decide (S.data.toList.head? =Z 47)->Hid (∀ V,Av U 16 #[.string S,.string ⟨#[47]⟩] V fun e w'=>e=Aj (AP B)/\V=w'):=fun B hB=>wM fun V=>by rw[hB];exact KP.out V
     by_cases lX:S.data.toList.head? =Z 47
     . rw[Au lX] at hyes
       have KPB:=key AE (by rw[Az lX]);have HR:=wM hyes;clear h hy hk CU hyes gN S1 hw1 KS KP t1 ho mu hq HF hT hz tD hS gK hμ hf h20 h1 h2 r1 key lX;go_enter Tryz.func148,Tryz.ntmps148;go_upto_region 4 with(fail)
       rw[HW1.out];clear c5 f5
       go_wp2_with (first
        |(go_at_call 96;(with_reducible refine KR.out.mono ?_);rintro e w2 ⟨v2,rfl,hv2,hb2⟩;have WQ:=KC.out _ _ hv2;have HB2:=wM hb2)
        |(go_at_call 17;(with_reducible refine(KSY.out _).mono ?_);rintro e w3 ⟨v3,rfl,Rs,hb3⟩;obtain⟨ao3,cap3,rfl⟩:=HSH.out _ _ _ Rs;have HB3:=wM (HB2.out.trans (hb3.mono HB2.out.size));have r3:=(HB3.out.block bw hlt).trans HR1.out;have c33:w3.cell? ⟨bw,3,H⟩=Z (C ao1 q cap1):=(by rw[Aq _ _ _ _ _ _ r3];rfl);have KCC:=wM (HCC.out _ _ _ Rs (HT1.out.1.below HB3.out)))
        |(go_at_call 182;(refine KCC.out.mono ?_);rintro e w5 ⟨ao5,cap5,rfl,hv5,hb5⟩;have HV5:=wM hv5;have HB5:=wM (HB3.out.trans (hb5.mono HB3.out.size));have r5:=(HB5.out.block bw hlt).trans HR1.out;have c53:w5.cell? ⟨bw,3,H⟩=Z (C ao1 q cap1):=(by rw[Aq _ _ _ _ _ _ r5];rfl);have f53:w5.frozen? ⟨bw,3,H⟩=Ay:=(by simp[I.frozen?,r5]);have HS5:=wM ((HS1.out.low HB5.out).setL HV5.out.st HL20.out.1 HNN.out);have c62:(w5.setCell ⟨bw,3,H⟩ (C ao5 (pn+q) cap5)).cell? ⟨bw,2,H⟩=Z (Y J a):=(by obtain⟨ao6,cap6,r6,_⟩:=HS5.out.cells;rw[Aq _ _ _ _ _ _ r6];rfl);have f62:(w5.setCell ⟨bw,3,H⟩ (C ao5 (pn+q) cap5)).frozen? ⟨bw,2,H⟩=Ay:=(by obtain⟨ao6,cap6,r6,_⟩:=HS5.out.cells;simp[I.frozen?,r6]))
        |(go_at_call 16;(with_reducible refine(KPB.out _).mono ?_);rintro e w6 ⟨rfl,rfl⟩))
       go_ret;have S7:=HS5.out.setA HDIR.out HS5.out.up1;exact⟨((HFR.out.low HB5.out).set 3 _).set 2 _,S7.be,AW ⟨rfl,_,_,_,_,S7,HR.out.symm,HMU.out⟩⟩
     . rw[Ax lX] at hyes
       have KPB:=key Ay (by rw[AB lX]);have HR:=wM hyes;clear h hy hk CU hyes gN S1 hw1 KS KP t1 ho mu hq HF hT hz tD hS gK hμ hf h20 h1 h2 r1 key lX;go_enter Tryz.func148,Tryz.ntmps148;go_upto_region 4 with(fail)
       rw[HW1.out];clear c5 f5
       go_wp2_with (first
        |(go_at_call 96;(with_reducible refine KR.out.mono ?_);rintro e w2 ⟨v2,rfl,hv2,hb2⟩;have WQ:=KC.out _ _ hv2;have HB2:=wM hb2)
        |(go_at_call 17;(with_reducible refine(KSY.out _).mono ?_);rintro e w3 ⟨v3,rfl,Rs,hb3⟩;obtain⟨ao3,cap3,rfl⟩:=HSH.out _ _ _ Rs;have HB3:=wM (HB2.out.trans (hb3.mono HB2.out.size));have r3:=(HB3.out.block bw hlt).trans HR1.out;have c33:w3.cell? ⟨bw,3,H⟩=Z (C ao1 q cap1):=(by rw[Aq _ _ _ _ _ _ r3];rfl);have KCC:=wM (HCC.out _ _ _ Rs (HT1.out.1.below HB3.out)))
        |(go_at_call 182;(refine KCC.out.mono ?_);rintro e w5 ⟨ao5,cap5,rfl,hv5,hb5⟩;have HV5:=wM hv5;have HB5:=wM (HB3.out.trans (hb5.mono HB3.out.size));have r5:=(HB5.out.block bw hlt).trans HR1.out;have c53:w5.cell? ⟨bw,3,H⟩=Z (C ao1 q cap1):=(by rw[Aq _ _ _ _ _ _ r5];rfl);have f53:w5.frozen? ⟨bw,3,H⟩=Ay:=(by simp[I.frozen?,r5]);have HS5:=wM ((HS1.out.low HB5.out).setL HV5.out.st HL20.out.1 HNN.out))
        |(go_at_call 16;(with_reducible refine(KPB.out _).mono ?_);rintro e w6 ⟨rfl,rfl⟩))
       go_ret;exact⟨(HFR.out.low HB5.out).set 3 _,HS5.out.be,AW ⟨rfl,_,_,_,_,HS5.out,HR.out.symm,HMU.out⟩⟩
 . have HR:=wM (CU ho)
   have KSN:Hid (∀ V,Av U 17 #[.string S] V fun e w'=>e=Aj (AH #[C H 0 0,Y J 10])/\Ap V.heap.size V w'):=wM fun V=>(KS.out V).mono fun e w' ⟨h1,hb⟩=>by
    rcases h1 with⟨hn,_⟩| ⟨_,he⟩
    . exact absurd hn ho
    . exact⟨he,hb⟩
   clear h hy hk CU hyes gN S1 hw1 KS KP t1 ho hq HF hT hz tD hS gK hμ hf h1 h2 r1;go_enter Tryz.func148,Tryz.ntmps148;go_upto_region 4 with(fail)
   rw[HW1.out];clear c5 f5
   go_wp2_with (first
    |(go_at_call 96;(with_reducible refine KR.out.mono ?_);rintro e w2 ⟨v2,rfl,hv2,hb2⟩;have WQ:=KC.out _ _ hv2;have HB2:=wM hb2)
    |(go_at_call 17;(with_reducible refine(KSN.out _).mono ?_);rintro e w3 ⟨rfl,hb3⟩;have HB3:=wM hb3))
   go_ret;exact⟨(HFR.out.low HB2.out).low HB3.out,HS1.out.be.trans ((HB2.out.mono HS1.out.be.size).trans (HB3.out.mono (AI HS1.out.be.size HB2.out.size))),AU ⟨10,by decide,rfl,HR.out⟩⟩
end
theorem NxO.open_{W1 w:I}{T:EV}{fo:Bool}{bf bw bm:Nat}{R:Yg}{μ n:Nat}{e:Ending}{w':I}(h:NxO W1 w T fo bf bw bm R μ n e w'):
 FrK bw bm w w'/\Ap W1.heap.size W1 w'/\((∃ p1 p2 p3 er,R=((p1,p2,p3),er)/\e=Aj (AH #[BN #[Y J p1,.string p2,Y J p3],Y J er])/\(er≠0\/p2.size≠0))\/
 (e=Aj (AH #[BN #[Y J 0,.string ⟨#[]⟩,Y J 0],Y J 0])/\∃ a f l K n',WkS W1 T fo bf bw bm a f l K n' w'/\IF T fo a f l=R/\(5-f)*21+l.length<μ/\n'<=n+2)):=by
 obtain⟨h1,h2,h3⟩:=h;refine⟨h1,h2,?_⟩;rcases h3 with⟨e1,e2⟩|h3
 . obtain⟨⟨p1,p2,p3⟩,er⟩:=R
   exact AU ⟨p1,p2,p3,er,rfl,e1,e2⟩
 . exact AW h3
theorem N5{W1:I}{T:EV}{fo:Bool}{bf bw bm a f n m:Nat}{r:List ByteArray}{K:Int->ByteArray->Option Int}{w:I}(h:WkS W1 T fo bf bw bm a f r K n w)(hT:OkT T)(hU:OkU T m){s:ByteArray}{nn:Nat}{x y:Nd}(hx:T a=Z x)(hi:Dr x.L s<x.L.length)(he:(x.L.getD (Dr x.L s) default).1=(nn:Int))(hy:T nn=Z y)
 (Na:s.size≠0) (hs:s.size<=13) (hd:s≠ddS) (hn:n<=1000) {μ:Nat} (hμ:(5-f)*21+r.length<μ):
 Av U 105 #[Al (Z ⟨bw,0,H⟩),.string s,Y J nn,Y J y.kd] w (NxO W1 w T fo bf bw bm (if r=[] then (((a:Int),s,(nn:Int)),0) else if y.kd≠2 then M6 6 else IF T fo nn f r) μ n):=by
 by_cases h0:r=[]
 . have:=N0 h s nn y.kd Na μ (AU h0)
   rw[Au h0] at this |-
   exact this
 . rw[Ax h0]
   by_cases h2:y.kd=2
   . rw[Ax (fun h=>h h2),h2]
     exact Zg h hT hU hx hi he hy h2 hs hd h0 hn hμ
   . have:=N0 h s nn y.kd Na μ (AW h2)
     rw[Ax h0] at this;rw[Au h2];exact this
section
variable {W1:I}{T:EV}{fo:Bool}{bf bw bm a f n m:Nat}{r:List ByteArray}{K:Int->ByteArray->Option Int}{w:I}{s:ByteArray}{x:Nd}
theorem fc(h:WkS W1 T fo bf bw bm a f r K n w)(HF:FsW W1 bf T)(hx:T a=Z x)(hk:x.kd=2)(Na:s.size≠0)(hi:¬ Dr x.L s<x.L.length)(μ:Nat):
 Av U 106 #[Al (Z ⟨bw,0,H⟩),.string s] w (NxO W1 w T fo bf bw bm (if r=[] then (((a:Int),s,0),0) else M6 4) μ n):=by
 have hb1:=As w (G #[Y J 0,.string ⟨#[]⟩,Y J 0] 35);have Fe:=Ar w (G #[Y J 0,.string ⟨#[]⟩,Y J 0] 35);obtain⟨w1,hw1⟩:=nm (w.alloc (G #[Y J 0,.string ⟨#[]⟩,Y J 0] 35));rw[<- hw1] at hb1 Fe;have HW1:Hid (w.alloc (G #[Y J 0,.string ⟨#[]⟩,Y J 0] 35)=w1):=wM hw1.symm;have S1:=h.low hb1;have S1d:WkS W1 T fo bf bw bm a f r K n w1.drew:=S1.low (AM (AC _ w1) 1);have HS1:=wM S1d;have HFR:Hid (FrK bw bm w w1.drew):=wM (((FrK.refl bw bm w).low hb1).low (AM (AC _ w1) 1));have KFI0:=HF.find w1.drew S1d.be a x hx hk s;have HH1:Hid (w1.drew.heap[w.heap.size]? =Z (G #[Y J 0,.string ⟨#[]⟩,Y J 0] 35 (0,0))):=wM Fe;obtain⟨ao,cap,r1,_⟩:=S1.cells;have HR1:Hid (w1.drew.heap[bw]? =Z (G #[Al (Z ⟨bf,0,H⟩),AP fo,Y J a,C ao r.length cap,.map (Z bm),Y J f] 82 (0,0))):=wM r1;have c13:w1.cell? ⟨bw,3,H⟩=Z (C ao r.length cap):=by rw[Aq _ _ _ _ _ _ r1];rfl
 have d0:w1.drew.cell? ⟨bw,0,H⟩=Z (Al (Z ⟨bf,0,H⟩)):=by rw[Aq _ _ _ _ _ _ HR1.out];rfl
 have d2:w1.drew.cell? ⟨bw,2,H⟩=Z (Y J a):=by rw[Aq _ _ _ _ _ _ HR1.out];rfl
 have HLT:=wM h.lt;have HLO:=wM h.be.size;have KFI:Hid (Av U 147 #[Al (Z ⟨bf,0,H⟩),Y J a,.string s] w1.drew fun e w'=>e=Aj (AH #[Y J 0,Y J 4])/\Ap w1.drew.heap.size w1.drew w'):=wM (by
  unfold Rm Rp at KFI0;rw[Ax hi,Ax hi] at KFI0;exact KFI0)
 by_cases h0:r=[]
 . rw[Au h0]
   subst h0;have c13:w1.cell? ⟨bw,3,H⟩=Z (C ao 0 cap):=c13;clear h HF hx hk hb1 Fe hw1 S1 S1d KFI0 r1 hi;go_enter Tryz.func106,Tryz.ntmps106;go_upto_region 1 with(fail)
   rw[HW1.out];go_wp2
   go_region_held3 (fun V=>V.cell? ⟨bw,0,H⟩=Z (Al (Z ⟨bf,0,H⟩))/\V.cell? ⟨bw,2,H⟩=Z (Y J a)) (first|exact⟨d0,d2⟩|exact s9) (first
    |(go_at_call 147;(with_reducible refine KFI.out.mono ?_);rintro e w2 ⟨rfl,hb2⟩;have HB2:=wM hb2;have HP2:=wM ((hb2.block _ (Ah.1 HH1.out).1).trans HH1.out);have r2:=(hb2.block bw (Ah.1 HR1.out).1).trans HR1.out;have HS2:=wM (HS1.out.low hb2);have HFR2:=wM (HFR.out.low hb2);have e0:w2.cell? ⟨bw,0,H⟩=Z (Al (Z ⟨bf,0,H⟩)):=(by rw[Aq _ _ _ _ _ _ r2];rfl);have e1:w2.cell? ⟨bw,1,H⟩=Z (AP fo):=(by rw[Aq _ _ _ _ _ _ r2];rfl);have e2:w2.cell? ⟨bw,2,H⟩=Z (Y J a):=(by rw[Aq _ _ _ _ _ _ r2];rfl);have s9:=And.intro e0 e2;clear r2 hb2))
   go_wp2_with (with_reducible refine Bh rfl 35 Cm (.tmp 4) (.tmp 39) rfl w.heap.size rfl _ _ _ _ _ _ rfl rfl rfl rfl _ HP2.out ?_;intro w5 hw5 Db)
   exact AS (Bj rfl Tryz.underlying35 Cm _ _ w.heap.size _ _ _ _ _ rfl Db rfl) rfl ⟨HFR2.out.wr hw5 (At _),HS2.out.be.trans (hw5.below HLO.out),AU ⟨rfl,AW Na⟩⟩
 . rw[Ax h0]
   obtain⟨q,hq⟩:=nm r.length;have Xf:((q:Int)==0)=Ay:=by rw[Ce];have:r.length≠0:=fun e=>h0 (AO e);omega
   rw[<- hq] at c13 HR1;clear h HF hx hk hb1 Fe hw1 S1 S1d KFI0 r1 hi h0 hq;go_enter Tryz.func106,Tryz.ntmps106;go_upto_region 1 with(fail)
   rw[HW1.out];go_wp2
   go_region_held3 (fun V=>V.cell? ⟨bw,0,H⟩=Z (Al (Z ⟨bf,0,H⟩))/\V.cell? ⟨bw,2,H⟩=Z (Y J a)) (first|exact⟨d0,d2⟩|exact s9) (first
    |(go_at_call 147;(with_reducible refine KFI.out.mono ?_);rintro e w2 ⟨rfl,hb2⟩;have HB2:=wM hb2;have HP2:=wM ((hb2.block _ (Ah.1 HH1.out).1).trans HH1.out);have r2:=(hb2.block bw (Ah.1 HR1.out).1).trans HR1.out;have HS2:=wM (HS1.out.low hb2);have HFR2:=wM (HFR.out.low hb2);have e0:w2.cell? ⟨bw,0,H⟩=Z (Al (Z ⟨bf,0,H⟩)):=(by rw[Aq _ _ _ _ _ _ r2];rfl);have e1:w2.cell? ⟨bw,1,H⟩=Z (AP fo):=(by rw[Aq _ _ _ _ _ _ r2];rfl);have e2:w2.cell? ⟨bw,2,H⟩=Z (Y J a):=(by rw[Aq _ _ _ _ _ _ r2];rfl);have s9:=And.intro e0 e2;clear r2 hb2))
   go_wp2_with (with_reducible refine Bh rfl 35 Cm (.tmp 4) (.tmp 42) rfl w.heap.size rfl _ _ _ _ _ _ rfl rfl rfl rfl _ HP2.out ?_;intro w5 hw5 Db)
   exact AS (Bj rfl Tryz.underlying35 Cm _ _ w.heap.size _ _ _ _ _ rfl Db rfl) rfl ⟨HFR2.out.wr hw5 (At _),HS2.out.be.trans (hw5.below HLO.out),AU ⟨rfl,AU (by show(4:Int)≠0;decide)⟩⟩
theorem Y8(h:WkS W1 T Ay bf bw bm a f [] K n w)(HF:FsW W1 bf T)(hx:T a=Z x)(hk:x.kd=2)(Na:s.size≠0)(hi:Dr x.L s<x.L.length){nn:Nat}(he:(x.L.getD (Dr x.L s) default).1=(nn:Int))(μ:Nat):
 Av U 106 #[Al (Z ⟨bw,0,H⟩),.string s] w (NxO W1 w T Ay bf bw bm (((a:Int),s,(nn:Int)),0) μ n):=by
 have hb1:=As w (G #[Y J 0,.string ⟨#[]⟩,Y J 0] 35);have Fe:=Ar w (G #[Y J 0,.string ⟨#[]⟩,Y J 0] 35);obtain⟨w1,hw1⟩:=nm (w.alloc (G #[Y J 0,.string ⟨#[]⟩,Y J 0] 35));rw[<- hw1] at hb1 Fe;have HW1:Hid (w.alloc (G #[Y J 0,.string ⟨#[]⟩,Y J 0] 35)=w1):=wM hw1.symm;have S1:=h.low hb1;have S1d:WkS W1 T Ay bf bw bm a f [] K n w1.drew:=S1.low (AM (AC _ w1) 1);have HS1:=wM S1d;have HFR:Hid (FrK bw bm w w1.drew):=wM (((FrK.refl bw bm w).low hb1).low (AM (AC _ w1) 1));have KFI0:=HF.find w1.drew S1d.be a x hx hk s;have HH1:Hid (w1.drew.heap[w.heap.size]? =Z (G #[Y J 0,.string ⟨#[]⟩,Y J 0] 35 (0,0))):=wM Fe;obtain⟨ao,cap,r1,_⟩:=S1.cells;have HR1:Hid (w1.drew.heap[bw]? =Z (G #[Al (Z ⟨bf,0,H⟩),AP Ay,Y J a,C ao ([]:List ByteArray).length cap,.map (Z bm),Y J f] 82 (0,0))):=wM r1;have c13:w1.cell? ⟨bw,3,H⟩=Z (C ao ([]:List ByteArray).length cap):=by rw[Aq _ _ _ _ _ _ r1];rfl
 have d0:w1.drew.cell? ⟨bw,0,H⟩=Z (Al (Z ⟨bf,0,H⟩)):=by rw[Aq _ _ _ _ _ _ HR1.out];rfl
 have d2:w1.drew.cell? ⟨bw,2,H⟩=Z (Y J a):=by rw[Aq _ _ _ _ _ _ HR1.out];rfl
 have HLT:=wM h.lt;have HLO:=wM h.be.size;have KFI:Hid (Av U 147 #[Al (Z ⟨bf,0,H⟩),Y J a,.string s] w1.drew fun e w'=>e=Aj (AH #[Y J nn,Y J 0])/\Ap w1.drew.heap.size w1.drew w'):=wM (by
  unfold Rm Rp at KFI0;rw[Au hi,Au hi,he] at KFI0;exact KFI0)
 have c13:w1.cell? ⟨bw,3,H⟩=Z (C ao 0 cap):=c13;clear h HF hx hk hb1 Fe hw1 S1 S1d KFI0 r1 hi he;go_enter Tryz.func106,Tryz.ntmps106;go_upto_region 1 with(fail)
 rw[HW1.out];go_wp2
 go_region_held3 (fun V=>V.cell? ⟨bw,0,H⟩=Z (Al (Z ⟨bf,0,H⟩))/\V.cell? ⟨bw,2,H⟩=Z (Y J a)) (first|exact⟨d0,d2⟩|exact s9) (first
  |(go_at_call 147;(with_reducible refine KFI.out.mono ?_);rintro e w2 ⟨rfl,hb2⟩;have HB2:=wM hb2;have HP2:=wM ((hb2.block _ (Ah.1 HH1.out).1).trans HH1.out);have r2:=(hb2.block bw (Ah.1 HR1.out).1).trans HR1.out;have HS2:=wM (HS1.out.low hb2);have HFR2:=wM (HFR.out.low hb2);have e0:w2.cell? ⟨bw,0,H⟩=Z (Al (Z ⟨bf,0,H⟩)):=(by rw[Aq _ _ _ _ _ _ r2];rfl);have e1:w2.cell? ⟨bw,1,H⟩=Z (AP Ay):=(by rw[Aq _ _ _ _ _ _ r2];rfl);have e2:w2.cell? ⟨bw,2,H⟩=Z (Y J a):=(by rw[Aq _ _ _ _ _ _ r2];rfl);have s9:=And.intro e0 e2;clear r2 hb2))
 go_wp2_with (with_reducible refine Bh rfl 35 Cm (.tmp 4) (.tmp 58) rfl w.heap.size rfl _ _ _ _ _ _ rfl rfl rfl rfl _ HP2.out ?_;intro w5 hw5 Db)
 exact AS (Bj rfl Tryz.underlying35 Cm _ _ w.heap.size _ _ _ _ _ rfl Db rfl) rfl ⟨HFR2.out.wr hw5 (At _),HS2.out.be.trans (hw5.below HLO.out),AU ⟨rfl,AW Na⟩⟩
theorem VD(h:WkS W1 T fo bf bw bm a f r K n w)(HF:FsW W1 bf T)(hx:T a=Z x)(hk:x.kd=2)(hi:Dr x.L s<x.L.length){nn:Nat}(he:(x.L.getD (Dr x.L s) default).1=(nn:Int)){y:Nd}(hy:T nn=Z y)(hk3:y.kd=3)(hlk:r≠[]\/fo=AE){R:Yg}{μ:Nat}
 (KI0:∀ V,WkS W1 T fo bf bw bm a f r K n V->Av U 148 #[Al (Z ⟨bw,0,H⟩),Y J nn,Y J y.sz] V (wb W1 V T fo bf bw bm R μ n)):
 Av U 106 #[Al (Z ⟨bw,0,H⟩),.string s] w (NxO W1 w T fo bf bw bm R μ n):=by
 have hb1:=As w (G #[Y J 0,.string ⟨#[]⟩,Y J 0] 35);have Fe:=Ar w (G #[Y J 0,.string ⟨#[]⟩,Y J 0] 35);obtain⟨w1,hw1⟩:=nm (w.alloc (G #[Y J 0,.string ⟨#[]⟩,Y J 0] 35));rw[<- hw1] at hb1 Fe;have HW1:Hid (w.alloc (G #[Y J 0,.string ⟨#[]⟩,Y J 0] 35)=w1):=wM hw1.symm;have S1:=h.low hb1;have S1d:WkS W1 T fo bf bw bm a f r K n w1.drew:=S1.low (AM (AC _ w1) 1);have HS1:=wM S1d;have HFR:Hid (FrK bw bm w w1.drew):=wM (((FrK.refl bw bm w).low hb1).low (AM (AC _ w1) 1));have KFI0:=HF.find w1.drew S1d.be a x hx hk s;have HH1:Hid (w1.drew.heap[w.heap.size]? =Z (G #[Y J 0,.string ⟨#[]⟩,Y J 0] 35 (0,0))):=wM Fe;obtain⟨ao,cap,r1,_⟩:=S1.cells;have HR1:Hid (w1.drew.heap[bw]? =Z (G #[Al (Z ⟨bf,0,H⟩),AP fo,Y J a,C ao r.length cap,.map (Z bm),Y J f] 82 (0,0))):=wM r1;have c13:w1.cell? ⟨bw,3,H⟩=Z (C ao r.length cap):=by rw[Aq _ _ _ _ _ _ r1];rfl
 have d0:w1.drew.cell? ⟨bw,0,H⟩=Z (Al (Z ⟨bf,0,H⟩)):=by rw[Aq _ _ _ _ _ _ HR1.out];rfl
 have d2:w1.drew.cell? ⟨bw,2,H⟩=Z (Y J a):=by rw[Aq _ _ _ _ _ _ HR1.out];rfl
 have HLT:=wM h.lt;have HLO:=wM h.be.size;have KFI:Hid (Av U 147 #[Al (Z ⟨bf,0,H⟩),Y J a,.string s] w1.drew fun e w'=>e=Aj (AH #[Y J nn,Y J 0])/\Ap w1.drew.heap.size w1.drew w'):=wM (by
  unfold Rm Rp at KFI0;rw[Au hi,Au hi,he] at KFI0;exact KFI0)
 have KGA:=wM (fun V hV=>HF.get V hV nn y hy);obtain⟨z,hz⟩:=nm y.sz;obtain⟨kd,M5⟩:=nm y.kd;rw[<- hz,<- M5] at KGA;rw[<- hz] at KI0;have KI:Hid (∀ V,WkS W1 T fo bf bw bm a f r K n V->Av U 148 #[Al (Z ⟨bw,0,H⟩),Y J nn,Y J z] V (wb W1 V T fo bf bw bm R μ n)):=wM KI0;rw[hk3] at M5;subst M5;have KGA:Hid (∀ V,Ap W1.heap.size W1 V->Av U 13 #[Al (Z ⟨bf,0,H⟩),Y J nn] V fun e w'=>∃ x1 x3 x4 x5 x6 x7 x8 x9 x10 x11 x12 x13,e=Aj (AH #[BN #[Y J 3,Y J x1,Y J z,Y J x3,Y J x4,Y J x5,Y J x6,Y J x7,Y J x8,Y J x9,Y J x10,Y J x11,Y J x12,Y J x13],Y J 0])/\Ap V.heap.size V w'):=KGA;by_cases h0:r=[]
 . have Q3:fo=AE:=hlk.resolve_left (fun h=>h h0)
   subst h0;subst Q3;have c13:w1.cell? ⟨bw,3,H⟩=Z (C ao 0 cap):=c13;clear h HF hx hk hb1 Fe hw1 S1 S1d KFI0 r1 hi he hz KI0 hlk hy hk3;go_enter Tryz.func106,Tryz.ntmps106;go_upto_region 1 with(fail)
   rw[HW1.out];go_wp2
   go_region_held3 (fun V=>V.cell? ⟨bw,0,H⟩=Z (Al (Z ⟨bf,0,H⟩))/\V.cell? ⟨bw,2,H⟩=Z (Y J a)) (first|exact⟨d0,d2⟩|exact s9) (first
    |(go_at_call 147;(with_reducible refine KFI.out.mono ?_);rintro e w2 ⟨rfl,hb2⟩;have HB2:=wM hb2;have HP2:=wM ((hb2.block _ (Ah.1 HH1.out).1).trans HH1.out);have r2:=(hb2.block bw (Ah.1 HR1.out).1).trans HR1.out;have HS2:=wM (HS1.out.low hb2);have HFR2:=wM (HFR.out.low hb2);have e0:w2.cell? ⟨bw,0,H⟩=Z (Al (Z ⟨bf,0,H⟩)):=(by rw[Aq _ _ _ _ _ _ r2];rfl);have e1:w2.cell? ⟨bw,1,H⟩=Z (AP AE):=(by rw[Aq _ _ _ _ _ _ r2];rfl);have e2:w2.cell? ⟨bw,2,H⟩=Z (Y J a):=(by rw[Aq _ _ _ _ _ _ r2];rfl);have s9:=And.intro e0 e2;clear r2 hb2))
   go_wp2_with (first
    |(go_at_call 13;(with_reducible refine(KGA.out _ HS2.out.be).mono ?_);rintro e w3 ⟨x1,x3,x4,x5,x6,x7,x8,x9,x10,x11,x12,x13,rfl,hb3⟩;have HB4:=wM (hb3.alloc hb3.size (G #[Y J 3,Y J x1,Y J z,Y J x3,Y J x4,Y J x5,Y J x6,Y J x7,Y J x8,Y J x9,Y J x10,Y J x11,Y J x12,Y J x13] 44));have HS4:=wM (HS2.out.low HB4.out);have HFR4:=wM (HFR2.out.low HB4.out);have HP4:=wM ((HB4.out.block _ (Ah.1 HP2.out).1).trans HP2.out))
    |(go_at_call 148;(refine(KI.out _ HS4.out).mono ?_);rintro e w5 ⟨hf5,hb5,(⟨er,hne,rfl,hR⟩| ⟨rfl,a',f',l',K',hS,hw,bD⟩)⟩ <;> (have HP5:=wM ((hf5.2 w.heap.size (Ah.1 HP4.out).1 (Nat.ne_of_gt HLT.out.1) (Nat.ne_of_gt HLT.out.2)).trans HP4.out);have HFR5:=wM (HFR4.out.trans hf5)))
    |(with_reducible refine Bh rfl 35 Cm (.tmp 4) (.tmp 75) rfl w.heap.size rfl _ _ _ _ _ _ rfl rfl rfl rfl _ HP5.out ?_;intro w5 hw5 Db))
   . subst hR
     exact AS (Bj rfl Tryz.underlying35 Cm _ _ w.heap.size _ _ _ _ _ rfl Db rfl) rfl ⟨HFR5.out.wr hw5 (At _),hb5.trans (hw5.below HLO.out),AU ⟨rfl,AU hne⟩⟩
   . exact AS (Bj rfl Tryz.underlying35 Cm _ _ w.heap.size _ _ _ _ _ rfl Db rfl) rfl ⟨HFR5.out.wr hw5 (At _),hb5.trans (hw5.below HLO.out),AW ⟨rfl,a',f',l',K',n,hS.wrote hw5 HP5.out (by decide) (Nat.ne_of_gt HLT.out.1) HLO.out,hw,bD,by omega⟩⟩
 . 
  obtain⟨q,hq⟩:=nm r.length;have Xf:((q:Int)==0)=Ay:=by rw[Ce];have:r.length≠0:=fun e=>h0 (AO e);omega
  rw[<- hq] at c13 HR1;clear h HF hx hk hb1 Fe hw1 S1 S1d KFI0 r1 hi he hz KI0 hlk hy hk3 h0 hq;go_enter Tryz.func106,Tryz.ntmps106;go_upto_region 1 with(fail)
  rw[HW1.out];go_wp2
  go_region_held3 (fun V=>V.cell? ⟨bw,0,H⟩=Z (Al (Z ⟨bf,0,H⟩))/\V.cell? ⟨bw,2,H⟩=Z (Y J a)) (first|exact⟨d0,d2⟩|exact s9) (first
   |(go_at_call 147;(with_reducible refine KFI.out.mono ?_);rintro e w2 ⟨rfl,hb2⟩;have HB2:=wM hb2;have HP2:=wM ((hb2.block _ (Ah.1 HH1.out).1).trans HH1.out);have r2:=(hb2.block bw (Ah.1 HR1.out).1).trans HR1.out;have HS2:=wM (HS1.out.low hb2);have HFR2:=wM (HFR.out.low hb2);have e0:w2.cell? ⟨bw,0,H⟩=Z (Al (Z ⟨bf,0,H⟩)):=(by rw[Aq _ _ _ _ _ _ r2];rfl);have e1:w2.cell? ⟨bw,1,H⟩=Z (AP fo):=(by rw[Aq _ _ _ _ _ _ r2];rfl);have e2:w2.cell? ⟨bw,2,H⟩=Z (Y J a):=(by rw[Aq _ _ _ _ _ _ r2];rfl);have s9:=And.intro e0 e2;clear r2 hb2))
  go_wp2_with (first
   |(go_at_call 13;(with_reducible refine(KGA.out _ HS2.out.be).mono ?_);rintro e w3 ⟨x1,x3,x4,x5,x6,x7,x8,x9,x10,x11,x12,x13,rfl,hb3⟩;have HB4:=wM (hb3.alloc hb3.size (G #[Y J 3,Y J x1,Y J z,Y J x3,Y J x4,Y J x5,Y J x6,Y J x7,Y J x8,Y J x9,Y J x10,Y J x11,Y J x12,Y J x13] 44));have HS4:=wM (HS2.out.low HB4.out);have HFR4:=wM (HFR2.out.low HB4.out);have HP4:=wM ((HB4.out.block _ (Ah.1 HP2.out).1).trans HP2.out))
   |(go_at_call 148;(refine(KI.out _ HS4.out).mono ?_);rintro e w5 ⟨hf5,hb5,(⟨er,hne,rfl,hR⟩| ⟨rfl,a',f',l',K',hS,hw,bD⟩)⟩ <;> (have HP5:=wM ((hf5.2 w.heap.size (Ah.1 HP4.out).1 (Nat.ne_of_gt HLT.out.1) (Nat.ne_of_gt HLT.out.2)).trans HP4.out);have HFR5:=wM (HFR4.out.trans hf5)))
   |(with_reducible refine Bh rfl 35 Cm (.tmp 4) (.tmp 75) rfl w.heap.size rfl _ _ _ _ _ _ rfl rfl rfl rfl _ HP5.out ?_;intro w5 hw5 Db))
  . subst hR
    exact AS (Bj rfl Tryz.underlying35 Cm _ _ w.heap.size _ _ _ _ _ rfl Db rfl) rfl ⟨HFR5.out.wr hw5 (At _),hb5.trans (hw5.below HLO.out),AU ⟨rfl,AU hne⟩⟩
  . exact AS (Bj rfl Tryz.underlying35 Cm _ _ w.heap.size _ _ _ _ _ rfl Db rfl) rfl ⟨HFR5.out.wr hw5 (At _),hb5.trans (hw5.below HLO.out),AW ⟨rfl,a',f',l',K',n,hS.wrote hw5 HP5.out (by decide) (Nat.ne_of_gt HLT.out.1) HLO.out,hw,bD,by omega⟩⟩
theorem f_(h:WkS W1 T fo bf bw bm a f r K n w)(HF:FsW W1 bf T)(hx:T a=Z x)(hk:x.kd=2)(hi:Dr x.L s<x.L.length){nn:Nat}(he:(x.L.getD (Dr x.L s) default).1=(nn:Int)){y:Nd}(hy:T nn=Z y)(hk3:y.kd≠3)(hlk:r≠[]\/fo=AE){R:Yg}{μ:Nat}
 (KR0:∀ V,WkS W1 T fo bf bw bm a f r K n V->Av U 105 #[Al (Z ⟨bw,0,H⟩),.string s,Y J nn,Y J y.kd] V (NxO W1 V T fo bf bw bm R μ n)):
 Av U 106 #[Al (Z ⟨bw,0,H⟩),.string s] w (NxO W1 w T fo bf bw bm R μ n):=by
 have hb1:=As w (G #[Y J 0,.string ⟨#[]⟩,Y J 0] 35);have Fe:=Ar w (G #[Y J 0,.string ⟨#[]⟩,Y J 0] 35);obtain⟨w1,hw1⟩:=nm (w.alloc (G #[Y J 0,.string ⟨#[]⟩,Y J 0] 35));rw[<- hw1] at hb1 Fe;have HW1:Hid (w.alloc (G #[Y J 0,.string ⟨#[]⟩,Y J 0] 35)=w1):=wM hw1.symm;have S1:=h.low hb1;have S1d:WkS W1 T fo bf bw bm a f r K n w1.drew:=S1.low (AM (AC _ w1) 1);have HS1:=wM S1d;have HFR:Hid (FrK bw bm w w1.drew):=wM (((FrK.refl bw bm w).low hb1).low (AM (AC _ w1) 1));have KFI0:=HF.find w1.drew S1d.be a x hx hk s;have HH1:Hid (w1.drew.heap[w.heap.size]? =Z (G #[Y J 0,.string ⟨#[]⟩,Y J 0] 35 (0,0))):=wM Fe;obtain⟨ao,cap,r1,_⟩:=S1.cells;have HR1:Hid (w1.drew.heap[bw]? =Z (G #[Al (Z ⟨bf,0,H⟩),AP fo,Y J a,C ao r.length cap,.map (Z bm),Y J f] 82 (0,0))):=wM r1;have c13:w1.cell? ⟨bw,3,H⟩=Z (C ao r.length cap):=by rw[Aq _ _ _ _ _ _ r1];rfl
 have d0:w1.drew.cell? ⟨bw,0,H⟩=Z (Al (Z ⟨bf,0,H⟩)):=by rw[Aq _ _ _ _ _ _ HR1.out];rfl
 have d2:w1.drew.cell? ⟨bw,2,H⟩=Z (Y J a):=by rw[Aq _ _ _ _ _ _ HR1.out];rfl
 have HLT:=wM h.lt;have HLO:=wM h.be.size;have KFI:Hid (Av U 147 #[Al (Z ⟨bf,0,H⟩),Y J a,.string s] w1.drew fun e w'=>e=Aj (AH #[Y J nn,Y J 0])/\Ap w1.drew.heap.size w1.drew w'):=wM (by
  unfold Rm Rp at KFI0;rw[Au hi,Au hi,he] at KFI0;exact KFI0)
 have KGA:=wM (fun V hV=>HF.get V hV nn y hy);obtain⟨z,hz⟩:=nm y.sz;obtain⟨kd,M5⟩:=nm y.kd;rw[<- hz,<- M5] at KGA;rw[<- M5] at KR0;have KRE:=wM KR0;have hkz:((kd:Int)==3)=Ay:=by rw[Ce];omega
 by_cases h0:r=[]
 . have Q3:fo=AE:=hlk.resolve_left (fun h=>h h0)
   subst h0;subst Q3;have c13:w1.cell? ⟨bw,3,H⟩=Z (C ao 0 cap):=c13;clear h HF hx hk hb1 Fe hw1 S1 S1d KFI0 r1 hi he hz KR0 hlk hy hk3 M5;go_enter Tryz.func106,Tryz.ntmps106;go_upto_region 1 with(fail)
   rw[HW1.out];go_wp2
   go_region_held3 (fun V=>V.cell? ⟨bw,0,H⟩=Z (Al (Z ⟨bf,0,H⟩))/\V.cell? ⟨bw,2,H⟩=Z (Y J a)) (first|exact⟨d0,d2⟩|exact s9) (first
    |(go_at_call 147;(with_reducible refine KFI.out.mono ?_);rintro e w2 ⟨rfl,hb2⟩;have HB2:=wM hb2;have HP2:=wM ((hb2.block _ (Ah.1 HH1.out).1).trans HH1.out);have r2:=(hb2.block bw (Ah.1 HR1.out).1).trans HR1.out;have HS2:=wM (HS1.out.low hb2);have HFR2:=wM (HFR.out.low hb2);have e0:w2.cell? ⟨bw,0,H⟩=Z (Al (Z ⟨bf,0,H⟩)):=(by rw[Aq _ _ _ _ _ _ r2];rfl);have e1:w2.cell? ⟨bw,1,H⟩=Z (AP AE):=(by rw[Aq _ _ _ _ _ _ r2];rfl);have e2:w2.cell? ⟨bw,2,H⟩=Z (Y J a):=(by rw[Aq _ _ _ _ _ _ r2];rfl);have s9:=And.intro e0 e2;clear r2 hb2))
   go_wp2_with (first
    |(go_at_call 13;(with_reducible refine(KGA.out _ HS2.out.be).mono ?_);rintro e w3 ⟨x1,x3,x4,x5,x6,x7,x8,x9,x10,x11,x12,x13,rfl,hb3⟩;have HB4:=wM (hb3.alloc hb3.size (G #[Y J kd,Y J x1,Y J z,Y J x3,Y J x4,Y J x5,Y J x6,Y J x7,Y J x8,Y J x9,Y J x10,Y J x11,Y J x12,Y J x13] 44));have HS4:=wM (HS2.out.low HB4.out);have HFR4:=wM (HFR2.out.low HB4.out);have HP4:=wM ((HB4.out.block _ (Ah.1 HP2.out).1).trans HP2.out))
    |(go_at_call 105;(refine(KRE.out _ HS4.out).mono ?_);rintro e w5 h5;obtain⟨hf5,hb5,(⟨p1,p2,p3,er,hR,rfl,hne⟩| ⟨rfl,a',f',l',K',n',hS,hw,bD,hn'⟩)⟩:=h5.open_ <;> (have HP5:=wM ((hf5.2 w.heap.size (Ah.1 HP4.out).1 (Nat.ne_of_gt HLT.out.1) (Nat.ne_of_gt HLT.out.2)).trans HP4.out);have HFR5:=wM (HFR4.out.trans hf5)))
    |(with_reducible refine Bh rfl 35 Cm (.tmp 4) (.tmp 87) rfl w.heap.size rfl _ _ _ _ _ _ rfl rfl rfl rfl _ HP5.out ?_;intro w5 hw5 Db))
   . subst hR
     exact AS (Bj rfl Tryz.underlying35 Cm _ _ w.heap.size _ _ _ _ _ rfl Db rfl) rfl ⟨HFR5.out.wr hw5 (At _),hb5.trans (hw5.below HLO.out),AU ⟨rfl,hne⟩⟩
   . exact AS (Bj rfl Tryz.underlying35 Cm _ _ w.heap.size _ _ _ _ _ rfl Db rfl) rfl ⟨HFR5.out.wr hw5 (At _),hb5.trans (hw5.below HLO.out),AW ⟨rfl,a',f',l',K',n',hS.wrote hw5 HP5.out (by decide) (Nat.ne_of_gt HLT.out.1) HLO.out,hw,bD,hn'⟩⟩
 . 
  obtain⟨q,hq⟩:=nm r.length;have Xf:((q:Int)==0)=Ay:=by rw[Ce];have:r.length≠0:=fun e=>h0 (AO e);omega
  rw[<- hq] at c13 HR1;clear h HF hx hk hb1 Fe hw1 S1 S1d KFI0 r1 hi he hz KR0 hlk hy hk3 h0 hq M5;go_enter Tryz.func106,Tryz.ntmps106;go_upto_region 1 with(fail)
  rw[HW1.out];go_wp2
  go_region_held3 (fun V=>V.cell? ⟨bw,0,H⟩=Z (Al (Z ⟨bf,0,H⟩))/\V.cell? ⟨bw,2,H⟩=Z (Y J a)) (first|exact⟨d0,d2⟩|exact s9) (first
   |(go_at_call 147;(with_reducible refine KFI.out.mono ?_);rintro e w2 ⟨rfl,hb2⟩;have HB2:=wM hb2;have HP2:=wM ((hb2.block _ (Ah.1 HH1.out).1).trans HH1.out);have r2:=(hb2.block bw (Ah.1 HR1.out).1).trans HR1.out;have HS2:=wM (HS1.out.low hb2);have HFR2:=wM (HFR.out.low hb2);have e0:w2.cell? ⟨bw,0,H⟩=Z (Al (Z ⟨bf,0,H⟩)):=(by rw[Aq _ _ _ _ _ _ r2];rfl);have e1:w2.cell? ⟨bw,1,H⟩=Z (AP fo):=(by rw[Aq _ _ _ _ _ _ r2];rfl);have e2:w2.cell? ⟨bw,2,H⟩=Z (Y J a):=(by rw[Aq _ _ _ _ _ _ r2];rfl);have s9:=And.intro e0 e2;clear r2 hb2))
  go_wp2_with (first
   |(go_at_call 13;(with_reducible refine(KGA.out _ HS2.out.be).mono ?_);rintro e w3 ⟨x1,x3,x4,x5,x6,x7,x8,x9,x10,x11,x12,x13,rfl,hb3⟩;have HB4:=wM (hb3.alloc hb3.size (G #[Y J kd,Y J x1,Y J z,Y J x3,Y J x4,Y J x5,Y J x6,Y J x7,Y J x8,Y J x9,Y J x10,Y J x11,Y J x12,Y J x13] 44));have HS4:=wM (HS2.out.low HB4.out);have HFR4:=wM (HFR2.out.low HB4.out);have HP4:=wM ((HB4.out.block _ (Ah.1 HP2.out).1).trans HP2.out))
   |(go_at_call 105;(refine(KRE.out _ HS4.out).mono ?_);rintro e w5 h5;obtain⟨hf5,hb5,(⟨p1,p2,p3,er,hR,rfl,hne⟩| ⟨rfl,a',f',l',K',n',hS,hw,bD,hn'⟩)⟩:=h5.open_ <;> (have HP5:=wM ((hf5.2 w.heap.size (Ah.1 HP4.out).1 (Nat.ne_of_gt HLT.out.1) (Nat.ne_of_gt HLT.out.2)).trans HP4.out);have HFR5:=wM (HFR4.out.trans hf5)))
   |(with_reducible refine Bh rfl 35 Cm (.tmp 4) (.tmp 87) rfl w.heap.size rfl _ _ _ _ _ _ rfl rfl rfl rfl _ HP5.out ?_;intro w5 hw5 Db))
  . subst hR
    exact AS (Bj rfl Tryz.underlying35 Cm _ _ w.heap.size _ _ _ _ _ rfl Db rfl) rfl ⟨HFR5.out.wr hw5 (At _),hb5.trans (hw5.below HLO.out),AU ⟨rfl,hne⟩⟩
  . exact AS (Bj rfl Tryz.underlying35 Cm _ _ w.heap.size _ _ _ _ _ rfl Db rfl) rfl ⟨HFR5.out.wr hw5 (At _),hb5.trans (hw5.below HLO.out),AW ⟨rfl,a',f',l',K',n',hS.wrote hw5 HP5.out (by decide) (Nat.ne_of_gt HLT.out.1) HLO.out,hw,bD,hn'⟩⟩
end
theorem JW(W:I)(b off m cap:Nat):(Instr.slice 23 (C (Z ⟨b,off,H⟩) (m+1) cap) (Z (Y J 1)) H H).run U W=.ok (.slice (if cap=1 then Z ⟨b,off,H⟩ else Z ⟨b,off+1,H⟩) m (cap-1)) W:=by
 obtain⟨t,h2,h3,h4,h5⟩:=Bf Iz;have he:U.elem 23=9:=by kernel_rfl
 have hu:U.underlying 23=Z (.slice (U.elem 23)):=by rw[he];exact Tryz.underlying23
 rw[run_slice_l W 23 _ _ _ hu J 1 (by decide) (by omega),he];have hz:(sizeOf 9).run U W=.ok 1 W:=by simp[sizeOf,typeInfo,h2,h4]
 rw[hz];simp only[Result.andThen,sliced];by_cases h:cap=1
 . rw[Au h,Au (by rw[h];rfl)];rfl
 . rw[Ax h,Ax (by intro e;exact h (by simpa using e))]
   rfl
section
variable {W1:I}{T:EV}{fo:Bool}{bf bw bm a f n m:Nat}{r:List ByteArray}{K:Int->ByteArray->Option Int}{w:I}{s:ByteArray}
theorem eK(h:WkS W1 T fo bf bw bm a f r K n w)(HF:FsW W1 bf T)(hT:OkT T)(hU:OkU T m)(hd1:(s.toList==[46])=Ay)(hd2:(s.toList==[46,46])=Ay)(Na:s.size≠0)(hs:s.size<=13)(hn:n<=1000){μ:Nat}(hμ:(5-f)*21+r.length<μ):
 Av U 106 #[Al (Z ⟨bw,0,H⟩),.string s] w (NxO W1 w T fo bf bw bm (IF T fo a f (s :: r)) μ n):=by
 obtain⟨x,hx,hk⟩:=h.dir;by_cases hi:Dr x.L s<x.L.length
 . obtain⟨nn,y,he,hy⟩:=hT.ent a x hx _ (by rw[Gq _ hi];exact Be _:x.L.getD (Dr x.L s) default∈x.L)
   have hyes:=SM (fo:=fo) (f:=f) (r:=r) hd1 hd2 hx hi he hy;by_cases hlk:y.kd=3/\(r≠[]\/fo=AE)
   . refine VD h HF hx hk hi he hy hlk.1 hlk.2 fun V hV=>?_
     have h4:=hyes.1 hlk;by_cases hf:4<f+1
     . obtain rfl:f=4:=by have:=h.f4;omega
       exact Q9 hV nn y.sz _ (h4.1 hf) μ
     . obtain⟨h5,h6⟩:=h4.2 hf
       exact Wk hV HF hT hy hlk.1 hf h5 h6 (by omega)
   . rw[hyes.2 hlk]
     by_cases hb:r≠[]\/fo=AE
     . exact f_ h HF hx hk hi he hy (fun h3=>hlk ⟨h3,hb⟩) hb fun V hV=>N5 hV hT hU hx hi he hy Na hs (ZH hd2) hn hμ
     . have hr:r=[]:=by
        cases r with
        |nil=>rfl
        |cons a b=>exact absurd (AU (by simp)) hb
       have Q3:fo=Ay:=by
        cases fo with
        |false=>rfl
        |true=>exact absurd (AW rfl) hb
       subst hr;subst Q3;rw[Au rfl];exact Y8 h HF hx hk Na hi he μ
 . rw[TO hd1 hd2 hx hi]
   exact fc h HF hx hk Na hi μ
end
section
variable {W1:I}{T:EV}{fo:Bool}{bf bw bm a f n m:Nat}{r:List ByteArray}{K:Int->ByteArray->Option Int}{w:I}{s:ByteArray}
theorem ZC(h:WkS W1 T fo bf bw bm a f (s :: r) K n w)(hd1:(s.toList==[46])=AE){μ:Nat}(hμ:(5-f)*21+r.length<μ):
 Av U 61 #[Al (Z ⟨bw,0,H⟩)] w (NxO W1 w T fo bf bw bm (IF T fo a f (s :: r)) μ n):=by
 have hb1:=As w (G #[Y J 0,.string ⟨#[]⟩,Y J 0] 35);have Fe:=Ar w (G #[Y J 0,.string ⟨#[]⟩,Y J 0] 35);obtain⟨w1,hw1⟩:=nm (w.alloc (G #[Y J 0,.string ⟨#[]⟩,Y J 0] 35));rw[<- hw1] at hb1 Fe;have HW1:Hid (w.alloc (G #[Y J 0,.string ⟨#[]⟩,Y J 0] 35)=w1):=wM hw1.symm;have S1:=h.low hb1;obtain⟨ao,cap,r1,t1⟩:=S1.cells;obtain⟨q,hq⟩:=nm r.length;rw[Bm,<- hq] at r1 t1;have ht:∃ b off,ao=Z ⟨b,off,H⟩/\w1.cell? ⟨b,off,H⟩=Z (.string s):=by
  obtain⟨ao2,cap2,hv2,_,hc⟩:=t1.1;obtain⟨b,off,e,_,hj⟩:=hc (by simp);exact⟨b,off,by rw[<- e];exact(AY hv2).1,hj 0 (by simp)⟩
 obtain⟨b,off,rfl,c0⟩:=ht;have tt:=t1.tail (by simp);have hsl:=fun W=>JW W b off q cap
 obtain⟨ao3,QX⟩:=nm ((if cap=1 then Z (⟨b,off,H⟩:Addr) else Z ⟨b,off+1,H⟩));rw[<- QX] at hsl tt;have tt:TSt w1 (C ao3 q (cap-1)) r:=tt;have S2:=S1.setL tt (by have:=h.len;rw[Bm] at this;omega) fun s' hs'=>h.ne s' (By _ hs')
 obtain⟨w2,hw2⟩:=nm (w1.setCell ⟨bw,3,H⟩ (C ao3 q (cap-1)));rw[<- hw2] at S2;have HW2:Hid (w1.setCell ⟨bw,3,H⟩ (C ao3 q (cap-1))=w2):=wM hw2.symm;have HLT:=wM h.lt;have HLO:=wM h.be.size;have HP2:Hid (w2.heap[w.heap.size]? =Z (G #[Y J 0,.string ⟨#[]⟩,Y J 0] 35 (0,0))):=wM (by rw[hw2];exact(AN w1 ⟨bw,3,H⟩ _ _ (by show w.heap.size≠bw;have:=h.lt.1;omega)).trans Fe);have HFR:Hid (FrK bw bm w w2):=wM (by rw[hw2];exact((FrK.refl bw bm w).low hb1).set 3 _);have HS2:=wM S2;have S2d:WkS W1 T fo bf bw bm a f r K n w2.drew:=S2.low (AM (AC _ w2) 1);have HS2d:=wM S2d;have HFRd:Hid (FrK bw bm w w2.drew):=wM (HFR.out.low (AM (AC _ w2) 1));obtain⟨ao4,cap4,r4,_⟩:=S2d.cells;have c13:w1.cell? ⟨bw,3,H⟩=Z (C (Z ⟨b,off,H⟩) (q+1) cap):=by rw[Aq _ _ _ _ _ _ r1];rfl
 have f13:w1.frozen? ⟨bw,3,H⟩=Ay:=by simp[I.frozen?,r1]
 have e2:w2.cell? ⟨bw,2,H⟩=Z (Y J a):=by show w2.drew.cell? _=_;rw[Aq _ _ _ _ _ _ r4];rfl
 have e4:w2.cell? ⟨bw,4,H⟩=Z (.map (Z bm)):=by show w2.drew.cell? _=_;rw[Aq _ _ _ _ _ _ r4];rfl
 have f22:w2.frozen? ⟨bw,2,H⟩=Ay:=by
  have:w2.drew.frozen? ⟨bw,2,H⟩=Ay:=by simp[I.frozen?,r4]
  exact this
 have mr:(0:Int)<(q:Int)+1:=by omega
 have HR:=wM (aT (T:=T) (fo:=fo) (a:=a) (f:=f) (r:=r) hd1);have HM:=wM hμ;clear h hb1 Fe hw1 S1 r1 t1 tt QX S2 hw2 S2d r4 hq hμ;go_enter Tryz.func61,Tryz.ntmps61;go_upto_region 1 with(fail)
 rw[HW1.out];go_upto_region 3 with(fail)
 rw[HW2.out];go_wp2_with (with_reducible refine Bh rfl 35 Cm (.tmp 2) (.tmp 24) rfl w.heap.size rfl _ _ _ _ _ _ rfl rfl rfl rfl _ HP2.out ?_;intro w5 hw5 Db)
 exact AS (Bj rfl Tryz.underlying35 Cm _ _ w.heap.size _ _ _ _ _ rfl Db rfl) rfl ⟨HFR.out.wr hw5 (At _),HS2.out.be.trans (hw5.below HLO.out),AW ⟨rfl,a,f,r,K,n,HS2.out.wrote hw5 HP2.out (by decide) (Nat.ne_of_gt HLT.out.1) HLO.out,HR.out.symm,HM.out,by omega⟩⟩
theorem cM(h:WkS W1 T fo bf bw bm a f (s :: r) K n w)(hT:OkT T)(hd1:(s.toList==[46])=Ay)(hd2:(s.toList==[46,46])=AE){μ:Nat}(hμ:(5-f)*21+r.length<μ):
 Av U 61 #[Al (Z ⟨bw,0,H⟩)] w (NxO W1 w T fo bf bw bm (IF T fo a f (s :: r)) μ n):=by
 have hb1:=As w (G #[Y J 0,.string ⟨#[]⟩,Y J 0] 35);have Fe:=Ar w (G #[Y J 0,.string ⟨#[]⟩,Y J 0] 35);obtain⟨w1,hw1⟩:=nm (w.alloc (G #[Y J 0,.string ⟨#[]⟩,Y J 0] 35));rw[<- hw1] at hb1 Fe;have HW1:Hid (w.alloc (G #[Y J 0,.string ⟨#[]⟩,Y J 0] 35)=w1):=wM hw1.symm;have S1:=h.low hb1;obtain⟨ao,cap,r1,t1⟩:=S1.cells;obtain⟨q,hq⟩:=nm r.length;rw[Bm,<- hq] at r1 t1;have ht:∃ b off,ao=Z ⟨b,off,H⟩/\w1.cell? ⟨b,off,H⟩=Z (.string s):=by
  obtain⟨ao2,cap2,hv2,_,hc⟩:=t1.1;obtain⟨b,off,e,_,hj⟩:=hc (by simp);exact⟨b,off,by rw[<- e];exact(AY hv2).1,hj 0 (by simp)⟩
 obtain⟨b,off,rfl,c0⟩:=ht;have tt:=t1.tail (by simp);have hsl:=fun W=>JW W b off q cap
 obtain⟨ao3,QX⟩:=nm ((if cap=1 then Z (⟨b,off,H⟩:Addr) else Z ⟨b,off+1,H⟩));rw[<- QX] at hsl tt;have tt:TSt w1 (C ao3 q (cap-1)) r:=tt;have S2:=S1.setL tt (by have:=h.len;rw[Bm] at this;omega) fun s' hs'=>h.ne s' (By _ hs')
 obtain⟨w2,hw2⟩:=nm (w1.setCell ⟨bw,3,H⟩ (C ao3 q (cap-1)));rw[<- hw2] at S2;have HW2:Hid (w1.setCell ⟨bw,3,H⟩ (C ao3 q (cap-1))=w2):=wM hw2.symm;have HLT:=wM h.lt;have HLO:=wM h.be.size;have HP2:Hid (w2.heap[w.heap.size]? =Z (G #[Y J 0,.string ⟨#[]⟩,Y J 0] 35 (0,0))):=wM (by rw[hw2];exact(AN w1 ⟨bw,3,H⟩ _ _ (by show w.heap.size≠bw;have:=h.lt.1;omega)).trans Fe);have HFR:Hid (FrK bw bm w w2):=wM (by rw[hw2];exact((FrK.refl bw bm w).low hb1).set 3 _);have HS2:=wM S2;have S2d:WkS W1 T fo bf bw bm a f r K n w2.drew:=S2.low (AM (AC _ w2) 1);have HS2d:=wM S2d;have HFRd:Hid (FrK bw bm w w2.drew):=wM (HFR.out.low (AM (AC _ w2) 1));obtain⟨ao4,cap4,r4,_⟩:=S2d.cells;have c13:w1.cell? ⟨bw,3,H⟩=Z (C (Z ⟨b,off,H⟩) (q+1) cap):=by rw[Aq _ _ _ _ _ _ r1];rfl
 have f13:w1.frozen? ⟨bw,3,H⟩=Ay:=by simp[I.frozen?,r1]
 have e2:w2.cell? ⟨bw,2,H⟩=Z (Y J a):=by show w2.drew.cell? _=_;rw[Aq _ _ _ _ _ _ r4];rfl
 have e4:w2.cell? ⟨bw,4,H⟩=Z (.map (Z bm)):=by show w2.drew.cell? _=_;rw[Aq _ _ _ _ _ _ r4];rfl
 have f22:w2.frozen? ⟨bw,2,H⟩=Ay:=by
  have:w2.drew.frozen? ⟨bw,2,H⟩=Ay:=by simp[I.frozen?,r4]
  exact this
 have mr:(0:Int)<(q:Int)+1:=by omega
 obtain⟨u,hu⟩:=Option.isSome_iff_exists.1 h.up;have sM:=h.kn.up a u hu;have hu3:=h.kn.cl a u hu;obtain⟨x,hx,hk⟩:=h.dir;have hlk:=S2d.mp.get (d:=(a:Int)) (s:=ddS) (JR (by have:=(hT.hi a x hx).2;omega)) (by decide);rw[hu] at hlk;obtain⟨p,hp⟩:=nm (Tq T a);rw[<- hp] at sM;subst sM;have hlk:(Instr.lookup 80 (.map (Z bm)) (BN #[Y J a,.string ⟨#[46,46]⟩]) Ay).run U w2.drew=.ok (Y J p) w2.drew:=hlk;obtain⟨y,hy,hyk,_⟩:=aP hT a;rw[<- hp] at hy;have HS3:Hid (WkS W1 T fo bf bw bm p f r K n (w2.setCell ⟨bw,2,H⟩ (Y J p)).drew):=wM ((S2.setA (a':=p) ⟨y,hy,hyk⟩ hu3).low (AM (AC _ _) 1));have HFR3:Hid (FrK bw bm w (w2.setCell ⟨bw,2,H⟩ (Y J p)).drew):=wM ((HFR.out.set 2 _).low (AM (AC _ _) 1));have HR:=wM (jd (T:=T) (fo:=fo) (a:=a) (f:=f) (r:=r) hd1 hd2);rw[<- hp] at HR;have HP3:Hid ((w2.setCell ⟨bw,2,H⟩ (Y J p)).drew.heap[w.heap.size]? =Z (G #[Y J 0,.string ⟨#[]⟩,Y J 0] 35 (0,0))):=wM ((AN w2 ⟨bw,2,H⟩ _ _ (by show w.heap.size≠bw;have:=HLT.out.1;omega)).trans HP2.out);have HM:=wM hμ;clear h hb1 Fe hw1 S1 r1 t1 tt QX S2 hw2 S2d r4 hq hμ hu hu3 hx hk hy hyk hp hT;go_enter Tryz.func61,Tryz.ntmps61;go_upto_region 1 with(fail)
 rw[HW1.out];go_upto_region 3 with(fail)
 rw[HW2.out];go_wp2
 go_region
 go_wp2_with (with_reducible refine Bh rfl 35 Cm (.tmp 2) (.tmp 40) rfl w.heap.size rfl _ _ _ _ _ _ rfl rfl rfl rfl _ HP3.out ?_;intro w5 hw5 Db)
 exact AS (Bj rfl Tryz.underlying35 Cm _ _ w.heap.size _ _ _ _ _ rfl Db rfl) rfl ⟨HFR3.out.wr hw5 (At _),HS3.out.be.trans (hw5.below HLO.out),AW ⟨rfl,p,f,r,K,n,HS3.out.wrote hw5 HP3.out (by decide) (Nat.ne_of_gt HLT.out.1) HLO.out,HR.out.symm,HM.out,by omega⟩⟩
theorem Tg(h:WkS W1 T fo bf bw bm a f (s :: r) K n w)(hT:OkT T)(hd1:(s.toList==[46])=Ay)(hd2:(s.toList==[46,46])=Ay){k:Nat}(hK:K a s=Z (k:Int)){R:Yg}{μ:Nat}
 (KX0:∀ V,WkS W1 T fo bf bw bm a f r K n V->Av U 105 #[Al (Z ⟨bw,0,H⟩),.string s,Y J k,Y J 2] V (NxO W1 V T fo bf bw bm R μ n)):
 Av U 61 #[Al (Z ⟨bw,0,H⟩)] w (NxO W1 w T fo bf bw bm R μ n):=by
 have hb1:=As w (G #[Y J 0,.string ⟨#[]⟩,Y J 0] 35);have Fe:=Ar w (G #[Y J 0,.string ⟨#[]⟩,Y J 0] 35);obtain⟨w1,hw1⟩:=nm (w.alloc (G #[Y J 0,.string ⟨#[]⟩,Y J 0] 35));rw[<- hw1] at hb1 Fe;have HW1:Hid (w.alloc (G #[Y J 0,.string ⟨#[]⟩,Y J 0] 35)=w1):=wM hw1.symm;have S1:=h.low hb1;obtain⟨ao,cap,r1,t1⟩:=S1.cells;obtain⟨q,hq⟩:=nm r.length;rw[Bm,<- hq] at r1 t1;have ht:∃ b off,ao=Z ⟨b,off,H⟩/\w1.cell? ⟨b,off,H⟩=Z (.string s):=by
  obtain⟨ao2,cap2,hv2,_,hc⟩:=t1.1;obtain⟨b,off,e,_,hj⟩:=hc (by simp);exact⟨b,off,by rw[<- e];exact(AY hv2).1,hj 0 (by simp)⟩
 obtain⟨b,off,rfl,c0⟩:=ht;have tt:=t1.tail (by simp);have hsl:=fun W=>JW W b off q cap
 obtain⟨ao3,QX⟩:=nm ((if cap=1 then Z (⟨b,off,H⟩:Addr) else Z ⟨b,off+1,H⟩));rw[<- QX] at hsl tt;have tt:TSt w1 (C ao3 q (cap-1)) r:=tt;have S2:=S1.setL tt (by have:=h.len;rw[Bm] at this;omega) fun s' hs'=>h.ne s' (By _ hs')
 obtain⟨w2,hw2⟩:=nm (w1.setCell ⟨bw,3,H⟩ (C ao3 q (cap-1)));rw[<- hw2] at S2;have HW2:Hid (w1.setCell ⟨bw,3,H⟩ (C ao3 q (cap-1))=w2):=wM hw2.symm;have HLT:=wM h.lt;have HLO:=wM h.be.size;have HP2:Hid (w2.heap[w.heap.size]? =Z (G #[Y J 0,.string ⟨#[]⟩,Y J 0] 35 (0,0))):=wM (by rw[hw2];exact(AN w1 ⟨bw,3,H⟩ _ _ (by show w.heap.size≠bw;have:=h.lt.1;omega)).trans Fe);have HFR:Hid (FrK bw bm w w2):=wM (by rw[hw2];exact((FrK.refl bw bm w).low hb1).set 3 _);have HS2:=wM S2;have S2d:WkS W1 T fo bf bw bm a f r K n w2.drew:=S2.low (AM (AC _ w2) 1);have HS2d:=wM S2d;have HFRd:Hid (FrK bw bm w w2.drew):=wM (HFR.out.low (AM (AC _ w2) 1));obtain⟨ao4,cap4,r4,_⟩:=S2d.cells;have c13:w1.cell? ⟨bw,3,H⟩=Z (C (Z ⟨b,off,H⟩) (q+1) cap):=by rw[Aq _ _ _ _ _ _ r1];rfl
 have f13:w1.frozen? ⟨bw,3,H⟩=Ay:=by simp[I.frozen?,r1]
 have e2:w2.cell? ⟨bw,2,H⟩=Z (Y J a):=by show w2.drew.cell? _=_;rw[Aq _ _ _ _ _ _ r4];rfl
 have e4:w2.cell? ⟨bw,4,H⟩=Z (.map (Z bm)):=by show w2.drew.cell? _=_;rw[Aq _ _ _ _ _ _ r4];rfl
 have f22:w2.frozen? ⟨bw,2,H⟩=Ay:=by
  have:w2.drew.frozen? ⟨bw,2,H⟩=Ay:=by simp[I.frozen?,r4]
  exact this
 have mr:(0:Int)<(q:Int)+1:=by omega
 obtain⟨x,hx,hk⟩:=h.dir;have hlk:=S2d.mp.look (d:=(a:Int)) (s:=s) (JR (by have:=(hT.hi a x hx).2;omega)) (by have:=(h.ne s Cj).2;omega);rw[hK] at hlk;have hlk:(Instr.lookup 80 (.map (Z bm)) (BN #[Y J a,.string s]) AE).run U w2.drew=.ok (AH #[Y J k,AP AE]) w2.drew:=hlk;have KX:=wM (KX0 w2.drew S2d);clear h hb1 Fe hw1 S1 r1 t1 tt QX S2 hw2 S2d r4 hq hx hk hT KX0 hK;go_enter Tryz.func61,Tryz.ntmps61;go_upto_region 1 with(fail)
 rw[HW1.out];go_upto_region 3 with(fail)
 rw[HW2.out];go_wp2
 go_region
 go_wp2_with (first
  |(go_at_call 105;(refine KX.out.mono ?_);rintro e w5 h5;obtain⟨hf5,hb5,(⟨p1,p2,p3,er,hR,rfl,hne⟩| ⟨rfl,a',f',l',K',n',hS,hw,bD,hn'⟩)⟩:=h5.open_ <;> (have HP5:=wM ((hf5.2 w.heap.size (Ah.1 HP2.out).1 (Nat.ne_of_gt HLT.out.1) (Nat.ne_of_gt HLT.out.2)).trans HP2.out);have HFR5:=wM (HFRd.out.trans hf5)))
  |(with_reducible refine Bh rfl 35 Cm (.tmp 2) (.tmp 60) rfl w.heap.size rfl _ _ _ _ _ _ rfl rfl rfl rfl _ HP5.out ?_;intro w5 hw5 Db))
 . subst hR
   exact AS (Bj rfl Tryz.underlying35 Cm _ _ w.heap.size _ _ _ _ _ rfl Db rfl) rfl ⟨HFR5.out.wr hw5 (At _),hb5.trans (hw5.below HLO.out),AU ⟨rfl,hne⟩⟩
 . exact AS (Bj rfl Tryz.underlying35 Cm _ _ w.heap.size _ _ _ _ _ rfl Db rfl) rfl ⟨HFR5.out.wr hw5 (At _),hb5.trans (hw5.below HLO.out),AW ⟨rfl,a',f',l',K',n',hS.wrote hw5 HP5.out (by decide) (Nat.ne_of_gt HLT.out.1) HLO.out,hw,bD,hn'⟩⟩
theorem V6(h:WkS W1 T fo bf bw bm a f (s :: r) K n w)(hT:OkT T)(hd1:(s.toList==[46])=Ay)(hd2:(s.toList==[46,46])=Ay)(hK:K a s=H){R:Yg}{μ:Nat}
 (KX0:∀ V,WkS W1 T fo bf bw bm a f r K n V->Av U 106 #[Al (Z ⟨bw,0,H⟩),.string s] V (NxO W1 V T fo bf bw bm R μ n)):
 Av U 61 #[Al (Z ⟨bw,0,H⟩)] w (NxO W1 w T fo bf bw bm R μ n):=by
 have hb1:=As w (G #[Y J 0,.string ⟨#[]⟩,Y J 0] 35);have Fe:=Ar w (G #[Y J 0,.string ⟨#[]⟩,Y J 0] 35);obtain⟨w1,hw1⟩:=nm (w.alloc (G #[Y J 0,.string ⟨#[]⟩,Y J 0] 35));rw[<- hw1] at hb1 Fe;have HW1:Hid (w.alloc (G #[Y J 0,.string ⟨#[]⟩,Y J 0] 35)=w1):=wM hw1.symm;have S1:=h.low hb1;obtain⟨ao,cap,r1,t1⟩:=S1.cells;obtain⟨q,hq⟩:=nm r.length;rw[Bm,<- hq] at r1 t1;have ht:∃ b off,ao=Z ⟨b,off,H⟩/\w1.cell? ⟨b,off,H⟩=Z (.string s):=by
  obtain⟨ao2,cap2,hv2,_,hc⟩:=t1.1;obtain⟨b,off,e,_,hj⟩:=hc (by simp);exact⟨b,off,by rw[<- e];exact(AY hv2).1,hj 0 (by simp)⟩
 obtain⟨b,off,rfl,c0⟩:=ht;have tt:=t1.tail (by simp);have hsl:=fun W=>JW W b off q cap
 obtain⟨ao3,QX⟩:=nm ((if cap=1 then Z (⟨b,off,H⟩:Addr) else Z ⟨b,off+1,H⟩));rw[<- QX] at hsl tt;have tt:TSt w1 (C ao3 q (cap-1)) r:=tt;have S2:=S1.setL tt (by have:=h.len;rw[Bm] at this;omega) fun s' hs'=>h.ne s' (By _ hs')
 obtain⟨w2,hw2⟩:=nm (w1.setCell ⟨bw,3,H⟩ (C ao3 q (cap-1)));rw[<- hw2] at S2;have HW2:Hid (w1.setCell ⟨bw,3,H⟩ (C ao3 q (cap-1))=w2):=wM hw2.symm;have HLT:=wM h.lt;have HLO:=wM h.be.size;have HP2:Hid (w2.heap[w.heap.size]? =Z (G #[Y J 0,.string ⟨#[]⟩,Y J 0] 35 (0,0))):=wM (by rw[hw2];exact(AN w1 ⟨bw,3,H⟩ _ _ (by show w.heap.size≠bw;have:=h.lt.1;omega)).trans Fe);have HFR:Hid (FrK bw bm w w2):=wM (by rw[hw2];exact((FrK.refl bw bm w).low hb1).set 3 _);have HS2:=wM S2;have S2d:WkS W1 T fo bf bw bm a f r K n w2.drew:=S2.low (AM (AC _ w2) 1);have HS2d:=wM S2d;have HFRd:Hid (FrK bw bm w w2.drew):=wM (HFR.out.low (AM (AC _ w2) 1));obtain⟨ao4,cap4,r4,_⟩:=S2d.cells;have c13:w1.cell? ⟨bw,3,H⟩=Z (C (Z ⟨b,off,H⟩) (q+1) cap):=by rw[Aq _ _ _ _ _ _ r1];rfl
 have f13:w1.frozen? ⟨bw,3,H⟩=Ay:=by simp[I.frozen?,r1]
 have e2:w2.cell? ⟨bw,2,H⟩=Z (Y J a):=by show w2.drew.cell? _=_;rw[Aq _ _ _ _ _ _ r4];rfl
 have e4:w2.cell? ⟨bw,4,H⟩=Z (.map (Z bm)):=by show w2.drew.cell? _=_;rw[Aq _ _ _ _ _ _ r4];rfl
 have f22:w2.frozen? ⟨bw,2,H⟩=Ay:=by
  have:w2.drew.frozen? ⟨bw,2,H⟩=Ay:=by simp[I.frozen?,r4]
  exact this
 have mr:(0:Int)<(q:Int)+1:=by omega
 obtain⟨x,hx,hk⟩:=h.dir;have hlk:=S2d.mp.look (d:=(a:Int)) (s:=s) (JR (by have:=(hT.hi a x hx).2;omega)) (by have:=(h.ne s Cj).2;omega);rw[hK] at hlk;have hlk:(Instr.lookup 80 (.map (Z bm)) (BN #[Y J a,.string s]) AE).run U w2.drew=.ok (AH #[Y J 0,AP Ay]) w2.drew:=hlk;have KX:=wM (KX0 w2.drew S2d);clear h hb1 Fe hw1 S1 r1 t1 tt QX S2 hw2 S2d r4 hq hx hk hT KX0 hK;go_enter Tryz.func61,Tryz.ntmps61;go_upto_region 1 with(fail)
 rw[HW1.out];go_upto_region 3 with(fail)
 rw[HW2.out];go_wp2
 go_region
 go_wp2_with (first
  |(go_at_call 106;(refine KX.out.mono ?_);rintro e w5 h5;obtain⟨hf5,hb5,(⟨p1,p2,p3,er,hR,rfl,hne⟩| ⟨rfl,a',f',l',K',n',hS,hw,bD,hn'⟩)⟩:=h5.open_ <;> (have HP5:=wM ((hf5.2 w.heap.size (Ah.1 HP2.out).1 (Nat.ne_of_gt HLT.out.1) (Nat.ne_of_gt HLT.out.2)).trans HP2.out);have HFR5:=wM (HFRd.out.trans hf5)))
  |(with_reducible refine Bh rfl 35 Cm (.tmp 2) (.tmp 65) rfl w.heap.size rfl _ _ _ _ _ _ rfl rfl rfl rfl _ HP5.out ?_;intro w5 hw5 Db))
 . subst hR
   exact AS (Bj rfl Tryz.underlying35 Cm _ _ w.heap.size _ _ _ _ _ rfl Db rfl) rfl ⟨HFR5.out.wr hw5 (At _),hb5.trans (hw5.below HLO.out),AU ⟨rfl,hne⟩⟩
 . exact AS (Bj rfl Tryz.underlying35 Cm _ _ w.heap.size _ _ _ _ _ rfl Db rfl) rfl ⟨HFR5.out.wr hw5 (At _),hb5.trans (hw5.below HLO.out),AW ⟨rfl,a',f',l',K',n',hS.wrote hw5 HP5.out (by decide) (Nat.ne_of_gt HLT.out.1) HLO.out,hw,bD,hn'⟩⟩
theorem dv(h:WkS W1 T fo bf bw bm a f (s :: r) K n w)(HF:FsW W1 bf T)(hT:OkT T)(hU:OkU T m)(hn:n<=1000){μ:Nat}(hμ:(5-f)*21+r.length<μ):
 Av U 61 #[Al (Z ⟨bw,0,H⟩)] w (NxO W1 w T fo bf bw bm (IF T fo a f (s :: r)) μ n):=by
 obtain⟨Na,hs⟩:=h.ne s Cj;cases hd1:(s.toList==[46])
 . cases hd2:(s.toList==[46,46])
   . cases hK:K a s with
     |none=>exact V6 h hT hd1 hd2 hK fun V hV=>eK hV HF hT hU hd1 hd2 Na hs hn hμ
     |some u=>
      obtain⟨x,y,k,rfl,hx,hk,hi,he,hy,hyk⟩:=h.kn.nm a s u hK (ZH hd2);have hyes:=SM (fo:=fo) (f:=f) (r:=r) hd1 hd2 hx hi he hy;rw[hyes.2 (fun h3=>by have:=h3.1;omega)];refine Tg h hT hd1 hd2 hK fun V hV=>?_
      have:=N5 hV hT hU hx hi he hy Na hs (ZH hd2) hn hμ;rw[hyk] at this |-
      exact this
   . exact cM h hT hd1 hd2 hμ
 . exact ZC h hd1 hμ
end
end Go.Proofs.YtfpdajplfmakhaaGreatDoor
