/- What the law rests on. -/
import Derived.Test.YtdefiimcmecnnaaGreatQC7
open Go.Value renaming int->J,slice->Ak,pointer->Am,tuple->AO,bool->A1,agg->BD
open Go.IntKind renaming i64->U
open Go.Proofs.Tryz renaming prog->Ae
open Option renaming none->z,some->I
open Go.Ending renaming returned->Ag
open Go renaming World->Ah,Value->Aq,Calls->AA,Oper->BS,wpList->Cn
open List renaming getElem_cons_zero->Ao,getElem_cons_succ->Ap,getElem_toArray->As,set_cons_succ->Au,set_cons_zero->Av,replicate->AD,length_cons->Ch,range->Co
open Go.Obj renaming cells->Ar
open Go.RowKit renaming Below->At
open Bool renaming false->AI,true->r
open Or renaming inl->AN,inr->Ba
open Go.Act renaming put->AR
open Int renaming toNat_natCast->B5
namespace Go.Proofs.YtdefiimcmecnnaaGreat
set_option maxHeartbeats 12000000
set_option linter.unusedVariables false
set_option maxRecDepth 100000
theorem Aj:type_of% @List.setIfInBounds_toArray:=@List.setIfInBounds_toArray
theorem AW:type_of% @Go.wpAny_take:=@Go.wpAny_take
theorem D9:type_of% @Int.tmod_eq_emod_of_nonneg:=@Int.tmod_eq_emod_of_nonneg
section
open Go.RowKit
theorem Lt{α:Type}{cur vs:List α}{o n:Nat}(h:o+vs.length<=n)(hn:n<=cur.length):(splice cur o vs).take n=splice (cur.take n) o vs:=by
 apply List.ext_getElem?;intro i;unfold splice;by_cases h1:i<n
 . rw[AZ,AC h1]
   have e1:(List.take o cur).length=o:=(by rw[AK];omega);have e2:(List.take o (List.take n cur)).length=o:=(by rw[AK,AK];omega);rw[List.getElem?_append,List.getElem?_append (l₁:=List.take o (List.take n cur)),e1,e2];by_cases h2:i<o
   . rw[AC h2,AC h2,AZ,AZ,AC h2,AC h2,AZ,AC h1]
   . rw[AE h2,AE h2,List.getElem?_append,List.getElem?_append]
     by_cases h3:i-o<vs.length
     . rw[AC h3,AC h3]
     . rw[AE h3,AE h3,Bp,Bp,AZ,AC (by omega)]
 . rw[A5 (by simp;omega),A5 (by simp;omega)]
theorem Je{ops:Array BS}{rest:List BS}{op:BS}{a:Act}{w:Ah}{Q:Exit->Act->Ah->Prop}(Dn:op.guard=z)(x y:Operand)(ho:op.op=.store 165 x y)
 (g k:Nat) (O:List (Int × Int)) (cur:Array Aq) (i j:Int) (hx:a.eval x=Am (I ⟨g,k*2,z⟩)) (hy:a.eval y=BD #[J .u16 i,J .u16 j])
 (hg:w.heap[g]? =I (Ar cur 165 (0,0))) (hc:cur.toList.take (O.length*2)=FF O) (hs:O.length*2<=cur.size) (hk:k<O.length)
 (h:∀ w' cur',Wrote w w' g->w'.heap[g]? =I (Ar cur' 165 (0,0))->cur'.size=cur.size->cur'.toList.take (O.length*2)=FF (O.set k (i,j))->Cn Ae ops Q rest (a.put op.dst undef) w'):Cn Ae ops Q (op :: rest) a w:=by
 have hz:(Ae.info? 165).map (·.size)=I 2:=by kernel_rfl
 have hg':w.heap[g]? =I (Ar cur.toList.toArray 165 (0,0)):=by rw[Array.toArray_toList];exact hg
 have hl:k*2+(cO (i,j)).length<=cur.toList.length:=by rw[show(cO (i,j)).length=2 from rfl];simpa using (show k*2+2<=cur.size by omega)
 have h1:∀ v∈cO (i,j),v.oneCell'=r:=fun v hv=>by simp[cO] at hv;rcases hv with rfl|rfl <;> rfl
 refine wpList_store_mid Dn 165 x y ho g (k*2) #[J .u16 i,J .u16 j] hx hy (DX hg' hl) (by rw[hz];rfl) (Dv (cs:=cO (i,j)) h1) ?_;have e:=DH hg' hl h1;rw[show(#[J .u16 i,J .u16 j]:Array Aq).toList=cO (i,j) from rfl,e];refine h _ (splice cur.toList (k*2) (cO (i,j))).toArray (Wrote.setRow _ _ _) (Cr _ _ _ _ _ _ hg) ?_ ?_
 . simp[splice,cO];omega
 . rw[List.toList_toArray,Lt (show k*2+2<=_ by omega) (by rw[Array.length_toList];exact hs),hc,FF,G4 (f:=cO) (s:=2) (fun x _=>MC x) k hk (i,j) (MC _)]
   rfl
section
variable {w:Ah}{M:Nat->Prop}{p:Aq}{n:Int}{O:List (Int × Int)}
theorem RSp.row(h:RSp w M p n O)(h0:0<O.length):∃ b g cap cur,p=Am (I ⟨b,0,z⟩)/\w.heap[b]? =I (Ar #[J U n,Ak (I ⟨g,0,z⟩) O.length cap] 108 (0,0))/\w.heap[g]? =I (Ar cur 165 (0,0))/\cur.toList.take (O.length*2)=FF O/\O.length<=cap/\cap<=maxLen/\cur.size=cap*2/\OwB O/\∀ k,M k ↔ k=b\/k=g:=by
 obtain⟨b,v,rfl,hb,⟨hB,ho⟩,hM⟩:=h;rcases ho.2 with⟨_,e0⟩| ⟨g,cap,cur,rfl,_,hg,Hn,LD,Hb,ht⟩
 . omega
 . refine⟨b,g,cap,cur,rfl,hb,hg,ht,Hn,LD,Hb,hB,fun k=>(hM k).trans ?_⟩
   simp only[Aq.ownBlock,Option.some.injEq];exact⟨fun h=>h.imp id Eq.symm,fun h=>h.imp id Eq.symm⟩
theorem RSp.stored{b g cap:Nat}{cur':Array Aq}(hb:w.heap[b]? =I (Ar #[J U n,Ak (I ⟨g,0,z⟩) O.length cap] 108 (0,0))){cur:Array Aq}(l7:w.heap[g]? =I (Ar cur 165 (0,0)))(Hn:O.length<=cap)(LD:cap<=maxLen)(hB:OwB O)(hM:∀ k,M k ↔ k=b\/k=g){w':Ah}(hw:Wrote w w' g)(hg:w'.heap[g]? =I (Ar cur' 165 (0,0)))(hs:cur'.size=cap*2)
 {k:Nat} {i j:Int} (ht:cur'.toList.take (O.length*2)=FF (O.set k (i,j))) (l6:(0<=i/\i<=65535)/\(0<=j/\j<=65535)):RSp w' M (Am (I ⟨b,0,z⟩)) n (O.set k (i,j))/\Chg M M w w':=by
 have hne:b≠g:=fun e=>by
  rw[e,l7] at hb
  injection hb with hb
  injection hb with _ hb _
  exact absurd hb (by decide)
 refine⟨⟨b,Ak (I ⟨g,0,z⟩) O.length cap,rfl,(hw.2.2.2.2 b hne).trans hb,⟨?_,?_⟩,?_⟩,⟨hw.1,hw.2.1,hw.2.2.1,by rw[hw.2.2.2.1];exact AB _,fun x hx hn=>⟨hw.2.2.2.2 x fun e=>hn ((hM x).2 (Ba e)),hn⟩⟩⟩
 . intro x
   rw[An,List.getElem?_set];by_cases e:k=x
   . rw[AC e]
     split
     . exact l6
     . exact⟨by decide,by decide⟩
   . rw[AE e,<- An]
     exact hB x
 . rw[AJ]
   exact⟨by rw[DN,AJ],Ba ⟨g,cap,cur',rfl,AX _,hg,Hn,LD,hs,ht⟩⟩
 . intro x
   rw[hM x];simp only[Aq.ownBlock,Option.some.injEq];exact⟨fun h=>h.imp id Eq.symm,fun h=>h.imp id Eq.symm⟩
end
end
section
open Go.RowKit BM
section
variable {w:Ah}{P:Nat->Prop}{d p:Aq}{X:XSt}{O D:List (Int × Int)}{k:Nat}
theorem OB.far{B:Nat}{v:Aq}{l:List Int}(h:OB w B v l)(hP:∀ i,P i->i<B):Apt P v:=fun ad n cap e hn hp=>by
 have:=(Ck h.2 ad.block (by rw[e];rfl)).1;have:=hP _ hp;omega
def IJ(X:XSt)(g:Nat)(D:List (Int × Int)):XSt:={ X with call:=putG X.call g D,put:=Fj (Fj X.put ((Ci g:Int)+1)) (Ci g:Int) }
theorem og(S:List Int)(n:Int):(Fj S n).length<=S.length+1:=by unfold Fj;split <;> simp
theorem Qi{X:XSt}{n:Int}{l:List Int}(hw:X.wi=r)(h0:0<=n)(h1:n<X.is.length)(hl:l.length=256)(hp:X.put.length<37):kY X n l=(0,{ X with call:=X.call.set n.toNat l,put:=Fj X.put n }):=by
 unfold kY;rw[AE (by rw[hw];decide),AE (by omega),AE (by omega)]
theorem YL{v:Aq}(h:SInv w P d p X)(hw:X.wi=r)(hp0:X.put.length<=35)(hlen:X.is.length=64*k)(h12:k<=12){g:Nat}(hg:g<k)(hs:OwSl w v D)(ha:F5 D=r):
 AA Ae 220 #[p,J U g,v] w fun e w'=>e=Ag (J U 0)/\∃ P',SInv w' P' d p (IJ X g D)/\Chg P P' w w':=by
 have hin:=JL hg;have hlt:=h.lt;have KP:=vJ (Zo hs ha);have KD:Hid (∀ W:Ah,At w.heap.size w W->AA Ae 245 #[J U g,v] W fun e w'=>∃ u,e=Ag (AO #[u,J U 0])/\OB w' W.heap.size u (GI g (CQ D 64))/\At W.heap.size W w'):=vJ fun W hb=>TJ (hs.below hb) (g:Int) (by omega) (by omega) ha
 have KGd:=vJ (fun(W:Ah)=>Ma (g:Int) W);have KGo:=vJ (fun(W:Ah)=>Kz (g:Int) W);rw[UF (show g<12 by omega)] at KGd;rw[Yw (show g<12 by omega)] at KGo;have hD:=Jt ha;have e1:((Ci g:Int)+1).toNat=Ci g+1:=by omega
 have x1:=Qi (X:=X) (n:=(Ci g:Int)+1) (l:=D3 D) hw (by omega) (by omega) (JQ hD) (by omega);rw[e1] at x1;have x2:=Qi (X:={ X with call:=X.call.set (Ci g+1) (D3 D),put:=Fj X.put ((Ci g:Int)+1) }) (n:=(Ci g:Int)) (l:=GI g (CQ D 64)) hw (by omega) (by show _<(X.is.length:Int);omega) (by rw[GI];exact Dt _ (by rw[N7 _ _ (EZ _ _)];decide)) (by show(Fj X.put ((Ci g:Int)+1)).length<37;have:=og X.put ((Ci g:Int)+1);omega);have KS1:Hid (∀ (W:Ah) (u:Aq),At w.heap.size w W->BSl W u (D3 D)->AA Ae 85 #[p,J U ((Ci g:Int)+1),u] W fun e w'=>e=Ag (J U 0)/\∃ P',SInv w' P' d p { X with call:=X.call.set (Ci g+1) (D3 D),put:=Fj X.put ((Ci g:Int)+1) }/\Chg P P' W w'):=vJ fun W u hb hu=>by
  have:=NL (h.low hb) hu (n:=(Ci g:Int)+1) (by omega) (by rw[e1];exact hin.2.2);rw[x1] at this;exact this
 have KS2:Hid (∀ (W:Ah) (u:Aq) (P2:Nat->Prop),SInv W P2 d p { X with call:=X.call.set (Ci g+1) (D3 D),put:=Fj X.put ((Ci g:Int)+1) }->BSl W u (GI g (CQ D 64))->AA Ae 85 #[p,J U (Ci g:Nat),u] W fun e w'=>e=Ag (J U 0)/\∃ P',SInv w' P' d p (IJ X g D)/\Chg P2 P' W w'):=vJ fun W u P2 h2 hu=>by
  have:=NL h2 hu (n:=(Ci g:Int)) (by omega) (by rw[B5];exact hin.2.1);rw[x2] at this;exact this
 have HLT:=vJ hlt;clear h hw hp0 hlen h12 hg hs ha hin hlt hD e1 x1 x2;go_enter Tryz.func220,Tryz.ntmps220
 go_wp2_with (first
  |(go_at_call 246;refine KP.out.mono ?_;rintro e w1 ⟨vp,rfl,hvp,hb1⟩)
  |(go_at_call 245;refine(KD.out _ hb1).mono ?_;rintro e w2 ⟨vd,rfl,hvd,hb2⟩;have hb02:=hb1.trans (hb2.mono hb1.size);have hvp2:=hvp.below hb2;have aD:=hvd.far (P:=P) (fun i hi=>AH (HLT.out i hi) hb1.size))
  |(go_at_call 239;refine(KGd.out _).mono ?_;rintro e w' ⟨rfl,rfl⟩)
  |(go_at_call 240;refine(KGo.out _).mono ?_;rintro e w' ⟨rfl,rfl⟩)
  |(go_at_call 85;(with_reducible refine(KS1.out _ _ hb02 hvp2.bsl).mono ?_);rintro e w3 ⟨rfl,P3,ib,hc3⟩;have hvd3:=(hvd.bsl.chg aD hc3).1)
  |(go_at_call 85;(with_reducible refine(KS2.out _ _ _ ib hvd3).mono ?_);rintro e w4 ⟨rfl,P4,ai,hc4⟩))
 go_ret;exact⟨rfl,P4,ai,((Chg.of_below hb02).trans hc3).trans hc4⟩
end
section
variable {w:Ah}{P:Nat->Prop}{d p:Aq}{X:XSt}{S:List Int}{N:List (List Int)}{bf:Nat}
def putI(X:XSt)(S:List Int)(N:List (List Int))(n:Nat)(x:List Int):XSt:={ X with call:=X.call.set (Dj S (n / 8)) (GG (J9 (N.set n x) (n / 8))),put:=Fj X.put (Dj S (n / 8):Nat) }
theorem OC(h:SInv w P d p X)(hw:X.wi=r)(hp:X.put.length<37)(hf:FsAt w bf p)(hT:Tab X.call S N){n:Nat}(h0:1<=n)(Bu:n<48){x:List Int}(hx:x.length=14)(IF:El x=r){W:Ah}(hb:At w.heap.size w W):
 AA Ae 42 #[Am (I ⟨bf,0,z⟩),J U n,BD (iC x).toArray] W fun e w'=>e=Ag (J U 0)/\∃ P',SInv w' P' d p (putI X S N n x)/\Chg P P' W w':=by
 have ht:n / 8<6:=by omega
 have hj:n%8<8:=by omega
 have LH:X.cur=X.call:=by unfold XSt.cur;rw[AC hw]
 have hT':Tab X.cur S N:=by rw[LH];exact hT
 have hin:=Fs hT.sf ht;have hlA:Dj S (n / 8)<X.is.length:=by have:=hT.at ht;rwa [<- LH,h.xok.curLen] at this
 have hb1:=Ay W (iO x 80);have hr1:=Aw W (iO x 80);obtain⟨w1,hw1⟩:=nm (W.alloc (iO x 80));rw[<- hw1] at hb1 hr1;have h1:W.alloc (Ar (iC x).toArray 80)=w1:=by rw[hw1];rfl
 have LG:=hb.trans (hb1.mono hb.size);have H1:=vJ h1;have HX:=vJ hx;have u1:=Tryz.underlying80;have HR1:Hid (∀ V,At w1.heap.size w1 V->V.rangeAt W.heap.size 0 (iC x)):=vJ fun V hv=>FN (BA hr1 hv)
 have KF:=vJ (Wy hx r IF);have KN:=vJ (fun(V:Ah) (hv:At w.heap.size w V)=>RN h hf hT' h0 Bu hv);have hok2:=hT.n.set n hx IF;obtain⟨rN,rO⟩:=hok2.all ht;have h14:=U4 hT.n.l14 (n / 8);have pR:=Ip hT.n.len ht;have rP:=Ip hok2.len ht;have hset:=Us N n x;obtain⟨X',hX'⟩:=nm (putI X S N n x);have hxp:=Qi (X:=X) (n:=(Dj S (n / 8):Int)) (l:=GG (J9 (N.set n x) (n / 8))) hw (by omega) (by omega) (Q6 _) hp;rw[B5,show({ X with call:=X.call.set (Dj S (n / 8)) (GG (J9 (N.set n x) (n / 8))),put:=Fj X.put (Dj S (n / 8):Nat) }:XSt)=X' from hX'.symm] at hxp;rw[<- hX'];have KP:Hid (∀ (V:Ah) (u:Aq),At w.heap.size w V->BSl V u (GG (J9 (N.set n x) (n / 8)))->AA Ae 85 #[p,J U (Dj S (n / 8):Nat),u] V fun e w'=>e=Ag (J U 0)/\∃ P',SInv w' P' d p X'/\Chg P P' V w'):=vJ fun V u hv hu=>by
  have:=NL (h.low hv) hu (n:=(Dj S (n / 8):Int)) (by omega) (by rw[B5];exact hin.2.2.2.2.1);rw[hxp] at this;exact this
 have KB:=vJ (fun(V:Ah) (hv:At w.heap.size w V)=>G8 (hf.low hv));have HBW:=vJ LG;clear hw hp hf hT hT' LH hw1 hr1 h1 hb LG hok2 hxp hX' h0 Bu h IF hin hlA hx;obtain⟨A,hA⟩:=nm (Dj S (n / 8));obtain⟨T,aB⟩:=nm (J9 N (n / 8));obtain⟨T2,sL⟩:=nm (J9 (N.set n x) (n / 8));obtain⟨j,pQ⟩:=nm (n%8);rw[<- hA] at KN KP;rw[<- aB] at KN h14 pR hset;rw[<- sL] at KP rP rN rO hset;rw[<- pQ] at KN hj hset;have ej:(j:Int)<8:=by omega
 have HJ:Hid (j<T.length):=vJ (by omega);have H14:Hid (∀ y∈T,(iC y).length=14):=vJ fun y hy=>by rw[Cx];exact h14 y hy
 have KE:=vJ (fun(V:Ah) (g:Nat) (hr:V.heap[g]? =I (Ar ((T.set j x).flatMap iC).toArray 80 (0,0)))=>WU (mE rN rP (by rw[hset];exact hr)) rO);clear hA aB sL pQ ht hj h14 rN pR rP rO hset;go_enter Tryz.func42,Tryz.ntmps42;go_upto_region 1 with(fail)
 rw[H1.out];have Pb:=HR1.out _ (AM _ _)
 go_upto_region 10 with(first
  |(with_reducible refine BK rfl 80 (.tmp 5) rfl W.heap.size 0 rfl x _ Pb u1 rfl (by rw[Hf,HX.out]) ?_)
  |(go_at_call 82;refine(KF.out _).mono ?_;rintro e w2 ⟨rfl,hb2⟩)
  |(go_at_call 77;refine(KN.out _ (HBW.out.trans (hb2.mono HBW.out.size))).mono ?_;rintro e w3 ⟨g,rfl,hg3,hr3,hb3⟩
    have hb34:=Ay w3 (Ar #[J U A,Ak (I ⟨g,0,z⟩) 8 8,J U j] 142);have hr4:(w3.alloc (Ar #[J U A,Ak (I ⟨g,0,z⟩) 8 8,J U j] 142)).heap[g]? =I (Ar (T.flatMap iC).toArray 80 (0,0)):=BA hr3 hb34;have hb14:=(hb2.trans (hb3.mono hb2.size)).trans (hb34.mono (AT hb2.size hb3.size));have Pc:=HR1.out _ hb14;have Vl:=Aw w3 (Ar #[J U A,Ak (I ⟨g,0,z⟩) 8 8,J U j] 142);have hg1:=AT hb2.size hg3;have hg3l:=(Al.1 hr3).1)
  |(with_reducible refine BK rfl 80 (.tmp 5) rfl W.heap.size 0 rfl x _ Pc u1 rfl (by rw[Hf,HX.out]) ?_)
  |(with_reducible refine Fh (f:=iC) (s:=14) rfl 80 (.tmp 27) (.tmp 26) rfl Hf g j T x 80 rfl rfl hr4 HJ.out H14.out (by rw[Cx,HX.out]) (QS _) ?_;intro w5 hw5 E3
    have hb15:=hb14.trans (hw5.below hg1);have uk:=(hw5.2.2.2.2 w3.heap.size (by omega)).trans Vl;have c50:=Az _ _ 0 _ _ _ uk;have c51:=Az _ _ 1 _ _ _ uk;have c52:=Az _ _ 2 _ _ _ uk)
  |(go_at_call 83;refine(KE.out _ _ E3).mono ?_;rintro e w6 ⟨u,rfl,hu6,hb6⟩
    have hb16:=hb15.trans (hb6.mono hb15.size);have oT:=BA uk hb6;have c60:w6.drew.cell? ⟨w3.heap.size,0,z⟩=I (J U A):=by rw[show w6.drew.cell? ⟨w3.heap.size,0,z⟩=w6.cell? ⟨w3.heap.size,0,z⟩ from rfl,Az _ _ 0 _ _ _ oT];rfl))
 have hbd:At w6.heap.size w6 w6.drew:=(AM _ _).drew;have hb17:=hb16.trans (hbd.mono hb16.size);have hu7:=hu6.bsl.below hbd;have KB7:Hid (AA Ae 84 #[Am (I ⟨bf,0,z⟩)] w6.drew fun e w'=>e=Ending.returned p/\w'=w6.drew):=vJ ((KB.out _ (HBW.out.trans (hb17.mono HBW.out.size))).mono fun e w' ⟨h1,h2⟩=>⟨h1,h2.symm⟩);have KP7:=vJ (KP.out _ _ (HBW.out.trans (hb17.mono HBW.out.size)) hu7);have HB7:=vJ (hb1.trans (hb17.mono hb1.size));clear Pb Pc hr3 hr4 E3 Vl uk oT c50 c51 c52;refine wp_region_still_tail 5 (by kernel_rfl) (by kernel_rfl) ?_;simp only[List.take_succ_cons,List.take_zero,List.drop_succ_cons,CP]
 repeat still_step
 still_call KB7.out
 repeat still_step
 refine wpStill_nil ?_;change Cn _ _ _ _ _ w6.drew;go_wp2_with (go_at_call 85;refine KP7.out.mono ?_;rintro e w8 ⟨rfl,P8,hi8,hc8⟩)
 go_ret;exact⟨rfl,P8,hi8,(Chg.of_below HB7.out).trans hc8⟩
end
def Ca(N:List (List Int))(m:Nat):Int:=(N.getD m []).getD 0 0
end
section
open Go.RowKit
theorem ed{L:List Int}(hL:L.length=12)(hT:TD L)(w:Ah):
 AA Ae 199 #[Gy L] w fun e w'=>e=Ag (J U (We L))/\At w.heap.size w w':=by
 have h0:D7 L=AI\/D7 L=r:=by cases D7 L <;> simp
 have KF:∀ B,D7 L=B->_:=fun B h=>RB hL hT B h
 have hr:We L=if D7 L=r then (if num L 1=2 then num L 2 else num L 0) else 0:=rfl
 have hob:=Ay w (Cd L 149);have hh:=Aw w (Cd L 149);obtain⟨W1,hW1⟩:=nm (w.alloc (Cd L 149));rw[<- hW1] at hob hh
 match L,hL with
 |[b,st,tg,cu,io,ba,t0,t1,t2,t3,t4,t5],_=>
  have M6:w.alloc (Ar #[J U b,J U st,J U tg,J U cu,J U io,J U ba,J U t0,J U t1,J U t2,J U t3,J U t4,J U t5] 149)=W1:=by rw[hW1];rfl
  have H2:=vJ M6;have HH:=vJ hh;change We [b,st,tg,cu,io,ba,t0,t1,t2,t3,t4,t5]=if D7 [b,st,tg,cu,io,ba,t0,t1,t2,t3,t4,t5]=r then (if st=2 then tg else b) else 0 at hr
  show AA Ae 199 #[BD #[J U b,J U st,J U tg,J U cu,J U io,J U ba,J U t0,J U t1,J U t2,J U t3,J U t4,J U t5]] w fun e w'=>e=Ag (J U (We _))/\At w.heap.size w w'
  rw[hr];rcases h0 with h0|h0
  . rw[h0]
    have K0:Hid (∀ w,AA Ae 195 #[BD #[J U b,J U st,J U tg,J U cu,J U io,J U ba,J U t0,J U t1,J U t2,J U t3,J U t4,J U t5]] w fun e w'=>e=Ag (A1 AI)/\At w.heap.size w w'):=vJ (KF _ h0);clear KF hr h0 hW1 M6 hT hh;go_enter Tryz.func199,Tryz.ntmps199;go_wp2_with (first|(go_at_call 195;rw[H2.out];refine(K0.out _).mono ?_;rintro e w2 ⟨rfl,hb2⟩))
    go_ret;exact⟨rfl,hob.trans (hb2.mono hob.size)⟩
  . rw[h0]
    have K0:Hid (∀ w,AA Ae 195 #[BD #[J U b,J U st,J U tg,J U cu,J U io,J U ba,J U t0,J U t1,J U t2,J U t3,J U t4,J U t5]] w fun e w'=>e=Ag (A1 r)/\At w.heap.size w w'):=vJ (KF _ h0);clear KF hr h0 hW1 M6 hT hh;by_cases h2:st=2
    . rw[AC rfl,AC h2]
      have h2':(st==2)=r:=(by simp[h2]);clear h2;go_enter Tryz.func199,Tryz.ntmps199;go_wp2_with (first|(go_at_call 195;rw[H2.out];refine(K0.out _).mono ?_;rintro e w2 ⟨rfl,hb2⟩;have hc:=Jm ((hb2.block _ (Al.1 HH.out).1).trans HH.out)))
      go_ret;exact⟨rfl,hob.trans (hb2.mono hob.size)⟩
    . rw[AC rfl,AE h2]
      have h2':(st==2)=AI:=(by simp[h2]);clear h2;go_enter Tryz.func199,Tryz.ntmps199;go_wp2_with (first|(go_at_call 195;rw[H2.out];refine(K0.out _).mono ?_;rintro e w2 ⟨rfl,hb2⟩;have hc:=Jm ((hb2.block _ (Al.1 HH.out).1).trans HH.out)))
      go_ret;exact⟨rfl,hob.trans (hb2.mono hob.size)⟩
end
section
open Go.RowKit BM
def Jk(k:Int):List Int:=[k,0,0,0,0,0,0,0,0,0,0,0,0,0]
section
variable {w:Ah}{P:Nat->Prop}{d p:Aq}{X:XSt}{S:List Int}{N:List (List Int)}{bf:Nat}
theorem gl{L:List Int}(h:L.length=12):∃ b  st  tg  cu  io  ba  t0  t1  t2  t3  t4  t5:Int,L=[b,st,tg,cu,io,ba,t0,t1,t2,t3,t4,t5]:=by
 match L,h with
 |[b,st,tg,cu,io,ba,t0,t1,t2,t3,t4,t5],_=>exact⟨b,st,tg,cu,io,ba,t0,t1,t2,t3,t4,t5,rfl⟩
theorem Rr(h:SInv w P d p X)(hf:FsAt w bf p)(hT:Tab X.cur S N)(ul:TD S){goal i j:Int}{W:Ah}(hb:At w.heap.size w W){R:Int->Int->Ah->Ah->Prop}
 (hR:∀ x E V w' b,W.heap.size<=b->b<V.heap.size->R x E V w'->w'.heap[b]? =V.heap[b]?)
 (hK:∀ V,At W.heap.size W V->AA Ae 198 #[p,J U (num S 0),J U (We S),J U goal,BD #[J .u16 i,J .u16 j]] V fun e w'=>∃ x E:Int,e=Ag (AO #[J U x,J U E])/\R x E V w'):
 AA Ae 175 #[Am (I ⟨bf,0,z⟩),J U goal,BD #[J .u16 i,J .u16 j]] W fun e w'=>∃ (x E:Int) (V:Ah),e=Ag (AO #[J U x,J U E])/\At W.heap.size W V/\R x E V w':=by
 obtain⟨o,ho⟩:=nm W.heap.size;have hb1:=Ay W (Ar #[J .u16 i,J .u16 j] 165);have hr1:=Aw W (Ar #[J .u16 i,J .u16 j] 165);obtain⟨w1,hw1⟩:=nm (W.alloc (Ar #[J .u16 i,J .u16 j] 165));rw[<- hw1] at hb1 hr1;have H1:=vJ hw1.symm;have LG:=hb.trans (hb1.mono hb.size);have KS:=vJ (MQ h hf hT LG);have KB:=vJ (fun(V:Ah) (hv:At w.heap.size w V)=>G8 (hf.low hv));have KL:=vJ (ed hT.s12 ul);have h12:=hT.s12;have HBW:=vJ LG;have HRR:=vJ hR;clear h hf hT ul hb LG hw1;obtain⟨b,st,tg,cu,io,ba,t0,t1,t2,t3,t4,t5,rfl⟩:=gl h12;obtain⟨l,hll⟩:=nm (We [b,st,tg,cu,io,ba,t0,t1,t2,t3,t4,t5]);rw[<- hll] at hK KL;have KT:Hid (∀ V,At W.heap.size W V->AA Ae 198 #[p,J U b,J U l,J U goal,BD #[J .u16 i,J .u16 j]] V fun e w'=>∃ x E:Int,e=Ag (AO #[J U x,J U E])/\R x E V w'):=vJ hK;clear hll hK hR;have KL2:Hid (∀ V:Ah,AA Ae 199 #[BD #[J U b,J U st,J U tg,J U cu,J U io,J U ba,J U t0,J U t1,J U t2,J U t3,J U t4,J U t5]] V fun e w'=>e=Ag (J U l)/\At V.heap.size V w'):=KL;have KS2:Hid (AA Ae 80 #[Am (I ⟨bf,0,z⟩)] w1 fun e w'=>e=Ending.returned (AO #[BD #[J U b,J U st,J U tg,J U cu,J U io,J U ba,J U t0,J U t1,J U t2,J U t3,J U t4,J U t5],J U 0])/\At w1.heap.size w1 w'):=KS;go_enter Tryz.func175,Tryz.ntmps175;go_upto_region 4 with(go_at_call 80;rw[H1.out];refine KS2.out.mono ?_;rintro e w2 ⟨rfl,hb2⟩)
 have hb23:=Ay w2 (Cd [b,st,tg,cu,io,ba,t0,t1,t2,t3,t4,t5] 149);have hr3:=Aw w2 (Cd [b,st,tg,cu,io,ba,t0,t1,t2,t3,t4,t5] 149);obtain⟨w3,hw3⟩:=nm (w2.alloc (Cd [b,st,tg,cu,io,ba,t0,t1,t2,t3,t4,t5] 149));rw[<- hw3] at hb23 hr3;rw[show w2.alloc (Ar #[J U b,J U st,J U tg,J U cu,J U io,J U ba,J U t0,J U t1,J U t2,J U t3,J U t4,J U t5] 149)=w3 from hw3.symm,<- ho];have pT:=AT hb1.size hb2.size;obtain⟨q,hq⟩:=nm w2.heap.size;rw[<- hq] at hr3 pT |-
 have hb13:=hb2.trans (hb23.mono hb2.size);have hqo:W.heap.size<=q/\q<w3.heap.size:=⟨pT,(Al.1 hr3).1⟩;have hol:W.heap.size<w3.heap.size:=Nat.lt_of_le_of_lt hqo.1 hqo.2;have HFACT:Hid (∀ V:Ah,V.heap[q]? =w3.heap[q]? ->V.heap[o]? =w3.heap[o]? ->((V.cell? ⟨q,0,z⟩=I (J U b)/\V.cell? ⟨q,1,z⟩=I (J U st)/\V.cell? ⟨q,2,z⟩=I (J U tg)/\V.cell? ⟨q,3,z⟩=I (J U cu))/\(V.cell? ⟨q,4,z⟩=I (J U io)/\V.cell? ⟨q,5,z⟩=I (J U ba)/\V.cell? ⟨q,6,z⟩=I (J U t0)/\V.cell? ⟨q,7,z⟩=I (J U t1))/\V.cell? ⟨q,8,z⟩=I (J U t2)/\V.cell? ⟨q,9,z⟩=I (J U t3)/\V.cell? ⟨q,10,z⟩=I (J U t4)/\V.cell? ⟨q,11,z⟩=I (J U t5))/\V.cell? ⟨o,0,z⟩=I (J .u16 i)/\V.cell? ⟨o,1,z⟩=I (J .u16 j)):=vJ fun V e1 e2=>by
  have ho3:V.heap[o]? =I (Ar #[J .u16 i,J .u16 j] 165 (0,0)):=by rw[e2,ho,hb13.block _ (Al.1 hr1).1];exact hr1
  exact⟨Jm (e1.trans hr3),Az _ _ _ _ _ _ ho3,Az _ _ _ _ _ _ ho3⟩
 have HQ:Hid (W.heap.size<=q/\q<w3.heap.size/\o=W.heap.size/\o<w3.heap.size):=vJ ⟨hqo.1,hqo.2,ho,by rw[ho];exact hol⟩;have HW3:Hid (At W.heap.size W w3):=vJ (hb1.trans (hb13.mono hb1.size));have HB3:Hid (At w.heap.size w w3):=vJ (HBW.out.trans (hb13.mono HBW.out.size));have STEP:Hid (∀ V V':Ah,At w3.heap.size w3 V->At V.heap.size V V'->At w3.heap.size w3 V'/\((V'.cell? ⟨q,0,z⟩=I (J U b)/\V'.cell? ⟨q,1,z⟩=I (J U st)/\V'.cell? ⟨q,2,z⟩=I (J U tg)/\V'.cell? ⟨q,3,z⟩=I (J U cu))/\(V'.cell? ⟨q,4,z⟩=I (J U io)/\V'.cell? ⟨q,5,z⟩=I (J U ba)/\V'.cell? ⟨q,6,z⟩=I (J U t0)/\V'.cell? ⟨q,7,z⟩=I (J U t1))/\V'.cell? ⟨q,8,z⟩=I (J U t2)/\V'.cell? ⟨q,9,z⟩=I (J U t3)/\V'.cell? ⟨q,10,z⟩=I (J U t4)/\V'.cell? ⟨q,11,z⟩=I (J U t5))/\V'.cell? ⟨o,0,z⟩=I (J .u16 i)/\V'.cell? ⟨o,1,z⟩=I (J .u16 j)):=vJ fun V V' h1 h2=>by
  have h3:=h1.trans (h2.mono h1.size);exact⟨h3,HFACT.out _ (h3.block _ HQ.out.2.1) (h3.block _ HQ.out.2.2.2)⟩
 have hd0:At w3.heap.size w3 w3.drew:=(AM _ _).drew;have s0:=(STEP.out _ _ (AM _ _) hd0).2;clear hr1 hb2 hb23 hr3 hw3 hb13 hqo hol pT hq ho KL KS KS2 hb1
 go_region_held3 (fun V=>((V.cell? ⟨q,0,z⟩=I (J U b)/\V.cell? ⟨q,1,z⟩=I (J U st)/\V.cell? ⟨q,2,z⟩=I (J U tg)/\V.cell? ⟨q,3,z⟩=I (J U cu))/\(V.cell? ⟨q,4,z⟩=I (J U io)/\V.cell? ⟨q,5,z⟩=I (J U ba)/\V.cell? ⟨q,6,z⟩=I (J U t0)/\V.cell? ⟨q,7,z⟩=I (J U t1))/\V.cell? ⟨q,8,z⟩=I (J U t2)/\V.cell? ⟨q,9,z⟩=I (J U t3)/\V.cell? ⟨q,10,z⟩=I (J U t4)/\V.cell? ⟨q,11,z⟩=I (J U t5))/\V.cell? ⟨o,0,z⟩=I (J .u16 i)/\V.cell? ⟨o,1,z⟩=I (J .u16 j)) (first|exact s0|exact s5|exact s8) (first
  |(go_at_call 84;(with_reducible refine(KB.out _ (HB3.out.trans (hd0.mono HB3.out.size))).mono ?_);rintro e w' ⟨rfl,rfl⟩)
  |(go_at_call 199;refine(KL2.out _).mono ?_;rintro e w5 ⟨rfl,hu5⟩;obtain⟨hb5,s5⟩:=STEP.out _ _ hd0 hu5;clear hu5)
  |(go_at_call 84;(with_reducible refine(KB.out _ (HB3.out.trans (hb5.mono HB3.out.size))).mono ?_);rintro e w' ⟨rfl,rfl⟩)
  |(go_at_call 198;(with_reducible refine(KT.out _ (HW3.out.trans (hb5.mono HW3.out.size))).mono ?_);rintro e w8 ⟨x,E,rfl,ie⟩
    have s8:=HFACT.out w8 ((HRR.out _ _ _ _ _ HQ.out.1 (AH HQ.out.2.1 hb5.size) ie).trans (hb5.block _ HQ.out.2.1)) ((HRR.out _ _ _ _ _ (Nat.le_of_eq HQ.out.2.2.1.symm) (AH HQ.out.2.2.2 hb5.size) ie).trans (hb5.block _ HQ.out.2.2.2))))
 all_goals (go_wp2_with fail;go_ret2;exact⟨x,E,w5,rfl,HW3.out.trans (hb5.mono HW3.out.size),ie⟩)
end
def BJ(x F:List Int)(i:Nat):Int:=if i<10 then num x (3+i) else if i=138 then num x 13 else num F (i-10)
def IP(i:Nat):Int:=if i=138 then 65535 else (i:Int)
theorem iV{i:Nat}(h:i<139):0<=IP i/\IP i<=65535:=by unfold IP;split <;> omega
def OwAt(O:List (Int × Int))(kk:Nat)(v:Int)(o:Int × Int):Prop:=(0<v/\v<64*(kk:Int))/\CJ v=AI/\O.getD v.toNat (0,0)=o
theorem OwAt.ne{O:List (Int × Int)}{kk:Nat}{v u:Int}{o q:Int × Int}(h:OwAt O kk v o)(k:OwAt O kk u q)(hne:o≠q):v≠u:=fun e=>hne (by rw[<- h.2.2,<- k.2.2,e])
theorem OwAt.set{O:List (Int × Int)}{kk:Nat}{v:Int}{o:Int × Int}(h:OwAt O kk v o){f:Nat}(q:Int × Int)(hne:v.toNat≠f):OwAt (O.set f q) kk v o:=
 ⟨h.1,h.2.1,by rw[BE _ _ _ hne];exact h.2.2⟩
theorem CA{x:List Int}{a:Nat}(ha:a<x.length)(v:Int)(b:Nat):num (x.set a v) b=if b=a then v else num x b:=by
 unfold num;exact getD_set _ _ _ _ _ ha
def I5(f:Nat->Int):Nat->Nat
 |0=>0
 |k+1=>I5 f k+if f k≠0 then 1 else 0
theorem LX{f g:Nat->Int}:∀ k,(∀ i,i<k->(f i≠0 ↔ g i≠0))->I5 f k=I5 g k
 |0,_=>rfl
 |k+1,h=>by
  rw[I5,I5,LX k fun i hi=>h i (by omega)];have:=h k (by omega);by_cases e:f k=0 <;> by_cases e':g k=0 <;> simp_all
theorem LM{f g:Nat->Int}{i:Nat}(h0:f i=0)(h1:g i≠0):∀ k,i<k->(∀ j,j<k->j≠i->(f j≠0 ↔ g j≠0))->I5 g k=I5 f k+1
 |0,h,_=>absurd h (A8 _)
 |k+1,h,ho=>by
  rw[I5,I5];by_cases e:i=k
  . subst e
    rw[LX (f:=g) (g:=f) i fun j hj=>(ho j (by omega) (by omega)).symm,AC h1,AE (by simp[h0])]
  . rw[LM h0 h1 k (by omega) fun j hj=>ho j (by omega)]
    have:=ho k (by omega) (fun e'=>e e'.symm);by_cases a:f k=0 <;> by_cases b:g k=0 <;> simp_all <;> omega
def IZ(x F:List Int):Nat:=I5 (BJ x F) 139
structure Fils (Ex:Nat->Nat->Prop) (G:List (List Int)) (S:List Int) (N:List (List Int)) (O:List (Int × Int)) (kk:Nat) (F:Nat->List Int):Prop where
 fl:∀ n,(F n).length=128/\FP (F n)=r
 m0:∀ n,1<=n->n<48->num (N.getD n []) 13=0->F n=AD 128 0
 m1:∀ n,1<=n->n<48->num (N.getD n []) 13≠0->G.getD (num (N.getD n []) 13).toNat []=FO (F n)
 ow:∀ n i,1<=n->n<48->i<139->¬ Ex n i->BJ (N.getD n []) (F n) i≠0->OwAt O kk (BJ (N.getD n []) (F n) i) ((n:Int),IP i)
 tb:∀ t,t<6->O.getD (Dj S t) (0,0)=(65534,(t:Int))
def D8:Nat->Nat->Prop:=fun _ _=>False
section
variable {Ex:Nat->Nat->Prop}{G:List (List Int)}{S:List Int}{N:List (List Int)}{O:List (Int × Int)}{kk:Nat}{F:Nat->List Int}
theorem jg(x F:List Int):BJ x F 138=num x 13:=rfl
theorem Fils.map(h:Fils Ex G S N O kk F){n:Nat}(h1:1<=n)(Bu:n<48)(hE:¬ Ex n 138)(hm:num (N.getD n []) 13≠0):OwAt O kk (num (N.getD n []) 13) ((n:Int),65535):=h.ow n 138 h1 Bu (by decide) hE hm
theorem MI{i j:Int}(hi:i≠0){v:Int}(h:OwAt O kk v (i,j)):CU O v.toNat=AI:=by
 unfold CU;rw[h.2.2];exact AG hi
theorem Fils.take(h:Fils D8 G S N O kk F){f:Nat}(hf:CU O f=r)(hk:f<64*kk)(h12:kk<=12)(q:Int × Int):Fils D8 (putG G (f / 64) (Fa (O.set f q) (f / 64))) S N (O.set f q) kk F:=by
 have hne:∀ {i j v:Int},i≠0->OwAt O kk v (i,j)->v.toNat≠f:=fun hi hv e=>by
  have:=MI hi hv;rw[e,hf] at this;cases this
 refine⟨h.fl,h.m0,fun n h1 Bu hm=>?_,fun n i h1 Bu hi hE hl=>?_,fun t ht=>?_⟩
 . have ho:=h.map h1 Bu id hm
   have hx:=Ks (show f / 64<12 by omega);have e0:(((num (N.getD n []) 13).toNat:Nat):Int)=num (N.getD n []) 13:=(by have:=ho.1;omega);have a1:(num (N.getD n []) 13).toNat≠Ci (f / 64):=fun e=>by
    have:=ho.2.1;rw[<- e0,e,hx.1] at this;cases this
   have a2:(num (N.getD n []) 13).toNat≠Ci (f / 64)+1:=fun e=>by
    have:=ho.2.1;rw[<- e0,e,hx.2.1] at this;cases this
   unfold Go.Proofs.YtdefiimcmecnnaaGreat.putG;rw[BE _ _ _ a1,BE _ _ _ a2];exact h.m1 n h1 Bu hm
 . have ho:=h.ow n i h1 Bu hi hE hl
   exact ho.set q (hne (by omega) ho)
 . rw[BE _ _ _ fun e=>?_]
   . exact h.tb t ht
   . have:=h.tb t ht
     rw[e] at this;unfold CU at hf;rw[this] at hf;cases A7 hf
theorem Fils.data(h:Fils Ex G S N O kk F){f:Nat}(hf:∀ n,1<=n->n<48->num (N.getD n []) 13≠0->(num (N.getD n []) 13).toNat≠f)(Z:List Int):Fils Ex (G.set f Z) S N O kk F:=
 ⟨h.fl,h.m0,fun n h1 Bu hm=>by rw[BE _ _ _ (hf n h1 Bu hm)];exact h.m1 n h1 Bu hm,h.ow,h.tb⟩
theorem D5{N:List (List Int)}{n:Nat}(hn:n<N.length)(y:List Int)(m:Nat):(N.set n y).getD m []=if m=n then y else N.getD m []:=getD_set _ _ _ _ _ hn
theorem Fils.node(h:Fils Ex G S N O kk F){n:Nat}(h1:1<=n)(Bu:n<48)(hl:N.length=48){y:List Int}(hE:∀ a b,Ex a b->a=n)
 (FH:num y 13=0->F n=AD 128 0) (hm1:num y 13≠0->G.getD (num y 13).toNat []=FO (F n))
 (pU:∀ i,i<139->BJ y (F n) i≠0->OwAt O kk (BJ y (F n) i) ((n:Int),IP i)) (E:List Int):Fils D8 (G.set (Dj S (n / 8)) E) S (N.set n y) O kk F:=by
 have hn:n<N.length:=by omega
 have oU:=h.tb (n / 8) (by omega);have hne:∀ {v i j:Int},i<48->OwAt O kk v (i,j)->v.toNat≠Dj S (n / 8):=fun hi ho e=>by
  have:=ho.2.2;rw[e,oU] at this;have:=(Dx this).1;omega
 refine⟨h.fl,fun m k1 k48=>?_,fun m k1 k48=>?_,fun m i k1 k48 hi _=>?_,h.tb⟩
 . rw[D5 hn];split
   . next e=>rw[e];exact FH
   . exact h.m0 m k1 k48
 . rw[D5 hn];split
   . next e=>rw[e];exact fun hz=>by rw[BE _ _ _ (show(num y 13).toNat≠Dj S (n / 8) from hne (by omega) (pU 138 (by decide) hz))];exact hm1 hz
   . next e=>exact fun hz=>by rw[BE _ _ _ (hne (by omega) (h.map k1 k48 (fun hx=>e (hE _ _ hx)) hz))];exact h.m1 m k1 k48 hz
 . rw[D5 hn];split
   . next e=>rw[e];exact pU i hi
   . next e=>exact h.ow m i k1 k48 hi fun hx=>e (hE _ _ hx)
def setF(F:Nat->List Int)(n:Nat)(L:List Int):Nat->List Int:=fun a=>if a=n then L else F a
theorem JX(F:Nat->List Int)(n:Nat)(L:List Int):setF F n L n=L:=AC rfl
theorem bz(F:Nat->List Int){n m:Nat}(h:m≠n)(L:List Int):setF F n L m=F m:=AE h
theorem Fils.far(h:Fils Ex G S N O kk F){n:Nat}(h1:1<=n)(Bu:n<48){m:Nat}(hm:num (N.getD n []) 13=(m:Int))(FH:m≠0)(hmE:¬ Ex n 138)(hG:m<G.length){L:List Int}(hL:L.length=128)(hf:FP L=r)(hE:∀ a b,Ex a b->a=n)
 (pU:∀ i,10<=i->i<138->num L (i-10)≠0->OwAt O kk (num L (i-10)) ((n:Int),IP i)) (hEd:∀ i,i<10->¬ Ex n i):Fils D8 (G.set m (FO L)) S N O kk (setF F n L):=by
 have hz:num (N.getD n []) 13≠0:=by rw[hm];omega
 have hmo:=h.map h1 Bu hmE hz;refine⟨fun a=>?_,fun a k1 k48=>?_,fun a k1 k48=>?_,fun a i k1 k48 hi _=>?_,h.tb⟩
 . unfold setF;split
   . exact⟨hL,hf⟩
   . exact h.fl a
 . unfold setF;split
   . next e=>rw[e];exact fun h=>absurd h hz
   . exact h.m0 a k1 k48
 . unfold setF;split
   . next e=>rw[e,hm,B5];exact fun _=>by rw[getD_set _ _ _ _ _ hG,AC rfl]
   . next e=>
      intro ha;have ho:=h.map k1 k48 (fun hx=>e (hE _ _ hx)) ha;rw[BE _ _ _ fun e2=>?_]
      . exact h.m1 a k1 k48 ha
      . refine ho.ne hmo (fun e3=>?_) (by have:=ho.1;rw[hm];omega)
        have:=(Dx e3).1;omega
 . unfold setF;split
   . next e=>
     rw[e];intro hl;by_cases c:i<10
     . have e1:BJ (N.getD n []) L i=BJ (N.getD n []) (F n) i:=by unfold BJ;rw[AC c,AC c]
       rw[e1] at hl |-
       exact h.ow n i h1 Bu hi (hEd i c) hl
     . by_cases c2:i=138
       . subst c2;exact hmo
       . have e1:BJ (N.getD n []) L i=num L (i-10):=by unfold BJ;rw[AE c,AE c2]
         rw[e1] at hl |-
         exact pU i (by omega) (by omega) hl
   . next e=>exact h.ow a i k1 k48 hi fun hx=>e (hE _ _ hx)
end
def DataK(O O':List (Int × Int))(G G':List (List Int)):Prop:=∀ v:Nat,1<=(O'.getD v (0,0)).1->(O'.getD v (0,0)).1<48->(O'.getD v (0,0)).2≠65535->O.getD v (0,0)=O'.getD v (0,0)->G'.getD v []=G.getD v []
def Less(O O':List (Int × Int)):Prop:=∀ v:Nat,O'.getD v (0,0)=O.getD v (0,0)\/O'.getD v (0,0)=(0,0)
theorem Less.refl(O:List (Int × Int)):Less O O:=fun _=>AN rfl
theorem DataK.less{A B C:List (Int × Int)}{G G' G'':List (List Int)}(h:DataK A B G G')(k:DataK B C G' G'')(l:Less B C):DataK A C G G'':=fun v a b c e=>by
 have eb:B.getD v (0,0)=C.getD v (0,0):=by
  rcases l v with h1|h1
  . exact h1.symm
  . rw[h1] at a;cases a
 rw[k v a b c eb,h v (by rw[eb];exact a) (by rw[eb];exact b) (by rw[eb];exact c) (by rw[e,eb])]
def Ga(M:Nat->Option (List Int))(i:Nat):List Int:=(M i).getD z256
def E7(M:Nat->Option (List Int))(i:Nat)(l:List Int):Nat->Option (List Int):=fun j=>if j=i then I l else M j
def wr1(M:Nat->Option (List Int))(a:Nat)(v:Int):Nat->Option (List Int):=E7 M (a / 256) ((Ga M (a / 256)).set (a%256) v)
def wrL:(Nat->Option (List Int))->Nat->List Int->(Nat->Option (List Int))
 |M,_,[]=>M
 |M,a,v :: l=>wrL (wr1 M a v) (a+1) l
def Vr(M:Nat->Option (List Int))(j:Nat):Int:=(Ga M (j / 256)).getD (j%256) 0
def Md(M:Nat->Option (List Int))(a n:Nat):List Int:=(Co n).map fun i=>Vr M (a+i)
structure OkB (M:Nat->Option (List Int)):Prop where
 len:∀ i l,M i=I l->l.length=256
 byt:∀ i l,M i=I l->FJ l
theorem QD:z256.length=256:=A4
theorem R9:FJ z256:=CW 256
section
variable {M:Nat->Option (List Int)}
theorem OkB.blk(h:OkB M)(i:Nat):(Ga M i).length=256/\FJ (Ga M i):=by
 unfold Ga;cases e:M i
 . exact⟨QD,R9⟩
 . exact⟨h.len i _ e,h.byt i _ e⟩
theorem OkB.upd(h:OkB M)(i:Nat){l:List Int}(hl:l.length=256)(hb:FJ l):OkB (E7 M i l):=by
 constructor
 . intro j m e
   unfold E7 at e;split at e
   . cases e;exact hl
   . exact h.len j m e
 . intro j m e
   unfold E7 at e;split at e
   . cases e;exact hb
   . exact h.byt j m e
theorem ng{l:List Int}(h:FJ l)(i:Nat){v:Int}(hv:0<=v/\v<=255):FJ (l.set i v):=CE fun x hx=>by
 rcases Dr hx with h1|h1
 . exact CZ h x h1
 . rw[h1];exact hv
theorem OkB.wr1(h:OkB M)(a:Nat){v:Int}(hv:0<=v/\v<=255):OkB (wr1 M a v):=h.upd _ (by rw[AJ];exact(h.blk _).1) (ng (h.blk _).2 _ hv)
theorem Jr{v:Int}{l:List Int}(h:FJ (v :: l)):(0<=v/\v<=255)/\FJ l:=⟨CZ h v B7,CE fun x hx=>CZ h x (CC _ hx)⟩
theorem OkB.wrL:∀ {M:Nat->Option (List Int)} (l:List Int) (a:Nat),OkB M->FJ l->OkB (wrL M a l)
 |_,[],_,h,_=>h
 |_,v :: l,a,h,hb=>OkB.wrL l (a+1) (h.wr1 a (Jr hb).1) (Jr hb).2
theorem Hs(M:Nat->Option (List Int))(i:Nat)(l:List Int):E7 M i l i=I l:=AC rfl
theorem FW(M:Nat->Option (List Int)){i j:Nat}(h:j≠i)(l:List Int):E7 M i l j=M j:=AE h
theorem U9(M:Nat->Option (List Int))(i j:Nat)(l:List Int):Ga (E7 M i l) j=if j=i then l else Ga M j:=by
 unfold Ga E7;by_cases e:j=i
 . rw[AC e,AC e];rfl
 . rw[AE e,AE e]
theorem MH:∀ (l m:List Int) (M:Nat->Option (List Int)) (a:Nat),wrL M a (l ++ m)=wrL (wrL M a l) (a+l.length) m
 |[],m,M,a=>rfl
 |v :: l,m,M,a=>by
  show wrL (Go.Proofs.YtdefiimcmecnnaaGreat.wr1 M a v) (a+1) (l ++ m)=_
  rw[MH l m,Ch,show a+(l.length+1)=a+1+l.length by omega];rfl
theorem Xn(M:Nat->Option (List Int))(i:Nat)(l m:List Int):E7 (E7 M i l) i m=E7 M i m:=by
 funext j;unfold E7;by_cases e:j=i
 . rw[AC e,AC e]
 . rw[AE e,AE e,AE e]
theorem TB:∀ (l:List Int) (M:Nat->Option (List Int)) (a i o:Nat),0<l.length->a=256*i+o->o+l.length<=256->OkB M->FJ l->wrL M a l=E7 M i (splice (Ga M i) o l)
 |[],_,_,_,_,h,_,_,_,_=>absurd h (Nat.lt_irrefl 0)
 |v :: l,M,a,i,o,_,ha,ho,hk,hb=>by
  have hd:a / 256=i:=by omega
  have hm:a%256=o:=by omega
  rw[Ch] at ho;have hw:Go.Proofs.YtdefiimcmecnnaaGreat.wr1 M a v=E7 M i ((Ga M i).set o v):=by unfold Go.Proofs.YtdefiimcmecnnaaGreat.wr1;rw[hd,hm]
  have hlen:=(hk.blk i).1;show wrL (Go.Proofs.YtdefiimcmecnnaaGreat.wr1 M a v) (a+1) l=_
  have XD:splice (Ga M i) o (v :: l)=splice ((Ga M i).set o v) (o+1) l:=by
   unfold splice;rw[Ch,List.take_set,List.drop_set_of_lt (by omega),show o+(l.length+1)=o+1+l.length by omega];have e:(Ga M i).take (o+1)=(Ga M i).take o ++ [(Ga M i)[o]'(by omega)]:=Bn (by omega);rw[e,List.set_append_right _ _ (by rw[AK];omega)];simp[DF (show o<=(Ga M i).length by omega)]
  by_cases h0:l.length=0
  . have:l=[]:=Bb h0
    subst this;rw[hw];show E7 M i _=_
    rw[XD];congr 1;unfold splice;simp
  . rw[TB l _ (a+1) i (o+1) (by omega) (by omega) (by omega) (hk.wr1 a (Jr hb).1) (Jr hb).2,hw,Xn,U9,AC rfl,XD]
theorem mK(h:OkB M)(a:Nat)(v:Int)(j:Nat):Vr (Go.Proofs.YtdefiimcmecnnaaGreat.wr1 M a v) j=if j=a then v else Vr M j:=by
 unfold Vr Go.Proofs.YtdefiimcmecnnaaGreat.wr1;rw[U9];have hl:=(h.blk (a / 256)).1;by_cases e:j=a
 . rw[AC e,e,AC rfl,getD_set _ _ _ _ _ (by omega),AC rfl]
 . rw[AE e]
   by_cases e2:j / 256=a / 256
   . rw[AC e2,getD_set _ _ _ _ _ (by omega),AE (by omega),e2]
   . rw[AE e2]
theorem b_:∀ (l:List Int) (M:Nat->Option (List Int)) (a:Nat),OkB M->FJ l->∀ j,Vr (wrL M a l) j=if a<=j/\j<a+l.length then l.getD (j-a) 0 else Vr M j
 |[],M,a,_,_,j=>by rw[AE (by simp)];rfl
 |v :: l,M,a,hk,hb,j=>by
  show Vr (wrL (Go.Proofs.YtdefiimcmecnnaaGreat.wr1 M a v) (a+1) l) j=_
  rw[b_ l _ (a+1) (hk.wr1 a (Jr hb).1) (Jr hb).2,mK hk,Ch];by_cases e:j=a
  . subst e
    rw[AE (by omega),AC rfl,AC (by omega),Nat.sub_self];rfl
  . by_cases c:a+1<=j/\j<a+1+l.length
    . rw[AC c,AC (by omega),show j-a=j-(a+1)+1 by omega];rfl
    . rw[AE c,AE e,AE (by omega)]
theorem Ek(M:Nat->Option (List Int))(a n:Nat):(Md M a n).length=n:=by unfold Md;rw[Bk,List.length_range]
theorem IT(M:Nat->Option (List Int))(a:Nat){n i:Nat}(h:i<n):(Md M a n).getD i 0=Vr M (a+i):=by
 unfold Md;rw[An,List.getElem?_map,List.getElem?_range h];rfl
theorem jh(M:Nat->Option (List Int))(a n m:Nat):Md M a (n+m)=Md M a n ++ Md M (a+n) m:=by
 unfold Md;rw[List.range_add,Cv,List.map_map];congr 1;apply CN;intro i _;show Vr M (a+(n+i))=Vr M (a+n+i)
 rw[D6]
theorem ea(h:OkB M){a i o n:Nat}(ha:a=256*i+o)(ho:o+n<=256):Md M a n=((Ga M i).drop o).take n:=by
 have hl:=(h.blk i).1;apply Bi
 . rw[Ek,AK,AU];omega
 . intro k h1 h2
   rw[Ek] at h1;have e1:=IT M a h1;rw[An,AS (by rw[Ek];exact h1)] at e1;have e2:(Md M a n)[k]'(by rw[Ek];exact h1)=Vr M (a+k):=e1;rw[e2,C7,List.getElem_drop];unfold Vr;rw[show(a+k) / 256=i by omega,show(a+k)%256=o+k by omega,An,AS (by omega)];rfl
end
def Rv(M:Nat->Option (List Int))(i:Nat):Int:=if (M i).isSome then 1 else 0
def Xk(M:Nat->Option (List Int)):Nat->Nat
 |0=>0
 |k+1=>if (M k).isSome/\10<=k then 1 else Xk M k
def DL(M:Nat->Option (List Int)):Nat:=I5 (Rv M) 138+Xk M 138
theorem keyB_ne{M:Nat->Option (List Int)}{i:Nat}:Rv M i≠0 ↔ (M i).isSome=r:=by
 unfold Rv;by_cases h:(M i).isSome=r
 . rw[AC h];exact⟨fun _=>h,fun _=>by decide⟩
 . rw[AE h];exact⟨fun e=>absurd rfl e,fun e=>absurd e h⟩
theorem Im{M:Nat->Option (List Int)}:∀ k,(∃ b:Nat,10<=b/\b<k/\(M b).isSome=r)->Xk M k=1
 |0,⟨b,_,h,_⟩=>absurd h (A8 _)
 |k+1,⟨b,h1,h2,h3⟩=>by
  unfold Xk;split
  . rfl
  . next hn=>
    refine Im k ⟨b,h1,?_,h3⟩;have:b≠k:=fun e=>hn ⟨e ▸ h3,e ▸ h1⟩
    omega
theorem H6{M:Nat->Option (List Int)}:∀ k,(¬ ∃ b:Nat,10<=b/\b<k/\(M b).isSome=r)->Xk M k=0
 |0,_=>rfl
 |k+1,h=>by
  unfold Xk;rw[AE (fun e=>h ⟨k,e.2,by omega,e.1⟩)];exact H6 k fun⟨b,h1,h2,h3⟩=>h ⟨b,h1,by omega,h3⟩
theorem S6{f g:Nat->Int}:∀ k,(∀ i,i<k->f i≠0->g i≠0)->I5 f k<=I5 g k
 |0,_=>AB _
 |k+1,h=>by
  have ih:=S6 (f:=f) (g:=g) k fun i hi=>h i (by omega)
  have:=h k (by omega);unfold I5;by_cases e:f k=0
  . rw[AE (by simp[e])];omega
  . rw[AC e,AC (this e)];omega
theorem J3{M M':Nat->Option (List Int)}(h:∀ i,i<138->(M i).isSome=r->(M' i).isSome=r):DL M<=DL M':=by
 unfold DL;have h1:=S6 (f:=Rv M) (g:=Rv M') 138 fun i hi e=>keyB_ne.2 (h i hi (keyB_ne.1 e))
 have h2:Xk M 138<=Xk M' 138:=by
  by_cases e:∃ b:Nat,10<=b/\b<138/\(M b).isSome=r
  . obtain⟨b,a1,a2,a3⟩:=e
    rw[Im 138 ⟨b,a1,a2,a3⟩,Im 138 ⟨b,a1,a2,h b a2 a3⟩];exact AB _
  . rw[H6 138 e];exact AX _
 omega
theorem PB{M M':Nat->Option (List Int)}(h:∀ i,i<138->((M i).isSome=r ↔ (M' i).isSome=r)):DL M=DL M':=
 Nat.le_antisymm (J3 fun i hi=>(h i hi).1) (J3 fun i hi=>(h i hi).2)
theorem RF:∀ (l:List Int) (M:Nat->Option (List Int)) (a:Nat) (i:Nat),(M i).isSome=r->(wrL M a l i).isSome=r
 |[],_,_,_,h=>h
 |v :: l,M,a,i,h=>RF l _ (a+1) i (by
    unfold wr1 E7;split
    . rfl
    . exact h)
section
variable {w:Ah}{P:Nat->Prop}{d p:Aq}{X:XSt}{O D:List (Int × Int)}{k:Nat}
theorem Z0{g:Nat}(h:SInv w P d p X)(hH:Has X.cur O k)(hO:OOk O k)(hg:g<k):
 AA Ae 218 #[p,J U g] w fun e w'=>∃ b cap cur,e=Ag (AO #[Ak (I ⟨b,0,z⟩) 64 cap,J U 0])/\w.heap.size<=b/\w'.heap[b]? =I (Ar cur 165 (0,0))/\cur.toList.take ((Fa O g).length*2)=FF (Fa O g)/\(Fa O g).length*2<=cur.size/\64<=cap/\cap<=maxLen/\cur.size=cap*2/\At w.heap.size w w':=by
 refine(Oz h hH hO hg).mono fun e w' ⟨b,cap,he,hb,hbl,hv,_,hbe⟩=>?_
 have hl:=FZ hO.len hg;rcases hv.2.2 with⟨e0,_⟩| ⟨g',cap',cur,ev,_,hh,Hn,LD,Hb,ht⟩
 . cases e0
 . injection ev with e1 _ e3
   injection e1 with e1
   injection e1 with e1
   subst e1;subst e3;exact⟨b,cap,cur,he,hb,hh,ht,by omega,by omega,LD,Hb,hbe⟩
theorem kK{w:Ah}{b cap:Nat}{cur:Array Aq}{D:List (Int × Int)}(hB:OwB D)(hD:D.length=64)(hh:w.heap[b]? =I (Ar cur 165 (0,0)))(ht:cur.toList.take (D.length*2)=FF D)(Qa:64<=cap)(hm:cap<=maxLen)(hs:cur.size=cap*2):OwSl w (Ak (I ⟨b,0,z⟩) 64 cap) D:=by
 have:OwR w 0 (Ak (I ⟨b,0,z⟩) 64 cap) D:=⟨hB,by rw[DN],Ba ⟨b,cap,cur,by rw[hD],AX _,hh,by omega,hm,hs,ht⟩⟩;exact this.sl
theorem SQ(h:SInv w P d p X)(hw:X.wi=r)(hp0:X.put.length<=35)(hH:Has X.call O k)(hO:OOk O k){n:Nat}(hn:n<64*k)(hx:CJ (n:Int)=AI){i j:Int}(hi:0<=i/\i<=65535)(hj:0<=j/\j<=65535)(hf:GF i j=r)(hne:i≠65535):
 AA Ae 204 #[p,J U n,BD #[J .u16 i,J .u16 j]] w fun e w'=>e=Ag (J U 0)/\∃ P',SInv w' P' d p (IJ X (n / 64) (Fa (O.set n (i,j)) (n / 64)))/\Chg P P' w w':=by
 have h12:=hO.k12;have LH:X.cur=X.call:=by unfold XSt.cur;rw[AC hw]
 have hH':Has X.cur O k:=by rw[LH];exact hH
 obtain⟨g,hg⟩:=nm (n / 64);obtain⟨t,ht⟩:=nm (n%64);have lN:g<k:=by omega
 have ht64:t<64:=by omega
 have hO2:=hO.set hn hx hi hj hf hne;have eD:Fa (O.set n (i,j)) (n / 64)=(Fa O g).set t (i,j):=by rw[hg,ht];exact Vg O n (i,j)
 obtain⟨D,hD⟩:=nm ((Fa O g).set t (i,j));rw[eD,<- hD,<- hg];obtain⟨dB,dA,_⟩:=hO2.gr (g:=n / 64) (by omega);rw[eD,<- hD] at dB dA;have gL:=FZ hO.len lN;have dL:D.length=64:=Jt dA;have hlen:X.is.length=64*k:=by
  obtain⟨_,_,_,_,_,_,_,_,_,_,_,_,_,hpl,_⟩:=h;rw[<- hpl.ok.curLen];exact hH'.len
 have KO:=vJ (TG (n:Int) (by omega) r (by unfold Ph;rw[AF (by omega),hx];rfl));have KF:=vJ (H9 i j hi hj r hf);have KG:=vJ (fun(W:Ah)=>JY (n:Int) (by omega) W);have eg:II (n:Int)=g:=by unfold II;rw[AE (by omega)];omega
 rw[eg] at KG;have hb1:=Ay w (Ar #[J .u16 i,J .u16 j] 165);have hr1:=Aw w (Ar #[J .u16 i,J .u16 j] 165);obtain⟨W1,hW1⟩:=nm (w.alloc (Ar #[J .u16 i,J .u16 j] 165));rw[<- hW1] at hb1 hr1;have SG:w.heap.size<W1.heap.size:=by rw[hW1];simp
 have KR:Hid (∀ W,At w.heap.size w W->AA Ae 218 #[p,J U g] W _):=vJ fun W hb=>Z0 (h.low hb) hH' hO lN
 have hlt:=h.lt
 have HFIN:Hid (∀ (W w':Ah) (b cap:Nat) (cur cur':Array Aq),At w.heap.size w W->w.heap.size<=b->Wrote W w' b->w'.heap[b]? =I (Ar cur' 165 (0,0))->cur'.size=cur.size->cur'.toList.take ((Fa O g).length*2)=FF ((Fa O g).set t (i,j))->64<=cap->cap<=maxLen->cur.size=cap*2->
  At w.heap.size w w'/\SInv w' P d p X/\OwSl w' (Ak (I ⟨b,0,z⟩) 64 cap) D):=vJ fun W w' b cap cur cur' hb rS hwr hh hs ht' Qa LD Hb=>by
  have hbe:=hb.trans (hwr.below rS);exact⟨hbe,h.low hbe,kK dB dL hh (by rw[dL,hD,<- ht',gL]) Qa LD (by omega)⟩
 have KW2:Hid (∀ (W:Ah) (v:Aq),SInv W P d p X->OwSl W v D->AA Ae 220 #[p,J U g,v] W fun e w'=>e=Ag (J U 0)/\∃ P',SInv w' P' d p (IJ X g D)/\Chg P P' W w'):=vJ fun W v hi hs=>YL hi hw hp0 hlen h12 lN hs dA
 have H1:=vJ hW1.symm;have HR1:=vJ hr1;have HB1:=vJ hb1;have hrem:(n:Int).tmod 64=t:=by rw[D9 (by omega)];omega
 have et:(t:Int)<64:=by omega
 have HM:Hid (w.heap.size<W1.heap.size):=vJ SG;have HTL:Hid (t<(Fa O g).length):=vJ (by omega);have rk:(i==65535)=AI:=by simpa using hne
 have cells2:Hid (∀ W,At W1.heap.size W1 W->W.cell? ⟨w.heap.size,0,z⟩=I (J .u16 i)/\W.cell? ⟨w.heap.size,1,z⟩=I (J .u16 j)):=vJ fun W hb=>by
  have hr:=BA hr1 hb;exact⟨Az _ _ _ _ _ _ hr,Az _ _ _ _ _ _ hr⟩
 clear h hw hp0 hH hO hn hx hi hj hf hne h12 LH hH' hg ht lN ht64 hO2 eD hD dB dA gL dL hlen eg hW1 hr1 hb1 SG hlt;go_enter Tryz.func204,Tryz.ntmps204
 go_wp2_with (first
  |(go_at_call 201;refine(KO.out _).mono ?_;rintro e w' ⟨rfl,rfl⟩)
  |(go_at_call 211;rw[H1.out];refine(KF.out _).mono ?_;rintro e w2 ⟨rfl,hb2⟩;obtain⟨c20,c21⟩:=cells2.out _ hb2;have hb02:=HB1.out.trans (hb2.mono (BO HM.out)))
  |(go_at_call 219;refine(KG.out _).mono ?_;rintro e w' ⟨rfl,rfl⟩)
  |(go_at_call 218;refine(KR.out _ hb02).mono ?_;rintro e w3 ⟨b,cap,cur,rfl,hbb,hg3,ht3,hs3,Qa,LD,Hb,hb3⟩;have hb13:=hb2.trans (hb3.mono hb2.size);obtain⟨c30,c31⟩:=cells2.out _ hb13;have hb03:=hb02.trans (hb3.mono hb02.size);have rS:=AT hb02.size hbb)
  |(with_reducible refine Je rfl (.tmp 38) (.tmp 37) rfl b t (Fa O g) cur i j rfl rfl hg3 ht3 hs3 HTL.out ?_;intro w4 cur4 hw4 hg4 hs4 ht4
    obtain⟨hb04,ai,ho4⟩:=HFIN.out w3 w4 b cap cur cur4 hb03 rS hw4 hg4 hs4 ht4 Qa LD Hb;clear hw4 hg4 hs4 ht4)
  |(go_at_call 220;refine(KW2.out _ _ ai ho4).mono ?_;rintro e w5 ⟨rfl,P5,hi5,TX⟩))
 go_ret;exact⟨rfl,P5,hi5,(Chg.of_below hb04).trans TX⟩
end
theorem WG{O:List (Int × Int)}:∀ L,(∀ j,j<L->CU O j=AI)->Dm O L=Kg L
 |0,_=>rfl
 |L+1,h=>by
  have ih:=WG L fun j hj=>h j (by omega)
  have h1:=h L (by omega);unfold Dm Kg;rw[ih,h1];cases CJ (L:Int) <;> simp
theorem Wl(O:List (Int × Int))(L g:Nat):(∃ k,k<L/\CU O ((g+k)%L)=r/\Hk O L g=(((g+k)%L:Nat):Int))\/(∀ k,k<L->CU O ((g+k)%L)=AI):=by
 unfold Hk;cases hf:(Co L).find? (fun k=>CU O ((g+k)%L)) with
 |some k=>exact AN ⟨k,Bo.1 (List.mem_of_find?_eq_some hf),by simpa using List.find?_some hf,rfl⟩
 |none=>
  refine Ba fun k hk=>?_
  have:=List.find?_eq_none.1 hf k (Bo.2 hk)
  simpa using this
theorem S2{O:List (Int × Int)}{k m g:Nat}(hO:OOk O k)(hm1:1<=m)(hm:m<=k)(hg:g<64*m)(hc:(Dm O (64*m):Int)<62*(m:Int)-42):∃ f:Nat,f<64*m/\Hk O (64*m) g=f/\CU O f=r/\CJ (f:Int)=AI:=by
 have h12:=hO.k12;have fixed:∀ f,f<64*k->CU O f=r->CJ (f:Int)=AI:=fun f hf hr=>by
  have h1:=hO.fx f hf;have h2:(O.getD f (0,0)).1=0:=A7 hr;rw[h2] at h1;exact h1.symm.trans (by decide)
 rcases Wl O (64*m) g with⟨i,hi,hr,e⟩|hn
 . have hl:(g+i)%(64*m)<64*m:=Gl _ (by omega)
   exact⟨_,hl,e,hr,fixed _ (by omega) hr⟩
 . have hall:∀ j,j<64*m->CU O j=AI:=fun j hj=>by
    by_cases hjg:g<=j
    . have:=hn (j-g) (by omega)
      rwa [show g+(j-g)=j by omega,C5 hj] at this
    . have:=hn (64*m-g+j) (by omega)
      rwa [show g+(64*m-g+j)=j+64*m by omega,Nat.add_mod_right,C5 hj] at this
   have:=WG _ hall;have h2:=Wr m hm1 (by omega);omega
end
section
open Go.RowKit
section
variable {P:Program}{ops:Array BS}{Q:Exit->Act->Ah->Prop}{md:Region.Mode}{S:Ah->Prop}{m:Nat}
def m8(m:Nat)(S:Ah->Prop)(L:Array Bool)(w:Ah):Prop:=L.getD m r=AI->S w
def GQ(P:Program)(md:Region.Mode)(ops:Array BS)(Q:Exit->Act->Ah->Prop)(S:Ah->Prop)(m:Nat):Nat->Array Bool->Act->Ah->Prop
 |0,L,a,w=>Region.ready md ops L=[]/\Q .normal a w
 |n+1,L,a,w=>(Region.ready md ops L=[]->Q .normal a w)/\∀ i∈Region.ready md ops L,wpOp P ops Q i (fun a' w'=>m8 m S (L.setIfInBounds i r) w'/\GQ P md ops Q S m n (L.setIfInBounds i r) a' w') a w
theorem Ej:∀ (n:Nat) (L:Array Bool) (a:Act) (w:Ah),GQ P md ops Q S m n L a w->wpAny P md ops Q n L a w
 |0,_,_,_,h=>h
 |n+1,_,_,_,h=>⟨h.1,fun i hi=>wpOp_mono (fun _ _ k=>Ej n _ _ _ k.2) (h.2 i hi)⟩
theorem kX{L:Array Bool}{i:Nat}(h:i∈Region.ready md ops L):L.getD i r=AI/\L.getD i AI=AI:=by
 have h0:=(mem_ready.1 h).1;refine⟨h0,?_⟩;rcases Nat.lt_or_ge i L.size with hl|hl
 . simp[hl] at h0 |-;exact h0
 . simp[Array.getElem?_eq_none hl] at h0
theorem QK{i:Nat}{oi om:BS}{v:Aq}(hi:ops[i]? =I oi)(hm:ops[m]? =I om)(hwt:∃ e∈om.after,Region.binds md e=r/\e.on=i)
 (rT:∀ (j:Nat) (o:BS) cs b,ops[j]? =I o->o.op≠.select cs b) (hQ:∀ c a w,Q (.panic c) (a.put oi.dst v) w->Q (.panic c) a w):
 ∀ (n:Nat) (L:Array Bool) (a:Act) (w:Ah),(∀ j oj,ops[j]? =I oj->j≠i->L.getD j r=AI->(∀ e∈oj.after,Region.binds md e=r->e.on≠i)->oi.apart ops oj=r)->
   i∈Region.ready md ops L->L.getD m r=AI->YieldsIf P ops S oi v a->S w->
   GQ P md ops Q S m n (L.setIfInBounds i r) (a.put oi.dst v) w->GQ P md ops Q S m (n+1) L a w
 |n,L,a,w,hfree,hr,hLm,hy,hS,H=>by
  refine⟨fun h=>(by rw[h] at hr;cases hr),fun j hj=>?_⟩;by_cases cD:j=i
  . subst cD
    exact hy.wpOp hi hS ⟨fun _=>hS,H⟩
  . obtain⟨uv,oj,cN,hall⟩:=mem_ready.1 hj
    have hun:=(kX hr).2;have C6:∀ e∈oj.after,Region.binds md e=r->e.on≠i:=fun e he hb Sg=>by
     have h1:=hall e he hb;rw[Sg,hun] at h1;cases h1
    have pO:j≠m:=fun e=>by
     subst e;obtain⟨e,he,hb,hei⟩:=hwt;rw[hm] at cN;obtain rfl:=Bz cN;exact C6 e he hb hei
    cases n with
    |zero=>
     have h1:=ready_mono hj cD;rw[H.1] at h1;cases h1
    |succ n=>
     have h2:=wpOp_putIf cN (hfree j oj cN cD uv C6) (fun cs b=>rT i oi cs b hi) (fun cs b=>rT j oj cs b cN) hQ hy (H.2 j (ready_mono hj cD));refine wpOp_mono (fun a' w' h3=>?_) h2;obtain⟨hy',hT,hA⟩:=h3;have him:i≠m:=fun e=>by
      subst e;obtain⟨e,he,hb,hei⟩:=hwt;obtain⟨_,o,ho,im⟩:=mem_ready.1 hr;rw[hm] at ho;obtain rfl:=Bz ho;have h1:=im e he hb;rw[hei,hun] at h1;cases h1
     have uw:(L.setIfInBounds j r).getD m r=AI:=(by rw[getD_set_ne r pO];exact hLm);rw[Array.setIfInBounds_comm _ _ (CR cD)] at hT hA;have hS':S w':=hT (by rw[getD_set_ne r him];exact uw);refine⟨fun _=>hS',QK hi hm hwt rT hQ n _ a' w' (fun k ok hk hki hku XV=>?_) (ready_mono hr (CR cD)) uw hy' hS' hA⟩;refine hfree k ok hk hki ?_ XV;by_cases hjk:j=k
     . subst hjk;exact uv
     . rw[getD_set_ne r hjk] at hku;exact hku
theorem De{i:Nat}{oi om:BS}{v:Aq}{n:Nat}{L:Array Bool}{a:Act}{w:Ah}(hi:ops[i]? =I oi)(hm:ops[m]? =I om)(hwt:om.after.any (fun e=>Region.binds md e && e.on==i)=r)
 (hs:Region.noSelect ops=r) (hf:Region.free md ops L i=r) (hr:(Region.ready md ops L).contains i=r) (hLm:L.getD m r=AI)
 (hQ:∀ c a w,Q (.panic c) (a.put oi.dst v) w->Q (.panic c) a w) (hy:YieldsIf P ops S oi v a) (hS:S w)
 (h:GQ P md ops Q S m n (L.setIfInBounds i r) (a.put oi.dst v) w):GQ P md ops Q S m (n+1) L a w:=
 QK hi hm (by
  obtain⟨e,he,hb⟩:=Array.any_eq_true'.1 hwt;simp only[AY,beq_iff_eq] at hb;exact⟨e,he,hb.1,hb.2⟩) (Region.noSelect_spec hs) hQ n L a w (Region.free_spec hi hf) (by simpa using hr) hLm hy hS h
def TillReady(P:Program)(md:Region.Mode)(ops:Array BS)(Q:Exit->Act->Ah->Prop)(S:Ah->Prop)(m n:Nat)(L:Array Bool)(a:Act)(w:Ah)(rs:List Nat):Prop:=
 ∀ i∈rs,wpOp P ops Q i (fun a' w'=>m8 m S (L.setIfInBounds i r) w'/\GQ P md ops Q S m n (L.setIfInBounds i r) a' w') a w
theorem TillReady.nil{n:Nat}{L:Array Bool}{a:Act}{w:Ah}:TillReady P md ops Q S m n L a w []:=fun _ h=>by cases h
theorem TillReady.cons{n:Nat}{L:Array Bool}{a:Act}{w:Ah}{i:Nat}{o:BS}{rs:List Nat}(ho:ops[i]? =I o)
 (h:∀ K:Act->Ah->Prop,Hid (∀ a w,m8 m S (L.setIfInBounds i r) w->GQ P md ops Q S m n (L.setIfInBounds i r) a w->K a w)->if Region.wanted o (yielded ops a.tmps)=r then BS.wp P o a w K Q else K (a.put o.dst undef) w)
 (hs:TillReady P md ops Q S m n L a w rs):TillReady P md ops Q S m n L a w (i :: rs):=fun j hj=>by
 rcases Cy.1 hj with rfl|hj
 . exact wpOp_step ho (fun K hK=>h K (fun a w hT hA=>hK a w ⟨hT,hA⟩))
 . exact hs j hj
theorem BX{rs:List Nat}{n:Nat}{L:Array Bool}{a:Act}{w:Ah}(hr:Region.ready md ops L=rs)(hne:rs≠[])(h:TillReady P md ops Q S m n L a w rs):GQ P md ops Q S m (n+1) L a w:=
 ⟨fun h0=>absurd (hr ▸ h0) hne,hr ▸ h⟩
theorem Gd{L:Array Bool}{a:Act}{w:Ah}(hr:Region.ready md ops L=[])(h:Q .normal a w):∀ n,GQ P md ops Q S m n L a w
 |0=>⟨hr,h⟩
 |_+1=>⟨fun _=>h,by rw[hr];simp⟩
end
def Gx(k:Nat)(j:Nat):Int × Int:=if CJ (j:Int)=r then (65535,0) else if 43<=j/\j<49/\j<k then (65534,(j:Int)-43) else (0,0)
def FM(k L:Nat):List (Int × Int):=(Co L).map (Gx k)
def FE(K:Nat):List (Int × Int):=FM (64*K) (64*K)
theorem CL(k L:Nat):(FM k L).length=L:=by simp[FM]
theorem F9(k L j:Nat)(h:j<L):(FM k L).getD j (0,0)=Gx k j:=by simp[FM,h]
theorem Z8(g:Nat):FM 0 (64*(g+1))=FM 0 (64*g) ++ F4 (g:Int) 64:=by
 apply Bi (by simp[FM,I4];omega);intro i h1 h2;rw[CL] at h1;rw[List.getElem_append];split
 . simp[FM]
 . next h=>
   rw[CL] at h;simp only[FM,F4,Ct,Cg,Bk,List.length_range];unfold Gx ME;have e:64*(g:Int)+((i-64*g:Nat):Int)=(i:Int):=(by omega);rw[e];cases CJ (i:Int) <;> simp
theorem NG{j:Nat}:(j<43->CJ (j:Int)=r)/\(43<=j->j<49->CJ (j:Int)=AI):=by
 unfold CJ;exact⟨fun h=>AF (by omega),fun h1 h2=>AG (by omega)⟩
theorem iY(k L:Nat)(h1:43<=k)(h2:k<49):(FM k L).set k (65534,(k:Int)-43)=FM (k+1) L:=by
 apply Bi (by simp[FM]);intro i h3 h4;simp only[FM,Cz,Ct,Cg];unfold Gx;have hf:=(NG (j:=k)).2 h1 h2;by_cases e:k=i
 . subst e;rw[AC rfl,hf];simp;omega
 . rw[AE e]
   by_cases hi:CJ (i:Int)=r
   . rw[AC hi,AC hi]
   . rw[AE hi,AE hi]
     by_cases hc:43<=i/\i<49/\i<k
     . rw[AC hc,AC (by omega)]
     . rw[AE hc,AE (by omega)]
theorem Te(k L:Nat)(h:k<43\/49<=k):FM k L=FM (k+1) L:=by
 unfold FM;apply CN;intro i _;unfold Gx;by_cases hi:CJ (i:Int)=r
 . rw[AC hi,AC hi]
 . rw[AE hi,AE hi]
   by_cases hc:43<=i/\i<49/\i<k
   . rw[AC hc,AC (by omega)]
   . rw[AE hc,AE (by omega)]
theorem Ut(k j:Nat):(0<=(Gx k j).1/\(Gx k j).1<=65535)/\(0<=(Gx k j).2/\(Gx k j).2<=65535):=by
 unfold Gx;split
 . decide
 . split
   . next h=>simp only;omega
   . decide
theorem bt{K:Nat}(h1:1<=K)(h2:K<=12):OOk (FE K) K:=by
 refine⟨CL _ _,h1,h2,Ku fun j hj=>?_,fun j hj=>?_,fun j hj=>?_⟩
 . unfold FE at hj |-
   rw[CL] at hj;rw[F9 _ _ _ hj];exact Ut _ _
 . unfold OU FE
   rw[F9 _ _ _ hj];unfold Gx;split
   . decide
   . split
     . next h=>
       obtain⟨m,hm⟩:∃ m:Nat,m=j-43:=⟨_,rfl⟩;have e:(j:Int)-43=m:=(by omega);have hm6:m<6:=(by omega);simp only[e];clear hm e h
       revert m;decide
     . decide
 . unfold FE
   rw[F9 _ _ _ hj];unfold Gx;split
   . next h=>rw[h];rfl
   . next h=>
     rw[Bool.not_eq_true] at h;rw[h];split <;> rfl
theorem PW{ops:Array BS}{o:BS}{a:Act}{w:Ah}{K:Act->Ah->Prop}{Q:Exit->Act->Ah->Prop}{E:Prop}(Dn:o.guard=z)(s x:Operand)
 (ho:o.op=.call { callee:=.builtin .append,args:=#[s,x],argTypes:=#[106,106] }) (hty:o.type=106)
 (B:Nat) (v:Aq) (O:List (Int × Int)) (hs:a.eval s=v) (hown:OwR w B v O) (hO:O.length<=1000000) (u:Aq) (D:List (Int × Int)) (hx:a.eval x=u) (hD:OwSl w u D) (hDl:0<D.length/\D.length<=1000) (hB:B<=w.heap.size)
 (h:∀ v' w',OwR w' B v' (O ++ D)->At B w w'->K (a.put o.dst v') w'):if Region.wanted o (yielded ops a.tmps)=r then BS.wp Ae o a w K Q else E:=by
 obtain⟨t,h2,h3,h4,h5⟩:=By Ue;obtain⟨b,off,cap,rfl,hb,hc⟩:=hD.at hDl.1;refine step_append_lies w Dn s x 106 ho B 165 t _ 2 4 Tryz.underlying106 h2 h3 h4 h5 rfl (by decide) v O.length (FF O) hs hown.2 ⟨b,off,z⟩ D.length cap (FF D) hx (DN D) ?_ ?_ hDl.1 (by simp only[maxLen];omega) (by omega) hB w.heap.size rfl ?_
 . intro j u hj
   have MY:j<D.length*2:=(by rw[<- DN];exact(Bj.1 hj).1);obtain⟨i,hi⟩:=nm (j / 2);obtain⟨g1,g2⟩:=Nx D i (by omega);obtain⟨k1,k2⟩:=hc i (by omega);rw[Cb];rcases FD j with e|e
   . obtain rfl:j=i*2:=by omega
     rw[g1] at hj;rw[k1,<- hj]
   . obtain rfl:j=i*2+1:=by omega
     rw[g2] at hj;rw[<- D6,k2,<- hj]
 . intro u hu
   obtain⟨j,hj⟩:=List.getElem?_of_mem hu;have MY:j<D.length*2:=(by rw[<- DN];exact(Bj.1 hj).1);obtain⟨i,hi⟩:=nm (j / 2);obtain⟨g1,g2⟩:=Nx D i (by omega);rcases FD j with e|e
   . obtain rfl:j=i*2:=by omega
     rw[g1] at hj;obtain rfl:=Bz hj;rfl
   . obtain rfl:j=i*2+1:=by omega
     rw[g2] at hj;obtain rfl:=Bz hj;rfl
 . intro g cap' w' ux hgrow _ _
   refine h _ w' ⟨Ku fun m hm=>?_,?_⟩ ((AM _ _).grown hgrow hB fun k hk=>(Ck hown.2 k hk).1)
   . by_cases e:m<O.length
     . have:=hown.1 m
       rw[An,BT e,<- An];exact this
     . have:=hD.1 (m-O.length)
       rw[An,BG (by omega),<- An];exact this
   . rw[Ax,PC];exact ux
theorem Pu(k:Nat)(h1:1<=k)(h2:k<=12)(w:Ah):AA Ae 52 #[J U (64*(k:Int))] w fun e w'=>e=Ag (J U k)/\w=w':=by
 have:=Wn (64*(k:Int)) (by omega) w;rw[show Na (64*(k:Int))=k by unfold Na;rw[AC (Ux k h1 h2)];omega] at this;exact this
def NSp(w:Ah)(b:Nat)(n:Int)(O:List (Int × Int)):Prop:=∃ v,w.heap[b]? =I (Ar #[J U n,v] 108 (0,0))/\OwR w (b+1) v O
theorem NSp.rsp{w:Ah}{b:Nat}{n:Int}{O:List (Int × Int)}(h:NSp w b n O):∃ M,RSp w M (Am (I ⟨b,0,z⟩)) n O/\∀ x,M x->b<=x:=by
 obtain⟨v,hb,ho⟩:=h;refine⟨fun x=>x=b\/v.ownBlock=I x,⟨b,v,rfl,hb,ho.more (AX _),fun k=>Iff.rfl⟩,fun x hx=>?_⟩;rcases hx with rfl|hx
 . exact AB _
 . have:=(Ck ho.2 x hx).1;omega
theorem dS{w:Ah}{b:Nat}{n:Int}{O:List (Int × Int)}{v v':Aq}(hd:w.heap[b]? =I (Ar #[J U n,v] 108 (0,0)))(ho:OwR w (b+1) v' O):
 NSp (w.setCell ⟨b,1,z⟩ v') b n O/\At b w (w.setCell ⟨b,1,z⟩ v'):=by
 have hw:=Wrote.setCell w b 1 v';refine⟨⟨v',Bs w b 1 _ _ _ hd,ho.1,Fu ho.2 fun g hg=>hw.2.2.2.2 g fun e=>?_⟩,hw.below (AB _)⟩;have:=(Ck ho.2 g hg).1;omega
theorem RSp.all{w:Ah}{M:Nat->Prop}{b:Nat}{n:Int}{O:List (Int × Int)}(h:RSp w M (Am (I ⟨b,0,z⟩)) n O)(h0:0<O.length):∃ g cap cur,w.heap[b]? =I (Ar #[J U n,Ak (I ⟨g,0,z⟩) O.length cap] 108 (0,0))/\w.heap[g]? =I (Ar cur 165 (0,0))/\cur.toList.take (O.length*2)=FF O/\O.length<=cap/\cap<=maxLen/\cur.size=cap*2/\(∀ k,M k ↔ k=b\/k=g)/\
 (∀ j,j<O.length->w.cell? ⟨g,j*2,z⟩=I (J .u16 (O.getD j (0,0)).1)/\w.cell? ⟨g,j*2+1,z⟩=I (J .u16 (O.getD j (0,0)).2)):=by
 obtain⟨bp,g,off,cap,e1,c0,c1,hc⟩:=h.cells h0;obtain⟨b',g',cap',cur,e2,hb,hg,ht,Hn,LD,Hb,hB,hM⟩:=h.row h0;obtain rfl:b=b':=by injection e2 with e;injection e with e;injection e with e
 obtain rfl:b=bp:=by injection e1 with e;injection e with e;injection e with e
 have c1':w.cell? ⟨b,1,z⟩=I (Ak (I ⟨g',0,z⟩) O.length cap'):=by rw[Az _ _ _ _ _ _ hb];rfl
 obtain⟨rfl,rfl,rfl⟩:g=g'/\off=0/\cap=cap':=by
  rw[c1'] at c1
  injection c1 with c1
  injection c1 with a1 _ a3
  injection a1 with a1
  injection a1 with a1 a2
  exact⟨a1.symm,a2.symm,a3.symm⟩
 refine⟨g,cap,cur,hb,hg,ht,Hn,LD,Hb,hM,fun j hj=>?_⟩;have:=hc j hj
 rwa [Bm] at this
def lY(k:Nat):Int:=if k<=43 then 0 else if k<49 then (k:Int)-43 else 6
theorem qC{k:Nat}(h:k<43):lY k=0/\lY (k+1)=0:=by unfold lY;rw[AC (by omega),AC (by omega)];exact⟨rfl,rfl⟩
theorem qg{k:Nat}(h:49<=k):lY k=6/\lY (k+1)=6:=by unfold lY;rw[AE (by omega),AE (by omega),AE (by omega),AE (by omega)];exact⟨rfl,rfl⟩
theorem nF{k:Nat}(h:43<=k)(h2:k<49):lY k=(k:Int)-43/\lY (k+1)=(k:Int)-43+1:=by
 unfold lY;refine⟨?_,?_⟩
 . by_cases e:k=43
   . subst e;rfl
   . rw[AE (by omega),AC h2]
 . rw[AE (by omega)]
   by_cases e:k=48
   . subst e;rfl
   . rw[AC (by omega)];omega
theorem fh{kk:Nat}(h1:1<=kk)(h2:kk<=12)(w:Ah):AA Ae 51 #[J U (64*(kk:Int))] w fun e w'=>∃ p M,e=Ag p/\RSp w' M p (64*(kk:Int)) (FE kk)/\(∀ x,M x->w.heap.size<=x)/\At w.heap.size w w':=by
 have KG:=vJ (fun(W:Ah)=>Pu kk h1 h2 W);have hbx:=Ay w (Ar #[J U (64*(kk:Int)),Ak z 0 0] 108);have E5:=Aw w (Ar #[J U (64*(kk:Int)),Ak z 0 0] 108);go_enter Tryz.func51,Tryz.ntmps51;go_upto_region 2 with(fail)
 generalize w.alloc (Ar #[J U (64*(kk:Int)),Ak z 0 0] 108)=w1 at hbx E5 |-
 obtain⟨b,hd⟩:=nm w.heap.size;rw[<- hd] at E5 |-
 have HN0:Hid (NSp w1 b (64*(kk:Int)) (FM 0 (64*0))):=vJ ⟨_,E5,bk w1 (b+1)⟩;have HBW:Hid (At b w w1):=vJ (by rw[hd];exact hbx);have HBD:=vJ hd;have HB0:Hid (At b w1 w1/\b<w1.heap.size):=vJ ⟨AM _ _,(Al.1 E5).1⟩;clear hbx E5 hd;go_wp2_with (go_at_call 52;refine(KG.out _).mono ?_;rintro e w' ⟨rfl,rfl⟩)
 go_loopw [12] (fun i wr=>∃ g:Nat,g<=kk/\i=J U g/\Hid (NSp wr b (64*(kk:Int)) (FM 0 (64*g)))/\Hid (At b w1 wr/\b<wr.heap.size)) (fun i _=>kk-(intOf i).toNat)
 case atStart=>exact⟨0,by omega,rfl,HN0,HB0⟩
 case round=>
  obtain⟨g,hg,rfl,HN,HB⟩:=hrel;clear HN0 HB0;by_cases hlt:g<kk
  . have eg:(g:Int)<12:=by omega
    have egK:(g:Int)<(kk:Int):=(by omega);obtain⟨v,hd,ho⟩:=HN.out;have c1:wr.drew.cell? ⟨b,1,z⟩=I v:=(by rw[Az _ _ _ _ _ _ (show wr.drew.heap[b]? =_ from hd)];rfl);have KF:=vJ (VG (g:Int) (by omega) (by omega) wr.drew);have HD:=vJ (show wr.drew.heap[b]? =I (Ar #[J U (64*(kk:Int)),v] 108 (0,0)) from hd);have HO:=vJ (show OwR wr.drew (b+1) v (FM 0 (64*g)) from ho);have HBL:=vJ (show At b w1 wr.drew/\b<wr.drew.heap.size from⟨HB.out.1.drew,HB.out.2⟩);have HTL:=vJ (CL 0 (64*g));have HFR:=vJ (Z8 g);clear hd ho;go_wp2;refine wp_region_any (by kernel_rfl) ?_
    (try simp only[AR,Aj,Av,Au,As,Ao,Ap])
    refine AW (i:=0) (v:=(Am (I ⟨b,0,z⟩))) rfl (by kernel_rfl) (by kernel_rfl) (by kernel_rfl) (fun _ _ _ h=>h) (AN ⟨by rfl,?_⟩) ?_
    . intro W
      go_simp
    (try simp only[AR,Aj,Av,Au,As,Ao])
    refine AW (i:=1) (v:=(Am (I ⟨b,0,z⟩))) rfl (by kernel_rfl) (by kernel_rfl) (by kernel_rfl) (fun _ _ _ h=>h) (AN ⟨by rfl,?_⟩) ?_
    . intro W
      go_simp
    (try simp only[AR,Aj,Av,Au,As,Ao,Ap])
    refine AW (i:=2) (v:=(Am (I ⟨b,0,z⟩))) rfl (by kernel_rfl) (by kernel_rfl) (by kernel_rfl) (fun _ _ _ h=>h) (AN ⟨by rfl,?_⟩) ?_
    . intro W
      go_simp
    (try simp only[AR,Aj,Av,Au,As,Ao,Ap])
    refine AW (i:=3) (v:=(Am (I ⟨b,1,z⟩))) rfl (by kernel_rfl) (by kernel_rfl) (by kernel_rfl) (fun _ _ _ h=>h) (AN ⟨by rfl,?_⟩) ?_
    . intro W
      go_simp
    (try simp only[AR,Aj,Av,Au,As,Ao,Ap])
    refine AW (i:=5) (v:=(J U g)) rfl (by kernel_rfl) (by kernel_rfl) (by kernel_rfl) (fun _ _ _ h=>h) (AN ⟨by rfl,?_⟩) ?_
    . intro W
      go_simp
    (try simp only[AR,Aj,Av,Au,As,Ao,Ap])
    refine Ej (S:=fun W=>W.cell? ⟨b,1,z⟩=I v) (m:=10) _ _ _ _ ?_;refine De (i:=4) (v:=v) rfl rfl (by kernel_rfl) (by kernel_rfl) (by kernel_rfl) (by kernel_rfl) (by kernel_rfl) (fun _ _ _ h=>h) (AN ⟨by rfl,?_⟩) c1 ?_
    . intro W hS
      go_simp
    (try simp only[AR,Aj,Av,Au,As,Ao,Ap])
    refine BX (rs:=[6]) (by kernel_rfl) (by simp) (TillReady.cons rfl (fun K hK=>?_) TillReady.nil)
    go_simp
    go_at_call 91
    refine KF.out.mono ?_;rintro e w3 ⟨u,rfl,hu,hb3⟩;have d3:=BA HD.out hb3;have c3:w3.cell? ⟨b,1,z⟩=I v:=by rw[Az _ _ _ _ _ _ d3];rfl
    have hw3:=AH HBL.out.2 hb3.size;refine hK.out _ _ (fun _=>c3) ?_;clear hK K
    (try simp only[AR,Aj,Av,Au,As,Ao,Ap])
    refine BX (rs:=[7]) (by kernel_rfl) (by simp) (TillReady.cons rfl (fun K hK=>?_) TillReady.nil);refine PW (by rfl) (.tmp 19) (.tmp 21) (by rfl) (by rfl) (b+1) v (FM 0 (64*g)) (by rfl) (HO.out.below hb3) (by rw[HTL.out];omega) u (F4 g 64) (by rfl) hu.sl (by rw[I4];decide) hw3 ?_;intro v' w4 ho4 hb4;obtain⟨a4,cap4,rfl⟩:=ho4.sl.shape;obtain⟨n4,Vl⟩:=nm ((FM 0 (64*g) ++ F4 (g:Int) 64).length);rw[<- Vl] at ho4 |-
    clear Vl;have d4:=(hb4.block b (by omega)).trans d3;have c4:w4.cell? ⟨b,1,z⟩=I v:=(by rw[Az _ _ _ _ _ _ d4];rfl);refine hK.out _ _ (fun _=>c4) ?_;clear hK K
    (try simp only[AR,Aj,Av,Au,As,Ao,Ap])
    refine BX (rs:=[8]) (by kernel_rfl) (by simp) (TillReady.cons rfl (fun K hK=>?_) TillReady.nil)
    go_simp
    refine hK.out _ _ (fun _=>c4) ?_;clear hK K
    (try simp only[AR,Aj,Av,Au,As,Ao,Ap])
    refine BX (rs:=[9]) (by kernel_rfl) (by simp) (TillReady.cons rfl (fun K hK=>?_) TillReady.nil)
    go_simp
    refine hK.out _ _ (fun _=>c4) ?_;clear hK K
    (try simp only[AR,Aj,Av,Au,As,Ao,Ap])
    have hf:=frozen_of_row w4 b 1 _ _ d4;refine BX (rs:=[10]) (by kernel_rfl) (by simp) (TillReady.cons rfl (fun K hK=>?_) TillReady.nil)
    go_simp
    obtain⟨r1,r2⟩:=dS d4 ho4;have HN2:Hid (NSp (w4.setCell ⟨b,1,z⟩ (Ak a4 n4 cap4)) b (64*(kk:Int)) (FM 0 (64*(g+1)))):=vJ (by rw[HFR.out];exact r1);have HB2:Hid (At b w1 (w4.setCell ⟨b,1,z⟩ (Ak a4 n4 cap4))/\b<(w4.setCell ⟨b,1,z⟩ (Ak a4 n4 cap4)).heap.size):=vJ (by
     have hb04:=(HBL.out.1.trans (hb3.mono (BO HBL.out.2))).trans (hb4.mono (Nat.le_succ b));have ig:=hb04.trans r2;refine⟨ig,AH ?_ r2.size⟩;have:=hb3.size;have:=hb4.size;have:=HBL.out.2;omega)
    clear r1 r2;generalize w4.setCell ⟨b,1,z⟩ (Ak a4 n4 cap4)=Y at HN2 HB2 |-
    refine hK.out _ _ (fun h=>by cases h) ?_;clear hK K
    (try simp only[AR,Aj,Av,Au,As,Ao,Ap])
    clear hf c4 d4 hb4 ho4 hb3 c3 d3 hw3 hu;refine Gd (by kernel_rfl) ?_ _;go_wp2;go_roundw
    case rel=>exact⟨g+1,by omega,by go_num,HN2,HB2⟩
    case measure=>simp[intOf];omega
  . obtain rfl:g=kk:=by omega
    obtain⟨M,hM,hMb⟩:=HN.out.rsp;have HMB:=vJ hMb;obtain⟨L,hL⟩:=nm (64*g);have sQ:64<=L:=(by omega);have hL2:L<=768:=(by omega);rw[<- hL] at hM;have HL0:=vJ hL;have HM0:Hid (RSp wr M (Am (I ⟨b,0,z⟩)) (64*(g:Int)) (FM 0 L)):=vJ hM;have HB0:Hid (At b w1 wr):=vJ HB.out.1;obtain⟨g0,cap0,cur0,hb0,_⟩:=hM.all (by rw[CL];omega);rw[CL] at hb0;have c1:wr.cell? ⟨b,1,z⟩=I (Ak (I ⟨g0,0,z⟩) L cap0):=(by rw[Az _ _ _ _ _ _ hb0];rfl);clear hM hMb hb0 HB HN hL;go_wp2;clear c1;go_loopw [4,31] (fun at' i wr=>∃ k:Nat,k<=L/\i=J U k/\at'=J U (lY k)/\Hid (RSp wr M (Am (I ⟨b,0,z⟩)) (64*(g:Int)) (FM k L))/\Hid (At b w1 wr)) (fun _ i _=>L-(intOf i).toNat)
    case atStart=>exact⟨0,by omega,rfl,rfl,HM0,HB0⟩
    case round=>
     obtain⟨k,hk,rfl,rfl,HR,HBR⟩:=hrel;clear HM0 HB0;by_cases hkt:k<L
     . obtain⟨g1,cap1,cur1,hb1,hg1,rC,XL,oV,oW,TT,hc1⟩:=HR.out.all (by rw[CL];omega)
       have hck:=(hc1 k (by rw[CL];omega)).1;rw[F9 _ _ _ hkt] at hck;have ekt:(k:Int)<(L:Int):=(by omega);have c1:wr.cell? ⟨b,1,z⟩=I (Ak (I ⟨g1,0,z⟩) L cap1):=(by rw[CL] at hb1;rw[Az _ _ _ _ _ _ hb1];rfl);by_cases h49:49<=k
       . obtain⟨a1,a2⟩:=qg h49
         have HR2:=HR.out;rw[Te k L (Ba h49)] at HR2;have HR3:=vJ HR2;have HA2:=vJ a2;rw[a1];clear hb1 hg1 rC XL oV oW TT hc1 hck HR2 a1 a2 HR;go_wp2;go_roundw
         case rel=>exact⟨k+1,by omega,by go_num,by rw[HA2.out],HR3,HBR⟩
         case measure=>simp[intOf];omega
       . by_cases aw:k<43
         . obtain⟨a1,a2⟩:=qC aw
           have HR2:=HR.out;rw[Te k L (AN aw)] at HR2;have HR3:=vJ HR2;have HA2:=vJ a2;rw[a1];unfold Gx at hck;rw[(NG (j:=k)).1 aw] at hck;have hck':wr.cell? ⟨g1,k*2,z⟩=I (J .u16 65535):=hck;clear hb1 hg1 rC XL oV oW TT hc1 hck HR2 a1 a2 HR;go_wp2;go_roundw
           case rel=>exact⟨k+1,by omega,by go_num,by rw[HA2.out],HR3,HBR⟩
           case measure=>simp[intOf];omega
         . obtain⟨a1,a2⟩:=nF (show 43<=k by omega) (show k<49 by omega)
           have HA2:=vJ a2;rw[a1];obtain⟨t,ht⟩:∃ t:Nat,t=k-43:=⟨_,rfl⟩;have et:(k:Int)-43=(t:Int):=(by omega);have ht6:t<6:=(by omega);have ht6':(t:Int)<6:=(by omega);have htw:IntKind.u16.wrap (t:Int)=t:=(by rw[IntKind.wrap_u16];omega);unfold Gx at hck;rw[(NG (j:=k)).2 (by omega) (by omega),AE (by decide),AE (by omega)] at hck;have hck':wr.cell? ⟨g1,k*2,z⟩=I (J .u16 0):=hck;have HFIN:=vJ (fun(w':Ah) (cur':Array Aq) (hw:Wrote wr w' g1) (hg':w'.heap[g1]? =I (Ar cur' 165 (0,0))) (hs:cur'.size=cur1.size) (ht':cur'.toList.take ((FM k L).length*2)=FF ((FM k L).set k (65534,(t:Int))))=>RSp.stored hb1 hg1 XL oV (Ku fun j hj=>by rw[CL] at hj;rw[F9 _ _ _ hj];exact Ut _ _) TT hw hg' (hs.trans oW) ht' ⟨⟨by decide,by decide⟩,⟨by omega,by omega⟩⟩);have HST:Hid ((FM k L).set k (65534,(t:Int))=FM (k+1) L):=vJ (by rw[<- et];exact iY k L (by omega) (by omega));have HG:=vJ hg1;have HT:=vJ rC;have HS:Hid ((FM k L).length*2<=cur1.size):=vJ (by omega);have HK:Hid (k<(FM k L).length):=vJ (by rw[CL];exact hkt);have HGB:Hid (b<=g1):=vJ (HMB.out g1 ((TT g1).2 (Ba rfl)));rw[et] at HA2 |-
           clear hb1 hg1 rC XL oV oW TT hc1 hck a1 a2 HR ht et;go_wp2_with (with_reducible refine Je rfl (.tmp 55) (.tmp 54) rfl g1 k (FM k L) cur1 65534 t rfl rfl HG.out HT.out HS.out HK.out ?_;intro w4 cur4 hw4 hg4 hs4 ht4;have HE:=vJ (HFIN.out w4 cur4 hw4 hg4 hs4 ht4);have HBE:=vJ (HBR.out.trans (hw4.below HGB.out));clear hw4 hg4 hs4 ht4)
           go_roundw
           case rel=>exact⟨k+1,by omega,by go_num,by rw[HA2.out],vJ (by rw[<- HST.out];exact HE.out.1),HBE⟩
           case measure=>simp[intOf];omega
     . obtain rfl:k=L:=by omega
       have HR2:=HR.out;go_wp2;go_ret;refine⟨_,M,rfl,?_,fun x hx=>by have:=HMB.out x hx;rw[HBD.out] at this;exact this,?_⟩
       . unfold FE;rw[<- HL0.out];exact HR2
       . have:=HBW.out.trans HBR.out
         rw[HBD.out] at this;exact this
theorem jM{L:List Int}(j:Nat)(hj:j<12)(h1:j≠1)(x:Int)(hx:x=num L j)(hx0:0<=x/\x<65536)(W:Ah)(u:Aq)(hs:BSl W u (Hg L j)):
 AA Ae 79 #[u,J .u64 x,J U 2] W (JZ W (Hg L (j+1))):=js j hj x hx hx0 2 (AE h1).symm W u hs
theorem dx{L:List Int}(x:Int)(hx:x=num L 1)(h0:0<=x/\x<256):Hg L 1 ++ [x]=Hg L 2:=by
 rw[show Hg L 2=Hg L 1 ++ BN (num L 1) (IG 1) from rfl,<- hx,show IG 1=1 from rfl,Hz,Hy];simp;omega
theorem i_(b st tg cu io ba t0 t1 t2 t3 t4 t5:Int)(L:List Int)(M5:L=[b,st,tg,cu,io,ba,t0,t1,t2,t3,t4,t5])(hf:D7 L=r)(w:Ah)
 (hF:∀ w,AA Ae 98 #[BD #[J U b,J U st,J U tg,J U cu,J U io,J U ba,J U t0,J U t1,J U t2,J U t3,J U t4,J U t5]] w fun e w'=>e=Ag (A1 r)/\At w.heap.size w w'):
 AA Ae 60 #[BD #[J U b,J U st,J U tg,J U cu,J U io,J U ba,J U t0,J U t1,J U t2,J U t3,J U t4,J U t5]] w fun e w'=>∃ v,e=Ag (AO #[v,J U 0])/\OB w' w.heap.size v (GD L)/\At w.heap.size w w':=by
 have hob:=Ay w (Cd L 118);have hh:=Aw w (Cd L 118);obtain⟨W1,hW1⟩:=nm (w.alloc (Cd L 118));rw[<- hW1] at hob hh;have M6:w.alloc (Ar #[J U b,J U st,J U tg,J U cu,J U io,J U ba,J U t0,J U t1,J U t2,J U t3,J U t4,J U t5] 118)=W1:=by rw[hW1,M5];rfl
 have hlen:L.length=12:=by rw[M5];rfl
 have En:w.heap.size<W1.heap.size:=by rw[hW1];simp
 have kc:=fun(w:Ah) (C:Array Aq) (n c:Nat)=>Lib.run_convert_bytes_const (P:=Ae) w 49 5 C n c Tryz.underlying49 Tryz.underlying5
 have e0:b=num L 0:=by rw[M5];rfl
 have e1:st=num L 1:=by rw[M5];rfl
 have e2:tg=num L 2:=by rw[M5];rfl
 have e3:cu=num L 3:=by rw[M5];rfl
 have e4:io=num L 4:=by rw[M5];rfl
 have e5:ba=num L 5:=by rw[M5];rfl
 have f0:=Qr hf 0 (by decide);have f1:0<=num L 1/\num L 1<256:=U8 hf 1 (by decide);rw[<- e0] at f0;rw[<- e1] at f1;have H2:=vJ M6;have HH:=vJ hh;have HLE:=vJ hlen;have HFR:=vJ hf;have K0:=vJ hF;have E0:=vJ e0;have E1:=vJ e1;have E25:=vJ (And.intro e2 (And.intro e3 (And.intro e4 e5)));have hc:=fun(W:Ah) (h:W.heap[w.heap.size]? =I (Cd L 118))=>by rw[M5] at h;exact Jm h
 have HCC:=vJ hc;clear hF hh hW1 M6 M5 hlen hf e0 e1 e2 e3 e4 e5 hc;go_enter Tryz.func60,Tryz.ntmps60
 go_wp2_with (first
  |(go_at_call 98;rw[H2.out];refine(K0.out _).mono ?_;rintro e w2 ⟨rfl,hb2⟩;have hbe:At w.heap.size w w2:=hob.trans (hb2.mono hob.size)
    have JG:w.heap.size<w2.heap.size:=AH En hb2.size;have hr2:w2.heap[w.heap.size]? =I (Cd L 118):=(hb2.block _ En).trans HH.out;have hc2:=HCC.out _ hr2)
  |(go_at_call 79
    have hbm:=TS w2;have hb3:=Ay w2 (Ar #[J .u8 97,J .u8 115,J .u8 104,J .u8 108,J .u8 97,J .u8 114,J .u8 32,J .u8 49] 5 (8,9));generalize w2.alloc (Ar #[J .u8 97,J .u8 115,J .u8 104,J .u8 108,J .u8 97,J .u8 114,J .u8 32,J .u8 49] 5 (8,9))=w3 at hbm hb3 |-
    refine(jM 0 (by decide) (by decide) b E0.out f0 _ _ hbm).mono ?_;rintro e w4 ⟨v4,rfl,hob4,hb4⟩;have hb24:At w2.heap.size w2 w4:=hb3.trans (hb4.mono hb3.size);have hr4:w4.heap[w.heap.size]? =I (Cd L 118):=(hb24.block _ JG).trans hr2;have hc4:=HCC.out _ hr4)
  |(at_builtin
    refine F6 w4 st rfl (.tmp 17) (.tmp 21) rfl w3.heap.size _ (Hg L 1) rfl hob4 ⟨f1.1,by omega⟩ rfl (by rw[ET];decide) hb4.size ?_;intro v5 w5 hob5 hb5;rw[dx st E1.out f1] at hob5;have hb45:At w2.heap.size w4 w5:=hb5.mono hb3.size;have hb25:At w2.heap.size w2 w5:=hb24.trans hb45;have E3:w5.heap[w.heap.size]? =I (Cd L 118):=(hb25.block _ JG).trans hr2;have TX:=HCC.out _ E3))
 have hb6:=Ay w5 (Ar #[J U tg,J U cu,J U io,J U ba] 3);have uy:=Aw w5 (Ar #[J U tg,J U cu,J U io,J U ba] 3);generalize w5.alloc (Ar #[J U tg,J U cu,J U io,J U ba] 3)=w6 at hb6 uy |-
 obtain⟨gi,hgi⟩:=nm w5.heap.size;rw[<- hgi] at uy |-
 have ii:w.heap.size<w5.heap.size:=AH JG hb25.size;have hr6:w6.heap[w.heap.size]? =I (Cd L 118):=(hb6.block _ ii).trans E3;have Ok:gi<w6.heap.size:=(Al.1 uy).1;have oN:∀ j,j<4->w6.cell? ⟨gi,j,z⟩=I (J U (num L (2+j))):=fun j hj=>by
  have:=E25.out;rw[Az _ _ _ _ _ _ uy];have h4:j=0\/j=1\/j=2\/j=3:=by omega
  rcases h4 with rfl|rfl|rfl|rfl
  . rw[<- this.1];rfl
  . rw[<- this.2.1];rfl
  . rw[<- this.2.2.1];rfl
  . rw[<- this.2.2.2];rfl
 have Oc:=fun k hk=>Ih hr6 k hk
 rw[HLE.out] at Oc;have HCI:=vJ oN;have HCX:=vJ Oc;have HB6:=vJ ((hbe.trans (hb25.mono hbe.size)).trans (hb6.mono (BO ii)));have hzw:w.heap.size<w6.heap.size:=AH ii hb6.size;have HM:=vJ (hob5.bsl.below hb6);clear hb6 uy hgi hr6 oN Oc hob5 hb5 hb45 hb25 E3 TX ii hc4 hr4 hb24 hb4 hob4 hb3 hbm hc2 hr2 JG hbe hb2 hob En kc;go_loopw [4,34] (fun u i wr=>∃ j:Nat,j<=4/\i=J U j/\Hid (BSl wr u (Hg L (2+j)))/\Hid (At w6.heap.size w6 wr)) (fun _ i _=>4-(intOf i).toNat)
 case atStart=>exact⟨0,by omega,rfl,HM,AM _ _⟩
 case round=>
  obtain⟨j,hj,rfl,HBS,HBR⟩:=hrel;clear HM;by_cases hlt:j<4
  . have hx0:=Qr HFR.out (2+j) (by omega)
    obtain⟨x,hx⟩:=nm (num L (2+j));have Oc:wr.cell? ⟨gi,j,z⟩=I (J U x):=(by rw[HBR.out.cell Ok,hx];exact HCI.out j hlt);rw[<- hx] at hx0;have HPU:=vJ (jM (L:=L) (2+j) (by omega) (by omega) x hx hx0);have ej:(j:Int)<4:=(by omega);clear hx;go_wp2_with (go_at_call 79;refine(HPU.out _ _ HBS.out).mono ?_;rintro e w7 ⟨v7,rfl,hob7,hb7⟩)
    go_roundw
    case rel=>exact⟨j+1,by omega,by go_num,hob7.bsl,HBR.out.trans (hb7.mono HBR.out.size)⟩
    case measure=>simp[intOf];omega
  . obtain rfl:j=4:=by omega
    go_wp2;obtain⟨w8,hw8⟩:=nm wr;rw[<- hw8] at HBS HBR |-
    clear hw8;go_loopw [4,45] (fun u i wr=>∃ j:Nat,j<=6/\i=J U j/\Hid (BSl wr u (Hg L (6+j)))/\Hid (At w6.heap.size w6 wr)) (fun _ i _=>6-(intOf i).toNat)
    case atStart=>exact⟨0,by omega,rfl,HBS,HBR⟩
    case round=>
     clear HBS HBR;obtain⟨j,hj,rfl,HBS,HBR⟩:=hrel;by_cases hlt:j<6
     . have hx0:=Qr HFR.out (6+j) (by omega)
       obtain⟨x,hx⟩:=nm (num L (6+j));have Oc:wr.cell? ⟨w.heap.size,6+j,z⟩=I (J U x):=(by rw[HBR.out.cell hzw,hx];exact HCX.out (6+j) (by omega));rw[<- hx] at hx0;have HPU:=vJ (jM (L:=L) (6+j) (by omega) (by omega) x hx hx0);have ej:(j:Int)<6:=(by omega);clear hx;go_wp2_with (go_at_call 79;refine(HPU.out _ _ HBS.out).mono ?_;rintro e w7 ⟨v7,rfl,hob7,hb7⟩)
       go_roundw
       case rel=>
        refine⟨_,_,_,_,_,_,_,_,_,_,_,_,_,?_,rfl⟩;exact⟨j+1,by omega,by go_num,hob7.bsl,HBR.out.trans (hb7.mono HBR.out.size)⟩
       case measure=>simp[intOf];omega
     . obtain rfl:j=6:=by omega
       have HSE:=vJ (TP HBS.out (by rw[ET];decide));go_wp2_with (go_at_call 95;refine HSE.out.mono ?_;rintro e w9 ⟨v9,rfl,hob9,hb9⟩)
       go_ret2;have hB:=HB6.out.trans (HBR.out.mono HB6.out.size);exact⟨v9,rfl,hob9.more hB.size,hB.trans (hb9.mono hB.size)⟩
theorem mI{L:List Int}(hL:L.length=12)(hT:TD L)(w:Ah):AA Ae 60 #[Gy L] w (Vc L w):=by
 have h0:D7 L=AI\/D7 L=r:=by cases D7 L <;> simp
 have KF:∀ B,D7 L=B->_:=fun B h=>dv hL hT B h
 have hob:=Ay w (Cd L 118);obtain⟨W1,hW1⟩:=nm (w.alloc (Cd L 118));rw[<- hW1] at hob
 match L,hL with
 |[b,st,tg,cu,io,ba,t0,t1,t2,t3,t4,t5],_=>
  have M6:w.alloc (Ar #[J U b,J U st,J U tg,J U cu,J U io,J U ba,J U t0,J U t1,J U t2,J U t3,J U t4,J U t5] 118)=W1:=by rw[hW1];rfl
  have H2:=vJ M6;show AA Ae 60 #[BD #[J U b,J U st,J U tg,J U cu,J U io,J U ba,J U t0,J U t1,J U t2,J U t3,J U t4,J U t5]] w (Vc _ w)
  rcases h0 with h0|h0
  . refine AA.mono ?_ fun e w' h=>Ba ⟨h0,h⟩
    have K0:Hid (∀ w,AA Ae 98 #[BD #[J U b,J U st,J U tg,J U cu,J U io,J U ba,J U t0,J U t1,J U t2,J U t3,J U t4,J U t5]] w fun e w'=>e=Ag (A1 AI)/\At w.heap.size w w'):=vJ (KF _ h0);clear KF h0 hW1 M6 hT;go_enter Tryz.func60,Tryz.ntmps60;go_wp2_with (first|(go_at_call 98;rw[H2.out];refine(K0.out _).mono ?_;rintro e w2 ⟨rfl,hb2⟩))
    go_ret2;exact⟨rfl,hob.trans (hb2.mono hob.size)⟩
  . refine AA.mono ?_ fun e w' h=>AN ⟨h0,h⟩
    exact i_ b st tg cu io ba t0 t1 t2 t3 t4 t5 _ rfl h0 w (KF _ h0)
def Ze(k:Nat):List Int:=(Co 6).map fun i=>if 43+i<k then ((43+i:Nat):Int) else 0
def Hh(n:Int)(k:Nat):List Int:=[n,0,0,0,0,0] ++ Ze k
theorem GZ(n:Int)(k:Nat):(Hh n k).length=12:=by simp[Hh,Ze]
theorem kb(n:Int){k t:Nat}(h:k=43+t)(ht:t<6):(Hh n k).set (6+t) (k:Int)=Hh n (k+1):=by
 unfold Hh;rw[List.set_append_right _ _ (by simp)];congr 1;apply Bi (by simp[Ze]);intro i h1 h2;simp only[Ze,Cz,Ct,Cg,Ch,List.length_nil];by_cases e:6+t-6=i
 . rw[AC (by omega),AC (by omega),h];omega
 . rw[AE (by omega)]
   by_cases hc:43+i<k
   . rw[AC hc,AC (by omega)]
   . rw[AE hc,AE (by omega)]
theorem dP(n:Int){k:Nat}(h:k<43\/49<=k):Hh n k=Hh n (k+1):=by
 unfold Hh Ze;congr 1;apply CN;intro i hi;have:=Bo.1 hi;by_cases hc:43+i<k
 . rw[AC hc,AC (by omega)]
 . rw[AE hc,AE (by omega)]
theorem Wrote.none'(w:Ah)(b:Nat):Wrote w w b:=⟨rfl,rfl,rfl,rfl,fun _ _=>rfl⟩
theorem Wrote.on{a b c:Ah}{g:Nat}(h:Wrote a b g)(k:Wrote b c g):Wrote a c g:=⟨k.1.trans h.1,k.2.1.trans h.2.1,k.2.2.1.trans h.2.2.1,k.2.2.2.1.trans h.2.2.2.1,fun x hx=>(k.2.2.2.2 x hx).trans (h.2.2.2.2 x hx)⟩
theorem nQ(L:List Int):(L.map (J U)).toArray.all (·.oneCell')=r:=by
 rw[Array.all_eq_true'];intro v hv;simp at hv;obtain⟨x,_,rfl⟩:=hv;rfl
theorem U0:(Ae.info? 118).map (·.size)=I 12:=by kernel_rfl
theorem SS{kk:Nat}(h1:1<=kk)(h2:kk<=12)(w:Ah):AA Ae 51 #[J U (64*(kk:Int))] w fun e w'=>∃ b g cap M,e=Ag (Am (I ⟨b,0,z⟩))/\RSp w' M (Am (I ⟨b,0,z⟩)) (64*(kk:Int)) (FE kk)/\w'.cell? ⟨b,1,z⟩=I (Ak (I ⟨g,0,z⟩) (64*kk) cap)/\w.heap.size<=b/\w.heap.size<=g/\(∀ x,M x->w.heap.size<=x)/\b<w'.heap.size/\g<w'.heap.size/\64*kk<=cap/\
 (∀ j,j<64*kk->w'.cell? ⟨g,j*2,z⟩=I (J .u16 (Gx (64*kk) j).1)/\w'.cell? ⟨g,j*2+1,z⟩=I (J .u16 (Gx (64*kk) j).2))/\At w.heap.size w w':=by
 refine(fh h1 h2 w).mono fun e w' ⟨p,M,he,hR,hM,hb⟩=>?_
 have hl:(FE kk).length=64*kk:=CL _ _;have hR':=hR;obtain⟨b,v,rfl,_⟩:=hR';obtain⟨g,cap,cur,r1,r2,r3,r4,r5,r6,r7,r8⟩:=hR.all (by rw[hl];omega);refine⟨b,g,cap,M,he,hR,by rw[Az _ _ _ _ _ _ r1,hl];rfl,hM b ((r7 b).2 (AN rfl)),hM g ((r7 g).2 (Ba rfl)),hM,(Al.1 r1).1,(Al.1 r2).1,by omega,fun j hj=>?_,hb⟩;have:=r8 j (by rw[hl];exact hj)
 rwa [show(FE kk).getD j (0,0)=Gx (64*kk) j from F9 _ _ _ hj] at this
theorem gm{kk:Nat}(h1:1<=kk)(h2:kk<=12)(w:Ah):AA Ae 58 #[J U (64*(kk:Int))] w fun e w'=>e=Ag (Gy (Hh (64*(kk:Int)) (64*kk)))/\At w.heap.size w w':=by
 have KN:=vJ (fun(W:Ah)=>SS h1 h2 W);go_enter Tryz.func58,Tryz.ntmps58;go_upto_region 2 with(fail)
 obtain⟨a,ha⟩:=nm w.heap.size;have hb1:=(Ay w (Cd (AD 12 0) 118)).trans ((Ay (w.alloc (Cd (AD 12 0) 118)) (Cd (Hh (64*(kk:Int)) 0) 118)).mono (Ay w (Cd (AD 12 0) 118)).size);have Kh:((w.alloc (Cd (AD 12 0) 118)).alloc (Cd (Hh (64*(kk:Int)) 0) 118)).heap[w.heap.size]? =I (Cd (AD 12 0) 118):=BA (Aw w _) (Ay _ _);have hr1:((w.alloc (Cd (AD 12 0) 118)).alloc (Cd (Hh (64*(kk:Int)) 0) 118)).heap[w.heap.size+1]? =I (Cd (Hh (64*(kk:Int)) 0) 118):=by
  have:=Aw (w.alloc (Cd (AD 12 0) 118)) (Cd (Hh (64*(kk:Int)) 0) 118)
  simpa using this
 obtain⟨W1,hW1⟩:=nm ((w.alloc (Cd (AD 12 0) 118)).alloc (Cd (Hh (64*(kk:Int)) 0) 118));rw[<- hW1] at hb1 Kh hr1;rw[show(w.alloc (Obj.cells #[J U 0,J U 0,J U 0,J U 0,J U 0,J U 0,J U 0,J U 0,J U 0,J U 0,J U 0,J U 0] 118)).alloc (Obj.cells #[J U (64*(kk:Int)),J U 0,J U 0,J U 0,J U 0,J U 0,J U 0,J U 0,J U 0,J U 0,J U 0,J U 0] 118)=W1 from hW1.symm];rw[<- ha] at hb1 Kh hr1 |-
 have En:a+1<W1.heap.size:=(Al.1 hr1).1;obtain⟨L,hL⟩:=nm (64*kk);have hL768:L<=768:=by omega
 have hL64:64<=L:=by omega
 have HL:=vJ hL;have HA:=vJ ha;rw[<- hL] at KN;have HR0:=vJ Kh;have HR1:=vJ hr1;have HB1:=vJ hb1;clear Kh hr1 hb1 hW1 ha hL;go_wp2_with (go_at_call 51;refine(KN.out _).mono ?_;rintro e w2 ⟨b,g,cap,M,rfl,hR,c1,TZ,hag,hM,hbl,Ok,Cm,hcc,hb2⟩)
 have HRS0:Hid (w2.heap[a]? =I (Cd (AD 12 0) 118)):=vJ (BA HR0.out hb2);have HRS1:Hid (w2.heap[a+1]? =I (Cd (Hh (64*(kk:Int)) 0) 118)):=vJ (BA HR1.out hb2);have HB2:Hid (At a w w2):=vJ (HB1.out.trans (hb2.mono (by omega)));have HCC:=vJ hcc;have hga:a+1<g:=by omega
 clear hR c1 hM hcc hb2 TZ hag hbl HR0 HR1 HB1 En;go_loopw [15] (fun i wr=>∃ k:Nat,k<=L/\i=J U k/\Hid (wr.heap[a+1]? =I (Cd (Hh (64*(kk:Int)) k) 118))/\Hid (Wrote w2 wr (a+1))) (fun i _=>L-(intOf i).toNat)
 case atStart=>exact⟨0,by omega,rfl,HRS1,vJ (Wrote.none' _ _)⟩
 case round=>
  obtain⟨k,hk,rfl,HS,HW⟩:=hrel;clear HRS1;by_cases hlt:k<L
  . obtain⟨k0,k1⟩:=HCC.out k hlt
    have ekL:(k:Int)<(L:Int):=(by omega);have c0:=(Bh (a:=⟨g,k*2,z⟩) (HW.out.2.2.2.2 g (by omega))).trans k0;have c1:=(Bh (a:=⟨g,k*2+1,z⟩) (HW.out.2.2.2.2 g (by omega))).trans k1;by_cases hm:43<=k/\k<49
    . obtain⟨t,ht⟩:∃ t:Nat,t=k-43:=⟨_,rfl⟩
      have uz:k=43+t:=(by omega);have ht6:t<6:=(by omega);have et6:(t:Int)<6:=(by omega);have eT:Gx L k=(65534,(t:Int)):=by
       unfold Gx;rw[(NG (j:=k)).2 hm.1 hm.2,AE (by decide),AC (by omega)];congr 1;omega
      rw[eT] at c0 c1;have hset:=kb (64*(kk:Int)) uz ht6;have hf:=frozen_of_row wr (a+1) (6+t) _ _ HS.out;have Hb:=Ih HS.out (6+t) (by rw[GZ];omega);have HS2:(wr.setCell ⟨a+1,6+t,z⟩ (J U k)).heap[a+1]? =_:=Bs wr (a+1) (6+t) _ _ _ HS.out;have HX:Hid ((wr.setCell ⟨a+1,6+t,z⟩ (J U k)).heap[a+1]? =I (Cd (Hh (64*(kk:Int)) (k+1)) 118)):=vJ (by
       rw[HS2,<- hset];unfold Cd;rw[Aj,List.map_set])
      have HY:Hid (Wrote w2 (wr.setCell ⟨a+1,6+t,z⟩ (J U k)) (a+1)):=vJ (HW.out.on (Wrote.setCell wr (a+1) (6+t) _));clear k0 k1 eT hset HS2 ht hm uz;go_wp2;generalize wr.setCell ⟨a+1,6+t,z⟩ (J U k)=Y at HX HY |-
      go_roundw
      case rel=>exact⟨k+1,by omega,by go_num,HX,HY⟩
      case measure=>simp[intOf];omega
    . have hne:(Gx L k).1≠65534:=by
       unfold Gx;split
       . decide
       . rw[AE (by omega)];decide
      have hxb:((Gx L k).1==65534)=AI:=by simpa using hne
      have HX:Hid (wr.heap[a+1]? =I (Cd (Hh (64*(kk:Int)) (k+1)) 118)):=vJ (by rw[<- dP _ (show k<43\/49<=k by omega)];exact HS.out);obtain⟨x,hx⟩:=nm ((Gx L k).1);rw[<- hx] at c0 hxb;clear k0 k1 hne hm hx HS;go_wp2;go_roundw
      case rel=>exact⟨k+1,by omega,by go_num,HX,HW⟩
      case measure=>simp[intOf];omega
  . obtain rfl:k=L:=by omega
    have hs:wr.heap[a+1]? =I (Ar ((Hh (64*(kk:Int)) k).map (J U)).toArray 118 (0,0)):=HS.out;have hb:At a w wr:=HB2.out.trans (HW.out.below (by omega));have Kh:wr.heap[a]? =I (Ar ((AD 12 (0:Int)).map (J U)).toArray 118 (0,0)):=(by rw[HW.out.2.2.2.2 a (by omega)];exact HRS0.out);have HBE:=vJ hb;have HLL:Hid (k=64*kk):=HL;clear hb HS HW
    go_wp2_with (first
     |(with_reducible refine wpList_load_row rfl 118 (.tmp 3) rfl (a+1) rfl 118 _ (0,0) _ hs Tryz.underlying118 rfl (by rw[U0];simp[GZ]) ?_)
     |(with_reducible refine Do rfl 118 (.tmp 2) (.tmp 33) rfl a ((Hh (64*(kk:Int)) k).map (J U)).toArray rfl rfl 118 _ Kh (by rw[U0];simp[GZ]) (by simp[GZ]) (nQ _) ?_))
    have hw5:=Wrote.setRow wr a ((Hh (64*(kk:Int)) k).map (J U)).toArray;have E3:(wr.setRow a ((Hh (64*(kk:Int)) k).map (J U)).toArray).heap[a]? =_:=Cr _ _ _ _ _ _ Kh;refine Bv (results_cell_row rfl _ _ a 118 _ (0,0) _ rfl E3 Tryz.underlying118 rfl (by rw[U0];simp[GZ])) rfl ⟨?_,?_⟩
    . rw[<- HLL.out];rfl
    . have:=HBE.out.trans (hw5.below (AB _))
      rw[<- HA.out];exact this
end
section
open Go.RowKit BM
theorem pu{w:Ah}{v:Aq}{l:List Int}(hs:BSl w v l)(hl:l.length<=1000)(x:Int)(h0:0<=x)(h1:x<=65535):AA Ae 79 #[v,J .u64 x,J U 2] w (JZ w (l ++ BN x 2)):=
 GO hs (by omega) x 2 2 (by omega) (by omega) rfl h0 (by omega)
theorem eQ{w:Ah}{v:Aq}{L:List Bool}(hk:KSl w v L)(g:Int)(h1:0<=g)(h2:g<12)(hL:L.length=64):
 AA Ae 55 #[BD #[J U g,v]] w fun e w'=>∃ v,e=Ag (AO #[v,J U 0])/\OB w' w.heap.size v (GI g L)/\At w.heap.size w w':=by
 obtain⟨ao,cap,rfl⟩:=hk.shape;rw[hL] at hk |-
 have hb1:At w.heap.size w ((w.alloc (Ar #[J U g,Ak ao 64 cap] 112)).alloc (Ar #[Ak ao 64 cap] 170)):=((AM _ _).alloc (AB _) _).alloc (by simp) _;have hd1:=heap_alloc2_old w (Ar #[J U g,Ak ao 64 cap] 112) (Ar #[Ak ao 64 cap] 170);have Vo:=heap_alloc2_new w (Ar #[J U g,Ak ao 64 cap] 112) (Ar #[Ak ao 64 cap] 170);obtain⟨w1,hw1⟩:=nm ((w.alloc (Ar #[J U g,Ak ao 64 cap] 112)).alloc (Ar #[Ak ao 64 cap] 170));rw[<- hw1] at hb1 hd1 Vo;have HW1:=vJ hw1;have HK:=vJ (hk.below hb1);have cA:=LY L;obtain⟨C,hC⟩:=nm (Eo L);rw[<- hC,hL] at cA;have HC:=vJ hC;have HL:=vJ hL;have hlq:w.heap.size+1<w1.heap.size:=(Al.1 Vo).1;have c0:w1.cell? ⟨w.heap.size,0,z⟩=I (J U g):=by rw[Az _ _ _ _ _ _ hd1];rfl
 have HQ:=vJ (show w1.cell? ⟨w.heap.size+1,0,z⟩=I (Ak ao 64 cap) by rw[Az _ _ _ _ _ _ Vo];rfl);have kc:=fun(w:Ah) (C:Array Aq) (n c:Nat)=>Lib.run_convert_bytes_const (P:=Ae) w 49 5 C n c Tryz.underlying49 Tryz.underlying5
 have g0:¬ g<0:=by omega
 have g1:¬ 11<g:=by omega
 clear hk hC hL hd1 Vo hw1;go_enter Tryz.func55,Tryz.ntmps55;go_upto_region 4 with(fail)
 rw[<- HW1.out];obtain⟨q,hqq⟩:=nm (w.heap.size+1);rw[<- hqq] at HQ hlq |-
 have hlq0:w.heap.size<w1.heap.size:=by omega
 clear hqq;go_wp2_with fail
 have hbm:=Xi w1;have hb2:=Ay w1 (Ar #[J .u8 100,J .u8 101,J .u8 115,J .u8 99] 5 (4,5));generalize w1.alloc (Ar #[J .u8 100,J .u8 101,J .u8 115,J .u8 99] 5 (4,5))=w2 at hbm hb2 |-
 have HMG:=vJ (pu hbm (by decide) g h1 (by omega));clear hbm kc
 go_wp2_with (first
  |(go_at_call 79;(with_reducible refine HMG.out.mono ?_);rintro e w4 ⟨v4,rfl,hob4,hb4⟩
    have hb14:At w1.heap.size w1 w4:=hb2.trans (hb4.mono hb2.size);have Qc:=(hb14.cell (p:=⟨q,0,z⟩) hlq).trans HQ.out)
  |(go_at_call 94;refine(jx Qc (HK.out.below hb14) (by rw[HL.out];decide)).mono ?_;rw[<- HC.out];rintro e w5 ⟨rfl,rfl⟩
    have HP2:=vJ (pu hob4.bsl (by rw[Ax,Bc];decide) (C:Int) (by omega) (by omega)))
  |(go_at_call 79;(with_reducible refine HP2.out.mono ?_);rintro e w6 ⟨v6,rfl,hob6,hb6⟩
    have hb16:At w1.heap.size w1 w6:=hb14.trans (hb6.mono hb14.size);have lR:=(hb16.cell (p:=⟨q,0,z⟩) hlq).trans HQ.out)
  |(go_at_call 96;refine(kx lR (AH hlq hb16.size) (HK.out.below hb16) (by rw[HL.out];decide) (I7 L) (RA L)).mono ?_;rintro e w7 ⟨v7,rfl,hs7,hb7⟩
    have hb17:At w1.heap.size w1 w7:=hb16.trans (hb7.mono hb16.size))
  |(at_builtin
    refine BY w7 rfl (.tmp 35) (.tmp 37) rfl w1.heap.size _ ([100,101,115,99] ++ BN g 2 ++ BN (C:Int) 2) rfl ((hob6.below hb7).more hb14.size) w7 v7 (I7 L) rfl hs7 (fun _ _=>rfl) (by rw[E9,HL.out];simp[Bc]) hb17.size ?_;intro v8 w8 hob8 hb8 _;have hb18:At w1.heap.size w1 w8:=hb17.trans hb8;have HSE:Hid (AA Ae 95 #[v8] w8 (Qq (R6 g L) w8)):=vJ (by rw[R6,<- HC.out];exact TP hob8.bsl (by rw[Ax,E9,HL.out];simp[Bc])))
  |(go_at_call 95;refine HSE.out.mono ?_;rintro e w9 ⟨v9,rfl,hob9,hb9⟩))
 go_ret2;exact⟨v9,rfl,hob9.more (AT hb1.size hb18.size),(hb1.trans (hb18.mono hb1.size)).trans (hb9.mono (AT hb1.size hb18.size))⟩
end
section
open Go.RowKit
theorem iv(kd ln sz mp:Int)(D:List Int):Nz kd ln sz mp D=r ↔ (1<=kd/\kd<=3)/\(0<=ln/\ln<=200)/\(0<=sz/\sz<=35328/\(kd=3->sz<=200))/\FP D=r/\UZ mp=r:=by
 unfold Nz gK;simp only[AY,Bd];by_cases h:kd=3
 . rw[AC h]
   constructor
   . rintro⟨h1,h2,h3,h4,h5⟩;exact⟨h1,h2,⟨h3.1,by omega,fun _=>h3.2⟩,h4,h5⟩
   . rintro⟨h1,h2,h3,h4,h5⟩;exact⟨h1,h2,⟨h3.1,h3.2.2 h⟩,h4,h5⟩
 . rw[AE h]
   constructor
   . rintro⟨h1,h2,h3,h4,h5⟩;exact⟨h1,h2,⟨h3.1,h3.2,fun e=>absurd e h⟩,h4,h5⟩
   . rintro⟨h1,h2,h3,h4,h5⟩;exact⟨h1,h2,⟨h3.1,h3.2.1⟩,h4,h5⟩
theorem Zp(kd ln sz d0 d1 d2 d3 d4 d5 d6 d7 d8 d9 mp:Int)(h:kd=0)(w:Ah):AA Ae 97 #[BD #[J U kd,J U ln,J U sz,J U d0,J U d1,J U d2,J U d3,J U d4,J U d5,J U d6,J U d7,J U d8,J U d9,J U mp]] w fun e w'=>e=Ag (A1 (decide ([kd,ln,sz,d0,d1,d2,d3,d4,d5,d6,d7,d8,d9,mp]=zeroI)))/\At w.heap.size w w':=by
 have hb:=Ay w (Ar #[J U kd,J U ln,J U sz,J U d0,J U d1,J U d2,J U d3,J U d4,J U d5,J U d6,J U d7,J U d8,J U d9,J U mp] 121);have hr:=Aw w (Ar #[J U kd,J U ln,J U sz,J U d0,J U d1,J U d2,J U d3,J U d4,J U d5,J U d6,J U d7,J U d8,J U d9,J U mp] 121);have Pb:(w.alloc (Ar #[J U kd,J U ln,J U sz,J U d0,J U d1,J U d2,J U d3,J U d4,J U d5,J U d6,J U d7,J U d8,J U d9,J U mp] 121)).rangeAt w.heap.size 0 (iC [kd,ln,sz,d0,d1,d2,d3,d4,d5,d6,d7,d8,d9,mp]):=FN hr;have HRG:=vJ Pb;have u1:=Tryz.underlying121;clear hr Pb;have hk:(kd==0)=r:=by simp[h]
 clear h;go_enter Tryz.func97,Tryz.ntmps97
 go_wp2_with (first
  |(with_reducible refine BK rfl 121 (.tmp 1) rfl w.heap.size 0 rfl [kd,ln,sz,d0,d1,d2,d3,d4,d5,d6,d7,d8,d9,mp] _ HRG.out u1 rfl rfl ?_)
  |(with_reducible refine SF rfl (.tmp 7) (.tmp 8) rfl [kd,ln,sz,d0,d1,d2,d3,d4,d5,d6,d7,d8,d9,mp] zeroI rfl rfl rfl rfl ?_))
 go_ret;exact⟨rfl,hb⟩
theorem mF(kd ln sz d0 d1 d2 d3 d4 d5 d6 d7 d8 d9 mp:Int)(h0:kd≠0)(B:Bool)(hB:B=Nz kd ln sz mp [d0,d1,d2,d3,d4,d5,d6,d7,d8,d9])(w:Ah):AA Ae 97 #[BD #[J U kd,J U ln,J U sz,J U d0,J U d1,J U d2,J U d3,J U d4,J U d5,J U d6,J U d7,J U d8,J U d9,J U mp]] w fun e w'=>e=Ag (A1 B)/\At w.heap.size w w':=by
 have hb:=Ay w (Ar #[J U kd,J U ln,J U sz,J U d0,J U d1,J U d2,J U d3,J U d4,J U d5,J U d6,J U d7,J U d8,J U d9,J U mp] 121);have hr:(w.alloc (Ar #[J U kd,J U ln,J U sz,J U d0,J U d1,J U d2,J U d3,J U d4,J U d5,J U d6,J U d7,J U d8,J U d9,J U mp] 121)).heap[w.heap.size]? =I (iO [kd,ln,sz,d0,d1,d2,d3,d4,d5,d6,d7,d8,d9,mp] 121):=Aw w _;obtain⟨W1,hW1⟩:=nm (w.alloc (Ar #[J U kd,J U ln,J U sz,J U d0,J U d1,J U d2,J U d3,J U d4,J U d5,J U d6,J U d7,J U d8,J U d9,J U mp] 121));have hb1:At w.heap.size w W1:=by rw[hW1];exact hb
 rw[<- hW1] at hr;have H2:=vJ hW1.symm;have hk:(kd==0)=AI:=by simp[h0]
 have HD:Hid (∀ j,j<10->W1.cell? ⟨w.heap.size,3+j,z⟩=I (J U ([d0,d1,d2,d3,d4,d5,d6,d7,d8,d9].getD j 0))):=fun j hj=>by
  rw[GC hr (3+j) (by simp;omega),show 3+j=j+3 by omega];have:j=0\/j=1\/j=2\/j=3\/j=4\/j=5\/j=6\/j=7\/j=8\/j=9:=by omega
  rcases this with rfl|rfl|rfl|rfl|rfl|rfl|rfl|rfl|rfl|rfl <;> rfl
 have hiff:=iv kd ln sz mp [d0,d1,d2,d3,d4,d5,d6,d7,d8,d9];rw[<- hB] at hiff;have Vp:∀ {P:Prop},(B=r->P)->¬ P->B=AI:=fun h hn=>by
  cases hB:B
  . rfl
  . exact absurd (h hB) hn
 have HNO:Hid (¬ ((1<=kd/\kd<=3)/\(0<=ln/\ln<=200)/\(0<=sz/\sz<=35328/\(kd=3->sz<=200)))->B=AI):=fun hn=>Vp (fun h=>⟨(hiff.1 h).1,(hiff.1 h).2.1,(hiff.1 h).2.2.1⟩) hn
 have HYE:Hid ((1<=kd/\kd<=3/\(0<=ln/\ln<=200)/\(0<=sz/\sz<=35328)/\(kd=3->sz<=200))->UZ mp=r->FP [d0,d1,d2,d3,d4,d5,d6,d7,d8,d9]=r->B=r):=fun h1 h2 h3=>hiff.2 ⟨⟨h1.1,h1.2.1⟩,h1.2.2.1,⟨h1.2.2.2.1.1,h1.2.2.2.1.2,h1.2.2.2.2⟩,h3,h2⟩
 obtain⟨B4,h4⟩:∃ b,UZ mp=b:=⟨_,rfl⟩;have HN4:Hid (B4=AI->B=AI):=fun h=>Vp (fun hh=>(hiff.1 hh).2.2.2.2) (by rw[h4,h];decide)
 have HND:Hid (∀ j,j<10->UZ ([d0,d1,d2,d3,d4,d5,d6,d7,d8,d9].getD j 0)=AI->B=AI):=fun j hj h=>Vp (fun hh=>(hiff.1 hh).2.2.2.1) (by rw[bi (l:=[d0,d1,d2,d3,d4,d5,d6,d7,d8,d9]) (k:=j) (by simpa using hj) h];decide)
 rw[h4] at HYE;have K4:=vJ (OT mp B4 h4);clear hiff Vp hW1 hr hB h4;by_cases a1:0<=kd
 case neg=>
  obtain rfl:B=AI:=HNO.out (by omega);go_enter Tryz.func97,Tryz.ntmps97;go_wp2_with (go_at_call 142;with_reducible refine(K4.out _).mono ?_;rintro e w' ⟨rfl,rfl⟩)
  go_ret;exact⟨rfl,hb⟩
 by_cases a2:kd<=3
 case neg=>
  obtain rfl:B=AI:=HNO.out (by omega);go_enter Tryz.func97,Tryz.ntmps97;go_wp2_with (go_at_call 142;with_reducible refine(K4.out _).mono ?_;rintro e w' ⟨rfl,rfl⟩)
  go_ret;exact⟨rfl,hb⟩
 by_cases a3:0<=ln
 case neg=>
  obtain rfl:B=AI:=HNO.out (by omega);go_enter Tryz.func97,Tryz.ntmps97;go_wp2_with (go_at_call 142;with_reducible refine(K4.out _).mono ?_;rintro e w' ⟨rfl,rfl⟩)
  go_ret;exact⟨rfl,hb⟩
 by_cases a4:ln<=200
 case neg=>
  obtain rfl:B=AI:=HNO.out (by omega);go_enter Tryz.func97,Tryz.ntmps97;go_wp2_with (go_at_call 142;with_reducible refine(K4.out _).mono ?_;rintro e w' ⟨rfl,rfl⟩)
  go_ret;exact⟨rfl,hb⟩
 by_cases a5:0<=sz
 case neg=>
  obtain rfl:B=AI:=HNO.out (by omega);go_enter Tryz.func97,Tryz.ntmps97;go_wp2_with (go_at_call 142;with_reducible refine(K4.out _).mono ?_;rintro e w' ⟨rfl,rfl⟩)
  go_ret;exact⟨rfl,hb⟩
 by_cases a6:sz<=35328
 case neg=>
  obtain rfl:B=AI:=HNO.out (by omega);go_enter Tryz.func97,Tryz.ntmps97;go_wp2_with (go_at_call 142;with_reducible refine(K4.out _).mono ?_;rintro e w' ⟨rfl,rfl⟩)
  go_ret;exact⟨rfl,hb⟩
 by_cases h3:kd=3
 case pos=>
  subst h3;clear a1 a2 hk;by_cases a7:sz<=200
  case neg=>
   obtain rfl:B=AI:=HNO.out (by omega);go_enter Tryz.func97,Tryz.ntmps97;go_wp2_with (go_at_call 142;with_reducible refine(K4.out _).mono ?_;rintro e w' ⟨rfl,rfl⟩)
   go_ret;exact⟨rfl,hb⟩
  cases B4
  case false=>
   obtain rfl:B=AI:=HN4.out rfl;go_enter Tryz.func97,Tryz.ntmps97;go_wp2_with (go_at_call 142;with_reducible refine(K4.out _).mono ?_;rintro e w' ⟨rfl,rfl⟩)
   go_ret;exact⟨rfl,hb⟩
  case true=>
   have EI:=HYE.out ⟨by omega,by omega,by omega,by omega,by omega⟩ rfl;have HYE2:=vJ EI;clear EI HYE HNO HN4;go_enter Tryz.func97,Tryz.ntmps97;go_wp2_with (go_at_call 142;with_reducible refine(K4.out _).mono ?_;rintro e w' ⟨rfl,rfl⟩)
   rw[H2.out]
   go_loop [54] (fun i=>∃ j:Nat,j<=10/\i=J U j/\Hid (∀ i,i<j->UZ ([d0,d1,d2,d3,d4,d5,d6,d7,d8,d9].getD i 0)=r)) (fun i=>10-(intOf i).toNat)
   case atStart=>exact⟨0,by omega,rfl,fun i hi=>absurd hi (A8 _)⟩
   case round=>
    obtain⟨j,hj,rfl,HJ⟩:=hrel;by_cases hlt:j<10
    . have Oc:=HD.out j hlt
      have hnd:=HND.out j hlt;obtain⟨x,hx⟩:=nm ([d0,d1,d2,d3,d4,d5,d6,d7,d8,d9].getD j 0);rw[<- hx] at Oc hnd;have HX:=vJ hx;have ej:(j:Int)<10:=(by omega);obtain⟨Bx,hbx⟩:∃ b,UZ x=b:=⟨_,rfl⟩;have KX:=vJ (OT x Bx hbx);have HBX:=vJ hbx;clear hx hbx;cases Bx
      . obtain rfl:B=AI:=hnd HBX.out
        go_wp2_with (go_at_call 142;with_reducible refine(KX.out _).mono ?_;rintro e w' ⟨rfl,rfl⟩)
        go_ret;exact⟨rfl,hb1⟩
      . clear hnd
        go_wp2_with (go_at_call 142;with_reducible refine(KX.out _).mono ?_;rintro e w' ⟨rfl,rfl⟩)
        go_round
        case rel=>
         refine⟨j+1,by omega,by go_num,fun i hi=>?_⟩;by_cases e:i=j
         . subst e;rw[<- HX.out];exact HBX.out
         . exact HJ.out i (by omega)
        case measure=>simp[intOf];omega
    . obtain rfl:j=10:=by omega
      obtain rfl:B=r:=HYE2.out ((Ft _).2 HJ.out);go_wp2;go_ret;exact⟨rfl,hb1⟩
 case neg=>
  have hk3:(kd==3)=AI:=by simp[h3]
  cases B4
  case false=>
   obtain rfl:B=AI:=HN4.out rfl;go_enter Tryz.func97,Tryz.ntmps97;go_wp2_with (go_at_call 142;with_reducible refine(K4.out _).mono ?_;rintro e w' ⟨rfl,rfl⟩)
   go_ret;exact⟨rfl,hb⟩
  case true=>
   have EI:=HYE.out ⟨by omega,by omega,by omega,by omega,by omega⟩ rfl;have HYE2:=vJ EI;clear EI HYE HNO HN4;go_enter Tryz.func97,Tryz.ntmps97;go_wp2_with (go_at_call 142;with_reducible refine(K4.out _).mono ?_;rintro e w' ⟨rfl,rfl⟩)
   rw[H2.out]
   go_loop [54] (fun i=>∃ j:Nat,j<=10/\i=J U j/\Hid (∀ i,i<j->UZ ([d0,d1,d2,d3,d4,d5,d6,d7,d8,d9].getD i 0)=r)) (fun i=>10-(intOf i).toNat)
   case atStart=>exact⟨0,by omega,rfl,fun i hi=>absurd hi (A8 _)⟩
   case round=>
    obtain⟨j,hj,rfl,HJ⟩:=hrel;by_cases hlt:j<10
    . have Oc:=HD.out j hlt
      have hnd:=HND.out j hlt;obtain⟨x,hx⟩:=nm ([d0,d1,d2,d3,d4,d5,d6,d7,d8,d9].getD j 0);rw[<- hx] at Oc hnd;have HX:=vJ hx;have ej:(j:Int)<10:=(by omega);obtain⟨Bx,hbx⟩:∃ b,UZ x=b:=⟨_,rfl⟩;have KX:=vJ (OT x Bx hbx);have HBX:=vJ hbx;clear hx hbx;cases Bx
      . obtain rfl:B=AI:=hnd HBX.out
        go_wp2_with (go_at_call 142;with_reducible refine(KX.out _).mono ?_;rintro e w' ⟨rfl,rfl⟩)
        go_ret;exact⟨rfl,hb1⟩
      . clear hnd
        go_wp2_with (go_at_call 142;with_reducible refine(KX.out _).mono ?_;rintro e w' ⟨rfl,rfl⟩)
        go_round
        case rel=>
         refine⟨j+1,by omega,by go_num,fun i hi=>?_⟩;by_cases e:i=j
         . subst e;rw[<- HX.out];exact HBX.out
         . exact HJ.out i (by omega)
        case measure=>simp[intOf];omega
    . obtain rfl:j=10:=by omega
      obtain rfl:B=r:=HYE2.out ((Ft _).2 HJ.out);go_wp2;go_ret;exact⟨rfl,hb1⟩
theorem kJ{L:List Int}(hL:L.length=14)(w:Ah):AA Ae 97 #[BD (iC L).toArray] w fun e w'=>e=Ag (A1 (El L))/\At w.heap.size w w':=by
 match L,hL with
 |[kd,ln,sz,d0,d1,d2,d3,d4,d5,d6,d7,d8,d9,mp],_=>
  show AA Ae 97 #[BD #[J U kd,J U ln,J U sz,J U d0,J U d1,J U d2,J U d3,J U d4,J U d5,J U d6,J U d7,J U d8,J U d9,J U mp]] w fun e w'=>e=Ag (A1 (if kd=0 then decide ([kd,ln,sz,d0,d1,d2,d3,d4,d5,d6,d7,d8,d9,mp]=zeroI) else Nz kd ln sz mp [d0,d1,d2,d3,d4,d5,d6,d7,d8,d9]))/\At w.heap.size w w'
  by_cases h0:kd=0
  . rw[AC h0];exact Zp kd ln sz d0 d1 d2 d3 d4 d5 d6 d7 d8 d9 mp h0 w
  . rw[AE h0];exact mF kd ln sz d0 d1 d2 d3 d4 d5 d6 d7 d8 d9 mp h0 _ rfl w
theorem kN{L:List Int}(hL:L.length=14)(B:Bool)(h:El L=B)(w:Ah):AA Ae 97 #[BD (iC L).toArray] w fun e w'=>e=Ag (A1 B)/\At w.heap.size w w':=by
 rw[<- h];exact kJ hL w
end
end Go.Proofs.YtdefiimcmecnnaaGreat
