/- What the law rests on. -/
import Derived.Lib.BufferWrite
import Derived.Lib.UnsafeStr
import Derived.RangeFuncIn
import Derived.OrdersIn
import Derived.DeepKeys4
import Derived.Test.YtfpdajplfmakhaaGreatDoorQD13
open Go.Value renaming int->Ao,slice->Aw,pointer->Ax,tuple->AT,bool->AY,agg->BS
open Go.IntKind renaming i64->Ap
open Go.Proofs.Tryz renaming prog->Aq
open Option renaming none->Ar,some->H
open Go renaming World->At,Value->AA,Calls->AH,Oper->BK,TypeId->Cn
open Go.Ending renaming returned->Av
open Go.Obj renaming cells->Ay
open Go.RowKit renaming Below->AB
open List renaming replicate->AI,length_cons->BJ
open Bool renaming false->AN,true->AQ
open Array renaming replicate->AW
open Or renaming inl->A4,inr->A8
open Go.Proofs.Tryz
namespace Go.Proofs.YtfpdajplfmakhaaGreatDoor
set_option linter.defProp false
set_option maxHeartbeats 12000000
set_option linter.unusedVariables false
set_option maxRecDepth 100000
section
open Go.RowKit BM
def TB(bt:Nat)(T:Fa)(A Q:Nat->Nat):Nat->Prop:=fun k=>k=bt\/∃ i,i<48/\(T i).isSome=AQ/\(k=A i\/k=Q i)
def QZ(w:At)(bt:Nat)(T:Fa)(A Q:Nat->Nat):Nat->Prop:=fun k=>TB bt T A Q k\/∃ i,i<48/\(T i).isSome=AQ/\∃ v,w.cell? ⟨A i,4,Ar⟩=H v/\v.ownBlock=H k
def TreH.keepB{w w':At}{B bt:Nat}{T:Fa}{A Q:Nat->Nat}(h:TreH w B bt T A Q)(l:∀ k,QZ w bt T A Q k->w'.heap[k]? =w.heap[k]?):TreH w' B bt T A Q/\∀ k,QZ w' bt T A Q k ↔ QZ w bt T A Q k:=by
 refine⟨⟨?_,h.lo,fun i x d e=>?_,h.inj⟩,fun k=>?_⟩
 . obtain⟨p,q⟩:=h.row
   exact⟨p,(l _ (A4 (A4 rfl))).trans q⟩
 . have n:=h.nd i x d e
   obtain⟨v,a,b⟩:=n.row;obtain⟨K,g,c,r⟩:=n.map;have f:(T i).isSome=AQ:=(by rw[e];rfl);refine⟨⟨v,(l _ (A4 (A8 ⟨i,d,f,A4 rfl⟩))).trans a,b.keepG fun g j=>l _ (A8 ⟨i,d,f,v,?_,j⟩)⟩,⟨K,g,c.keep (l _ (A4 (A8 ⟨i,d,f,A8 rfl⟩))),r⟩,n.lo⟩;rw[AD _ _ _ _ _ _ a];rfl
 . have m:∀ i,i<48->(T i).isSome=AQ->w'.cell? ⟨A i,4,Ar⟩=w.cell? ⟨A i,4,Ar⟩:=fun i d f=>Bi (l _ (A4 (A8 ⟨i,d,f,A4 rfl⟩)))
   constructor
   . rintro(a| ⟨i,d,f,v,o,j⟩)
     . exact A4 a
     . exact A8 ⟨i,d,f,v,by rw[<- m i d f];exact o,j⟩
   . rintro(a| ⟨i,d,f,v,o,j⟩)
     . exact A4 a
     . exact A8 ⟨i,d,f,v,by rw[m i d f];exact o,j⟩
def SV{T:Fa}{n d kd:Nat}{s:ByteArray}{x:Nd}(c:T d=H x)(f:d≠n):TC T n d kd s=upd (upd T n (H ⟨kd,[],[]⟩)) d (H { x with L:=x.L ++ [((n:Int),s)] }):=by
 funext i;unfold TC;by_cases a:i=n
 . rw[AG a,Cx _ _ Aa,a,Dy]
 . rw[AJ a]
   by_cases b:i=d
   . rw[AG b,b,Dy,c];rfl
   . rw[AJ b,Cx _ _ b,Cx _ _ a]
section
variable {w:At}{B bt m:Nat}{T:Fa}{A Q:Nat->Nat}{x:Nd}
def XD(h:TreH w B bt T A Q)(hB:B<=w.heap.size)(X:Te T m)(c1:m<48){d kd:Nat}(t:T d=H x)(u:x.kd=2)(hl:x.L.length<=1000)(s:ByteArray)(j:Int):
 AH Aq 23 #[Ax (H ⟨bt,0,Ar⟩),BS #[Ao Ap d,.string s,Ao Ap j],Ao Ap kd] w fun e w'=>
  (m<47/\e=Av (AT #[Ao Ap (m+1:Nat),Ao Ap 0])/\∃ A' Q',TreH w' B bt (TC T (m+1) d kd s) A' Q'/\Chg (QZ w bt T A Q) (QZ w' bt (TC T (m+1) d kd s) A' Q') w w')\/
  (m=47/\e=Av (AT #[Ao Ap 0,Ao Ap 13])/\AB w.heap.size w w'):=by
 have hd:=(X d).1 (by rw[t];rfl);have l:=AF w (Ay #[Ao Ap d,.string s,Ao Ap j] 38);have E:=AC w (Ay #[Ao Ap d,.string s,Ao Ap j] 38);obtain⟨a,O⟩:=nm (w.alloc (Ay #[Ao Ap d,.string s,Ao Ap j] 38));rw[<- O] at l E;have H1:Hid (w.alloc (Ay #[Ao Ap d,.string s,Ao Ap j] 38)=a):=wN O.symm;have U:=h.low l;have HC:=wN (fun i (z:i<48)=>U.cell z);have HM:=wN X;have a9:=wN l;clear O;go_enter func23,ntmps23;go_upto_region 1 with(fail)
 rw[H1.out];go_wp2;go_loopw [8] (fun i wr=>a=wr/\∃ k:Nat,1<=k/\k<=m+1/\i=Ao Ap k) (fun i _=>48-(intOf i).toNat)
 case atStart=>exact⟨rfl,1,Aa,Aa,rfl⟩
 case round=>
  obtain⟨rfl,k,Oo,c7,rfl⟩:=hrel;by_cases BR:k<48
  . have c3:(k:Int)<48:=by omega
    have ck:=HC.out k BR;by_cases b7:k<=m
    . obtain⟨y,hy⟩:=Option.isSome_iff_exists.1 ((HM.out k).2 ⟨Oo,b7⟩)
      rw[Gn hy] at ck;clear hy h U X t u hl hd l E;go_wp2;go_roundw
      case rel=>exact⟨by trivial,k+1,Aa,Aa,by go_num⟩
      case measure=>simp[intOf];omega
    . obtain rfl:k=m+1:=by omega
      have bk:T (m+1)=Ar:=by
       cases c:T (m+1) with
       |none=>rfl
       |some y=>have:=(X (m+1)).1 (by rw[c];rfl);omega
      rw[Ma bk] at ck;have c8:=@run_makeMap Aq;have pq:=h.lt;have I:B<=a.heap.size:=AU hB l.size;have F:d≠m+1:=Aa;have p:AB a.heap.size a ((a.alloc (.map #[] 0)).alloc (Ay #[Ao Ap kd,Ao Ap 1,Ao Ap 0,.map (H a.heap.size),Aw Ar 0 0] 63)):=(AF a (.map #[] 0)).trans ((AF (a.alloc (.map #[] 0)) (Ay #[Ao Ap kd,Ao Ap 1,Ao Ap 0,.map (H a.heap.size),Aw Ar 0 0] 63)).mono Ai);have h2:=U.low p;have c2:=h2.cell BR;rw[Ma bk] at c2;have f2:((a.alloc (.map #[] 0)).alloc (Ay #[Ao Ap kd,Ao Ap 1,Ao Ap 0,.map (H a.heap.size),Aw Ar 0 0] 63)).frozen? ⟨bt,m+1,Ar⟩=AN:=by
       obtain⟨a8,Y⟩:=h2.row;simp[At.frozen?,Y]
      have W:=U.add I (kd:=kd) BR bk;have f:=Wrote.setCell ((a.alloc (.map #[] 0)).alloc (Ay #[Ao Ap kd,Ao Ap 1,Ao Ap 0,.map (H a.heap.size),Aw Ar 0 0] 63)) bt (m+1) (Ax (H ⟨a.heap.size+1,0,Ar⟩));obtain⟨b,J⟩:=nm (((a.alloc (.map #[] 0)).alloc (Ay #[Ao Ap kd,Ao Ap 1,Ao Ap 0,.map (H a.heap.size),Aw Ar 0 0] 63)).setCell ⟨bt,m+1,Ar⟩ (Ax (H ⟨a.heap.size+1,0,Ar⟩)));rw[<- J] at W f;have b4:Hid (((a.alloc (.map #[] 0)).alloc (Ay #[Ao Ap kd,Ao Ap 1,Ao Ap 0,.map (H a.heap.size),Aw Ar 0 0] 63)).setCell ⟨bt,m+1,Ar⟩ (Ax (H ⟨a.heap.size+1,0,Ar⟩))=b):=wN J.symm;have a1:Hid (b.heap[a.heap.size+1]? =H (Ay #[Ao Ap kd,Ao Ap 1,Ao Ap 0,.map (H a.heap.size),Aw Ar 0 0] 63 (0,0))):=wN (by
       rw[f.2.2.2.2 _ (by have:=l.size;omega)];have:=AC (a.alloc (.map #[] 0)) (Ay #[Ao Ap kd,Ao Ap 1,Ao Ap 0,.map (H a.heap.size),Aw Ar 0 0] 63)
       rwa [show(a.alloc (.map #[] 0)).heap.size=a.heap.size+1 from Ai] at this)
      have sO:∀ o:Nat,b.cell? ⟨w.heap.size,o,Ar⟩=a.cell? ⟨w.heap.size,o,Ar⟩:=fun o=>by
       have e1:b.heap[w.heap.size]? =((a.alloc (.map #[] 0)).alloc (Ay #[Ao Ap kd,Ao Ap 1,Ao Ap 0,.map (H a.heap.size),Aw Ar 0 0] 63)).heap[w.heap.size]? :=f.2.2.2.2 _ Aa;have e2:=p.block w.heap.size (Au.1 E).1;exact Bi (e1.trans e2)
      have g0:b.cell? ⟨w.heap.size,0,Ar⟩=H (Ao Ap d):=(by rw[sO,AD _ _ _ _ _ _ E];rfl);have g1:b.cell? ⟨w.heap.size,1,Ar⟩=H (.string s):=(by rw[sO,AD _ _ _ _ _ _ E];rfl);have g2:=W.cell (i:=d) Aa;have D:(upd T (m+1) (H ⟨kd,[],[]⟩)) d=H x:=(by rw[Cx _ _ F,t]);rw[Gn D,Cx _ _ F] at g2;have C:=W.nd d x Aa D;rw[Cx _ _ F] at C;have a3:B<=b.heap.size:=(by rw[f.2.2.2.1];exact AU I p.size);have a2:((m:Int)+1)=((m+1:Nat):Int):=Aa;have KA:Hid (AH Aq 44 #[Ax (H ⟨A d,0,Ar⟩),BS #[Ao Ap ((m:Int)+1),.string s]] b.drew fun en w'=>en=Av (AT #[])/\NodeT w' B (A d) (upd Q (m+1) a.heap.size d) { x with L:=x.L ++ [(((m+1:Nat):Int),s)] }/\Chg (·=A d) (·=A d) b.drew w'/\∃ v,w'.cell? ⟨A d,4,Ar⟩=H v/\∀ g,v.ownBlock=H g->b.drew.heap.size<=g):=wN (by rw[a2];exact(fO (C.low ((AP _ _).drew)) u (w:=b.drew) a3 hl (((m+1:Nat):Int),s)));clear a2;have c0:(d:Int)<48:=Aa;have a0:Hid (∀ r,NodeT r B (A d) (upd Q (m+1) a.heap.size d) { x with L:=x.L ++ [(((m+1:Nat):Int),s)] }->Chg (·=A d) (·=A d) b.drew r->(∃ v,r.cell? ⟨A d,4,Ar⟩=H v/\∀ g,v.ownBlock=H g->b.drew.heap.size<=g)->∃ A' Q',TreH r B bt (TC T (m+1) d kd s) A' Q'/\Chg (QZ w bt T A Q) (QZ r bt (TC T (m+1) d kd s) A' Q') w r):=wN fun r gM OP N=>by
       have n:Chg (·=A d) (·=A d) b r:=(Chg.of_below ((AP _ b).drew)).trans OP;have a7:NodeT r B (upd A (m+1) (a.heap.size+1) d) (upd Q (m+1) a.heap.size d) { x with L:=x.L ++ [(((m+1:Nat):Int),s)] }:=(by rw[Cx _ _ F];exact gM);have ht:=W.node Aa D (P:=(·=A d)) (fun k u=>A4 (by rw[Cx _ _ F];exact u)) n a7;rw[SV t F];refine⟨_,_,ht,?_⟩;have Ef:w.heap.size<=a.heap.size:=l.size;have R:Chg (QZ w bt T A Q) (QZ w bt T A Q) w b:=((Chg.of_below l).trans (Chg.of_below p)).trans ⟨f.1,f.2.1,f.2.2.1,Nat.le_of_eq f.2.2.2.1.symm,fun k u G=>⟨f.2.2.2.2 k fun e=>G (A4 (A4 e)),G⟩⟩;have c9:w.heap.size<=b.heap.size:=R.size;refine⟨n.os.trans R.os,n.tape.trans R.tape,n.output.trans R.output,AU R.size n.size,fun k u G=>?_⟩;obtain⟨e1,_⟩:=R.keep k u G;obtain⟨e2,_⟩:=n.keep k (AL u R.size) fun e=>G (A4 (A8 ⟨d,Aa,by rw[t];rfl,A4 e⟩))
       have a4:∀ i,i≠m+1->((upd (upd T (m+1) (H ⟨kd,[],[]⟩)) d (H { x with L:=x.L ++ [(((m+1:Nat):Int),s)] })) i).isSome=AQ->(T i).isSome=AQ:=fun i q Z=>by
        by_cases S:i=d
        . rw[S,t];rfl
        . rw[Cx _ _ S,Cx _ _ q] at Z;exact Z
       refine⟨e2.trans e1,fun hp=>?_⟩;rcases hp with(e| ⟨i,z,Z,e⟩)| ⟨i,z,Z,v,hv,hg⟩
       . exact G (A4 (A4 e))
       . by_cases q:i=m+1
         . rw[q,Dy,Dy] at e;omega
         . rw[Cx _ _ q,Cx _ _ q] at e
           exact G (A4 (A8 ⟨i,z,a4 i q Z,e⟩))
       . by_cases S:i=d
         . obtain⟨v5,c5,b9⟩:=N
           rw[S,Cx _ _ F,c5] at hv;have:=b9 k (by rw[Bc hv];exact hg);have:b.drew.heap.size=b.heap.size:=rfl;omega
         . by_cases q:i=m+1
           . have b8:(upd (upd T (m+1) (H ⟨kd,[],[]⟩)) d (H { x with L:=x.L ++ [(((m+1:Nat):Int),s)] })) i=H ⟨kd,[],[]⟩:=by rw[Cx _ _ S,q,Dy]
             obtain⟨v6,r6,c4⟩:=(ht.nd i _ z b8).row;have c6:r.cell? ⟨upd A (m+1) (a.heap.size+1) i,4,Ar⟩=H v6:=(by rw[AD _ _ _ _ _ _ r6];rfl);have r7:b.heap[upd A (m+1) (a.heap.size+1) i]? =H (Ay #[Ao Ap kd,Ao Ap 1,Ao Ap 0,.map (H a.heap.size),Aw Ar 0 0] 63 (0,0)):=by
              rw[q,Dy];exact a1.out
             have K:¬ upd A (m+1) (a.heap.size+1) i=A d:=by
              rw[q,Dy];intro e;have:=(h.nd d x Aa t).lt.1;omega
             have r8:=(n.keep _ (Au.1 r7).1 K).1.trans r7;rw[AD _ _ _ _ _ _ r8] at hv;have:v=Aw Ar 0 0:=(Bc hv).symm;rw[this] at hg;cases hg
           . have M:=a4 i q Z
             obtain⟨y,hy⟩:=Option.isSome_iff_exists.1 M;have a6:=(h.nd i y z hy).lt.1;have K:A i≠A d:=(h.inj i d z Aa M (by rw[t];rfl) S).1;rw[Cx _ _ q] at hv;have q1:a.heap[A i]? =w.heap[A i]? :=l.block _ a6;have q2:b.heap[A i]? =w.heap[A i]? :=by
              have a5:A i≠bt:=fun e=>by
               obtain⟨ci,Uj⟩:=(h.nd i y z hy).rowAt;obtain⟨a8,Y⟩:=h.row;rw[e,Y] at Uj;cases Uj
              exact((f.2.2.2.2 _ a5).trans (p.block _ (AL a6 Ef))).trans q1
             have q3:=(n.keep (A i) Aa K).1.trans q2;have q4:r.cell? ⟨A i,4,Ar⟩=w.cell? ⟨A i,4,Ar⟩:=Bi q3;exact G (A8 ⟨i,z,M,v,by rw[<- q4];exact hv,hg⟩)
      have b3:Hid (∀ V,Chg (·=A d) (·=A d) b.drew V->V.cell? ⟨w.heap.size,0,Ar⟩=H (Ao Ap d)/\V.cell? ⟨w.heap.size,1,Ar⟩=H (.string s)/\V.cell? ⟨bt,d,Ar⟩=H (Ax (H ⟨A d,0,Ar⟩))):=wN fun V hV=>by
       obtain⟨cd,b6⟩:=C.rowAt;have l4:w.heap.size<b.drew.heap.size:=by
        have:b.heap.size=_:=f.2.2.2.1;have:=p.size;have:=(Au.1 E).1;show w.heap.size<b.heap.size
        omega
       have b1:¬ w.heap.size=A d:=fun e=>by have:=(h.nd d x Aa t).lt.1;omega
       have b2:¬ bt=A d:=fun e=>by
        obtain⟨a8,Y⟩:=W.row;rw[e,b6] at Y;cases Y
       have t4:bt<b.drew.heap.size:=Aa;exact⟨(Bi (hV.keep _ l4 b1).1).trans g0,(Bi (hV.keep _ l4 b1).1).trans g1,(Bi (hV.keep _ t4 b2).1).trans g2⟩
      have b0:Hid (m<47):=wN Aa;have b5:b.drew.cell? ⟨w.heap.size,0,Ar⟩=H (Ao Ap d)/\b.drew.cell? ⟨w.heap.size,1,Ar⟩=H (.string s)/\b.drew.cell? ⟨bt,d,Ar⟩=H (Ax (H ⟨A d,0,Ar⟩)):=⟨g0,g1,g2⟩;clear J h U X t u hl hd l E p h2 W f sO C D bk a3 I F pq g0 g1 g2 HM HC hB;go_upto_region 6 with(fail)
      rw[b4.out]
      go_region_held3 (fun V=>V.cell? ⟨w.heap.size,0,Ar⟩=H (Ao Ap d)/\V.cell? ⟨w.heap.size,1,Ar⟩=H (.string s)/\V.cell? ⟨bt,d,Ar⟩=H (Ax (H ⟨A d,0,Ar⟩))) (first|exact b5|exact g5) (first|(go_at_call 44;(with_reducible refine Ad KA.out ?_);rintro r ⟨gM,OP,N⟩;have g5:=b3.out _ OP))
      all_goals
       go_wp2;go_ret2;exact A4 ⟨b0.out,rfl,a0.out _ gM OP N⟩
  . obtain rfl:k=m+1:=by omega
    have sP:m=47:=Aa;subst sP;have HB:=a9.out;clear h U X t u hl hd l E;go_wp2;go_ret2;exact⟨rfl,HB⟩
end
def U8(G:Ae):Fat G newN sW 1 0 fun _=>Ar:=by
 have a:∀ i,i<139->Ch (newN.getD 1 []) (sW 1) i=0:=fun i d=>nZ (c:=0) (m:=1) Af Af d
 refine⟨A8 (A4 (Pw (c:=0) (m:=1) Af Af)),rfl,Aa,fun i d=>by rw[AG (a i Aa)],fun _ _=>rfl,?_,⟨fun i l e=>(by cases e),fun i l e=>(by cases e)⟩⟩;constructor
 . intro e;exact absurd (a 138 Af) e
 . rintro⟨b,g,h,f⟩;exact absurd (a b Aa) f
structure NdF (G N:Ae) (F:Nat->Ab) (i:Nat) (x:Nd):Prop where
 ft:∃ M,Fat G N F i x.sz M/\(x.kd=2->DirN x.sz M x.L)/\(x.kd≠2->M=x.M)
 kd:CE N i=x.kd
structure FsT (G N:Ae) (O:Ag) (kk:Nat) (F:Nat->Ab) (T:Fa) (c:Nat):Prop where
 nd:∀ i x,T i=H x->NdF G N F i x
 fr:∀ i,1<=i->i<48->T i=Ar->CE N i=0
 cn:Dz O (64*kk)<=c
def RestT(w0:At)(d p:AA)(kk bf:Nat)(T:Fa)(c:Nat)(P:Nat->Prop)(w:At):Prop:=
 ∃ X N O F,Fsd w0 w P d p X (Ed kk) N O kk F bf/\FsT X.is N O kk F T c
def InT(w0:At)(d p:AA)(kk bf:Nat)(T0:Fa)(c0:Nat)(n m:Nat)(T:Fa)(c q:Nat)(P:Nat->Prop)(w:At):Prop:=
 ∃ X N O F b f a Q,Fsm w0 w P d p X (Ed kk) N O kk F bf/\FsT X.is N O kk F T0 c0/\Fmd w P d p X (Ed kk) b f kk a bf/\FsT X.call b f kk a T c/\PutS X Q/\
   (∀ g,g<kk->(Cp g:Int)∈Q/\(Cp g:Int)+1∈Q)/\((C5 (Ed kk) (n / 8):Nat):Int)∈Q/\((C5 (Ed kk) (m / 8):Nat):Int)∈Q/\Q.length<=q
section
variable {w0 w:At}{d p:AA}{kk bf:Nat}{T0 T:Fa}{c0 c n m q:Nat}{P:Nat->Prop}
def RestT.low(h:RestT w0 d p kk bf T c P w){w':At}(hb:AB w.heap.size w w'):RestT w0 d p kk bf T c P w':=by
 obtain⟨X,N,O,F,a,r⟩:=h;exact⟨X,N,O,F,a.low hb,r⟩
def RestT.far(h:RestT w0 d p kk bf T c P w){Z b:Nat->Prop}{w':At}(f:Chg Z b w w')(hf:FarF w0 P bf Z):RestT w0 d p kk bf T c P w':=by
 obtain⟨X,N,O,F,a,r⟩:=h;exact⟨X,N,O,F,a.far f hf.hi hf.ap hf.nf,r⟩
def InT.far(h:InT w0 d p kk bf T0 c0 n m T c q P w){Z k:Nat->Prop}{w':At}(f:Chg Z k w w')(hf:FarF w0 P bf Z):InT w0 d p kk bf T0 c0 n m T c q P w':=by
 obtain⟨X,N,O,F,i,j,g,Q,a,l,b,r⟩:=h;exact⟨X,N,O,F,i,j,g,Q,a.far f hf.hi hf.ap hf.nf,l,b.farM f hf.ap hf.nf,r⟩
def RestT.begin(h:RestT w0 d p kk bf T c P w)(n m:Nat):AH Aq 22 #[p] w fun e w'=>e=Av (Ao Ap 0)/\∃ f,InT w0 d p kk bf T c n m T c (2*kk+3) f w'/\Chg P f w w':=by
 obtain⟨X,N,O,F,a,r⟩:=h;refine a.begin.mono fun e w' ⟨he,f,b,j,k⟩=>⟨he,f,⟨Sf X,N,O,F,N,O,F,WJ (Ed kk) kk n 0 ++ [((C5 (Ed kk) (m / 8):Nat):Int)],b,r,j,r,kV _ _,?_,?_,?_,?_⟩,k⟩
 . exact fun g i=>⟨BA _ ((Pz (Ed kk) kk n 0).g g i).1,BA _ ((Pz (Ed kk) kk n 0).g g i).2⟩
 . exact BA _ (Pz (Ed kk) kk n 0).t
 . exact Cz _ (BN.2 rfl)
 . rw[AO,bP];exact AE _
def InT.keep(h:InT w0 d p kk bf T0 c0 n m T c q P w):AH Aq 25 #[p,AY AQ] w fun e w'=>e=Av (Ao Ap 0)/\∃ f,RestT w0 d p kk bf T c f w'/\Chg P f w w':=by
 obtain⟨X,N,O,F,i,j,g,Q,a,t,b,r,_⟩:=h;exact(a.keep b).mono fun e w' ⟨he,f,k,o,s,l⟩=>⟨he,f,⟨k,i,j,g,o,by rw[s];exact r⟩,l⟩
def InT.undo(h:InT w0 d p kk bf T0 c0 n m T c q P w):AH Aq 25 #[p,AY AN] w fun e w'=>e=Av (Ao Ap 0)/\∃ f,RestT w0 d p kk bf T0 c0 f w'/\Chg P f w w':=by
 obtain⟨X,N,O,F,s,t,o,Q,a,i,b,r,_⟩:=h;exact a.undo.mono fun e w' ⟨he,f,g,k,l,j⟩=>⟨he,f,⟨g,N,O,F,k,by rw[l];exact i⟩,j⟩
def RestT.rd(h:RestT w0 d p kk bf T c P w):∃ X N O F,Frd w P d p X (Ed kk) N O kk F bf/\FsT X.cur N O kk F T c:=by
 obtain⟨X,N,O,F,a,r⟩:=h;exact⟨_,N,O,F,a.rd,by unfold XSt.cur;rw[a.wi];exact r⟩
def FsT.step{X g:XSt}{S:Ab}{N d:Ae}{O f:Ag}{F b:Nat->Ab}{i:Nat}(h:FsT X.call N O kk F T c)(k:Fst S kk X N O F i g d f b)(r:∀ j x,T j=H x->1<=j/\j<48){x:Nd}(hi:(T i).isSome=AQ)(t:NdF g.call d b i x){l:Nat}(s:Dz f (64*kk)<=l):FsT g.call d f kk b (upd T i (H x)) l:=by
 refine⟨fun j y e=>?_,fun j p q e=>?_,s⟩
 . by_cases a:j=i
   . subst a
     rw[Dy] at e;cases e
     exact t
   . rw[Cx _ _ a] at e
     obtain⟨⟨M,m,n⟩,o⟩:=h.nd j y e;obtain⟨u,v⟩:=r j y e;exact⟨⟨M,k.ot j _ M a u v m,n⟩,by unfold CE;rw[k.oth j a];exact o⟩
 . by_cases a:j=i
   . subst a;rw[Dy] at e;cases e
   . rw[Cx _ _ a] at e
     have:=h.fr j p q e;unfold CE;rw[k.oth j a];exact this
def Fat.near{G N:Ae}{F:Nat->Ab}{i sz:Nat}{M:Nat->Option Ab}(h:Fat G N F i sz M)(f:∀ b,10<=b->M b=Option.none):num (N.getD i []) 13=0:=by
 by_cases e:num (N.getD i []) 13=0
 . exact e
 . obtain⟨b,a,c,d⟩:=h.mp.1 e
   have:=(h.iff c).2 d;rw[f b a] at this;cases this
def ov{l:Ab}(d:l.length<=200):∀ b,1<=b->wrL (fun _=>Ar) 0 l b=Ar:=fun b a=>V9 _ _ _ rfl fun j c=>Aa
def dN{M a:Nat->Option Ab}(h:∀ b,10<=b->M b=Ar)(f:∀ b,10<=b->a b=Ar)(i:FO (Gx a) 138<=FO (Gx M) 138+1):Eu a<=Eu M+1:=by
 have k:∀ M:Nat->Option Ab,(∀ b,10<=b->M b=Ar)->Tz M 138=0:=fun M h=>GD 138 fun⟨b,d,g,c⟩=>by rw[h b d] at c;cases c
 unfold Eu;rw[k M h,k a f];omega
def InT.add(h:InT w0 d p kk bf T0 c0 n m T c q P w)(K:∀ j x,T j=H x->1<=j/\j<48){x:Nd}(z:T m=H x)(k:x.kd=2)(hl:x.L.length<48)(hq:q<=20)(hc:c+43<=62*kk){e:Hg}(he:Ff e=AQ)(hi:¬ DM x.L e.2<x.L.length):
 AH Aq 27 #[Ax (H ⟨bf,0,Ar⟩),Ao Ap m,BS #[Ao Ap e.1,.string e.2]] w fun r w'=>r=Av (Ao Ap 0)/\∃ t,InT w0 d p kk bf T0 c0 n m (upd T m (H { x with L:=x.L ++ [e] })) (c+1) (q+2) t w'/\Chg P t w w':=by
 obtain⟨X,N,O,F,N2,O2,W,Q,a,a2,b,r,s1,B,s3,U,s5⟩:=h;obtain⟨⟨M,E,f2,_⟩,G⟩:=r.nd m x z;obtain⟨m1,A⟩:=K m x z;have y:=f2 k;have a0:=r.cn;have C:x.sz=16*x.L.length:=by unfold Nd.sz;rw[AG k]
 have J:∀ i,10<=i->M i=Ar:=fun i hi=>y.hi i Aa
 have gK:=E.near J;have S:Flt w P d p X (Ed kk) N2 O2 kk W bf m x.sz M Q:=⟨b,E,s1,⟨B,U,fun e=>absurd gK e⟩,Aa⟩;refine(dg S (by rw[G,k];rfl) m1 A Aa y.f Aa e).mono ?_;rintro r' w' (⟨l,_⟩| ⟨_,l,_⟩| ⟨_,_,hw⟩)
 . rw[he] at l;cases l
 . exact absurd l hi
 . have s:=y.add (e:=e) he
   have v:∀ i,10<=i->wrL M (16*x.L.length) (Ek e) i=Ar:=fun i hi=>by
    have:=s.hi i Aa
    rwa [C] at this
   have NU:=D5 (DP he).2;have Y:FO (Gx (wrL M (16*x.L.length) (Ek e))) 138<=FO (Gx M) 138+1:=by
    have h1:=az (Ek e) M (16*x.L.length) Aa;have h2:Hd (16*x.L.length) (Ek e).length=1:=(by rw[NU];unfold Hd;rw[AJ Af];omega);omega
   have hu:=dN J v Y;rcases hw with⟨hr,GY,ho⟩| ⟨_,l,_⟩
   . obtain⟨t,X',Z,O',V,Q',g,o,u,gl,I,_⟩:=ho
     have R:=S.cnt g.ft o;have NN:max x.sz (16*x.L.length+16)=({ x with L:=x.L ++ [e] }:Nd).sz:=by
      have:({ x with L:=x.L ++ [e] }:Nd).sz=16*(x.L.length+1):=(by unfold Nd.sz;rw[AG k];simp);omega
     have D:=g.ft;rw[NN] at D;have gJ:DirN ({ x with L:=x.L ++ [e] }:Nd).sz (wrL M (16*x.L.length) (Ek e)) (x.L ++ [e]):=by
      have:({ x with L:=x.L ++ [e] }:Nd).sz=16*(x.L.length+1):=(by unfold Nd.sz;rw[AG k];simp);rw[this]
      rwa [C] at s
     refine⟨hr,t,⟨X',N,O,F,Z,O',V,Q',a.next g.md.inv g.md.wi o.on I,by rw[o.on.1];exact a2,g.md,r.step o K (by rw[z];rfl) ⟨⟨_,D,fun _=>gJ,fun e=>absurd k e⟩,by rw[o.kd,G]⟩ Aa,g.q,fun i hi=>⟨u _ (B i hi).1,u _ (B i hi).2⟩,u _ s3,u _ U,Aa⟩,I⟩
   . refine absurd ?_ l
     unfold FB;omega
def InT.write(h:InT w0 d p kk bf T0 c0 n m T c q P w)(E:∀ j x,T j=H x->1<=j/\j<48){x:Nd}(y:T n=H x)(s:x.kd=3)(L:x.tg=[])(hq:q<=25)(hc:c+43<=62*kk){v:AA}{l:Ab}(hv:BSl w v l)(u:Apt P v)(a1:1<=l.length)(hl:l.length<=200):
 AH Aq 29 #[Ax (H ⟨bf,0,Ar⟩),Ao Ap n,Ao Ap 0,v] w fun r w'=>r=Av (AT #[Ao Ap l.length,Ao Ap 0])/\∃ k,InT w0 d p kk bf T0 c0 n m (upd T n (H { x with tg:=l })) (c+1) (q+2) k w'/\Chg P k w w':=by
 obtain⟨X,N,O,F,Y,O2,V,Q,a,a2,b,r,s1,A,R,s4,s5⟩:=h;obtain⟨⟨M,t,_,f2⟩,f3⟩:=r.nd n x y;obtain⟨n1,z⟩:=E n x y;have a0:=r.cn;have tu:M=fun _=>Ar:=by rw[f2 (by rw[s];decide)];unfold Nd.M;rw[L];rfl
 subst tu;have S:x.sz=0:=by unfold Nd.sz;rw[AJ (by rw[s];decide),L];rfl
 rw[S] at t;have gK:=t.near fun _ _=>rfl
 have I:Flt w P d p X (Ed kk) Y O2 kk V bf n 0 (fun _=>Ar) Q:=⟨b,t,s1,⟨A,R,fun e=>absurd gK e⟩,Aa⟩;have ZA:Hd 0 l.length=1:=by unfold Hd;rw[AJ Aa];omega
 refine(O8 I n1 z hv u (a:=0) (C:=l.length) Aa Aa Aa Aa (fun _=>Aa)).mono ?_;have hu:Eu (wrL (fun _=>Ar) 0 l)<=1:=fY (ov hl) Af;have NO:Eu (fun _=>Ar)=0:=Af;rintro r' w' (⟨hr,GY,K⟩| ⟨_,hn,_⟩)
 . rw[BZ] at K
   obtain⟨k,X',W,O',U,Q',g,f,o,gl,D,_⟩:=K;have G:=I.cnt g.ft f;have B:=g.ft;have Z:(if l.length=0 then 0 else max 0 (0+l.length))=({ x with tg:=l }:Nd).sz:=by
    have:({ x with tg:=l }:Nd).sz=l.length:=(by unfold Nd.sz;rw[AJ (by show x.kd≠2;rw[s];decide)]);rw[this,AJ Aa];omega
   rw[Z] at B;refine⟨hr,k,⟨X',N,O,F,W,O',U,Q',a.next g.md.inv g.md.wi f.on D,by rw[f.on.1];exact a2,g.md,r.step f E (by rw[y];rfl) ⟨⟨_,B,fun e=>absurd (s.symm.trans e) Af,fun _=>rfl⟩,by rw[f.kd,f3]⟩ Aa,g.q,fun i J=>⟨o _ (A i J).1,o _ (A i J).2⟩,o _ R,o _ s4,Aa⟩,D⟩
 . refine absurd ?_ hn
   rw[BZ];unfold FB;omega
end
def LG(k l:Int):Ab:=[k,l,0,0,0,0,0,0,0,0,0,0,0,0]
def VB{k:Int}(h:1<=k/\k<=3){l:Int}(a:l=0\/l=1):Ee (LG k l)=AQ:=by
 have:k=1\/k=2\/k=3:=Aa;rcases this with rfl|rfl|rfl <;> rcases a with rfl|rfl <;> decide
def UJ(k l:Int){i:Nat}(hi:i<139):Ch (LG k l) (AI 128 0) i=0:=by
 unfold Ch num;split
 . next a=>
   have:∀ j,j<10->(LG k l).getD (3+j) 0=0:=fun j c=>by
    have b:j=0\/j=1\/j=2\/j=3\/j=4\/j=5\/j=6\/j=7\/j=8\/j=9:=Aa;rcases b with rfl|rfl|rfl|rfl|rfl|rfl|rfl|rfl|rfl|rfl <;> rfl
   exact this i a
 . split
   . rfl
   . rw[Az,CA];split <;> rfl
def mT{G N:Ae}{F:Nat->Ab}{n kd:Nat}{l:Int}(p:1<=kd/\kd<=3)(c:N.getD n []=LG kd l)(k:F n=AI 128 0):NdF G N F n ⟨kd,[],[]⟩:=by
 have h:∀ i,i<139->Ch (N.getD n []) (F n) i=0:=fun i g=>by rw[c,k];exact UJ _ _ g
 have f:CE N n=kd:=by rw[Ew,c];rfl
 have a:OkB fun _=>Ar:=⟨fun i l e=>(by cases e),fun i l e=>(by cases e)⟩
 have d:(⟨kd,[],[]⟩:Nd).sz=0:=by unfold Nd.sz;split <;> rfl
 refine⟨⟨fun _=>Ar,⟨by rw[f];omega,by rw[c,d];rfl,by rw[d];omega,fun i g=>by rw[AG (h i Aa)],fun _ _=>rfl,?_,a⟩,fun _=>by rw[d];exact DirN.nil a fun _=>rfl,fun _=>rfl⟩,f⟩;constructor
 . intro e;rw[c] at e;exact absurd rfl e
 . rintro⟨b,m,o,j⟩;exact absurd (h b Aa) j
section
variable {w0 w:At}{d p:AA}{kk bf:Nat}{Ta T:Fa}{c0 c n m q:Nat}{P:Nat->Prop}
def FsT.put{G:Ae}{S:Ab}{N:Ae}{O:Ag}{F:Nat->Ab}(h:FsT G N O kk F T c)(hp:Pl EZ G S N O kk F)(z:∀ j x,T j=H x->1<=j/\j<48)(w:1<=n)(q:n<48){kd:Nat}(B:1<=kd/\kd<=3){l:Int}(C:l=0\/l=1)(g:F n=AI 128 0):
 FsT (OE G S N n (LG kd l)) (N.set n (LG kd l)) O kk F (upd T n (H ⟨kd,[],[]⟩)) c/\Pl EZ (OE G S N n (LG kd l)) S (N.set n (LG kd l)) O kk F:=by
 have k:1<=(kd:Int)/\(kd:Int)<=3:=Aa;obtain⟨s,D⟩:=hp.node w q (y:=LG kd l) rfl (VB k C) (fun a b e=>e.elim) (fun _=>g) (fun e=>absurd rfl e) (fun i A f=>by rw[g] at f;exact absurd (UJ _ _ A) f);have m:n<N.length:=by rw[hp.tab.n.len];exact q
 refine⟨⟨fun j y e=>?_,fun j o p e=>?_,h.cn⟩,s⟩
 . by_cases d:j=n
   . subst d
     rw[Dy] at e;cases e
     exact mT B (by rw[Eb m,AG rfl]) g
   . rw[Cx _ _ d] at e
     obtain⟨⟨M,t,u⟩,v⟩:=h.nd j y e;obtain⟨o,p⟩:=z j y e;have r:(N.set n (LG kd l)).getD j []=N.getD j []:=(by rw[Eb m,AJ d]);exact⟨⟨M,t.other hp s D o p r rfl,u⟩,by unfold CE;rw[r];exact v⟩
 . by_cases d:j=n
   . subst d;rw[Dy] at e;cases e
   . rw[Cx _ _ d] at e
     have:=h.fr j o p e;unfold CE;rw[Eb m,AJ d];exact this
def InK(w0:At)(d p:AA)(kk bf:Nat)(Ta:Fa)(c0 n m:Nat)(T:Fa)(c q kd:Nat)(l:Int)(P:Nat->Prop)(w:At):Prop:=
 ∃ X N O F b f a Q,Fsm w0 w P d p X (Ed kk) N O kk F bf/\FsT X.is N O kk F Ta c0/\Fmd w P d p X (Ed kk) b f kk a bf/\FsT X.call b f kk a T c/\PutS X Q/\
   (∀ g,g<kk->(Cp g:Int)∈Q/\(Cp g:Int)+1∈Q)/\((C5 (Ed kk) (n / 8):Nat):Int)∈Q/\((C5 (Ed kk) (m / 8):Nat):Int)∈Q/\Q.length<=q/\b.getD n []=LG kd l/\a n=AI 128 0
def InT.make(h:InT w0 d p kk bf Ta c0 n m T c q P w)(v:Te T (n-1))(h1:2<=n)(g:n<48)(K:∀ j x,T j=H x->x.kd≠0)(hq:q<=30){kd:Nat}(L:1<=kd/\kd<=3):
 AH Aq 24 #[Ax (H ⟨bf,0,Ar⟩),Ao Ap kd] w fun e w'=>e=Av (AT #[Ao Ap n,Ao Ap 0])/\∃ o,InK w0 d p kk bf Ta c0 n m (upd T n (H ⟨kd,[],[]⟩)) c q kd 0 o w'/\Chg P o w w':=by
 obtain⟨X,N,O,F,i,G,y,Q,a,I,b,r,C,W,D,Y,Z⟩:=h;have S:∀ j x,T j=H x->1<=j/\j<48:=fun j x e=>by have:=(v j).1 (by rw[e];rfl);omega
 have R:T n=Ar:=by
  cases e:T n with
  |none=>rfl
  |some x=>have:=(v n).1 (by rw[e];rfl);omega
 have f:FreeAt i n:=⟨Aa,g,r.fr n Aa g R,fun j V j2=>by
  obtain⟨x,B⟩:=Option.isSome_iff_exists.1 ((v j).2 ⟨V,Aa⟩);rw[(r.nd j x B).kd];have:=K j x B;omega⟩
 have U:i.getD n []=zeroI:=by
  have J:(i.getD n []).getD 0 0=0:=f.2.2.1;have s:=b.pl.tab.n.frm n g;unfold Ee at s;rw[AG J] at s;exact Ba s
 have z:y n=AI 128 0:=b.pl.fi.m0 n Aa g (by rw[U];rfl);refine(Y3 b.inv b.wi (by have:=C.le;omega) b.fs b.pl.tab f (k:=kd) Aa (AP _ _)).mono ?_;rintro e w' ⟨he,o,A,u⟩;obtain⟨t,E⟩:=b.fs.chg u b.nb;obtain⟨t1,t2⟩:=r.put b.pl S Aa g L (l:=0) (A4 rfl) z;have M:n<i.length:=by rw[b.pl.tab.n.len];exact g
 exact⟨he,o,⟨putI X (Ed kk) i n (MP kd),N,O,F,i.set n (LG kd 0),G,y,Q,a.next A b.wi ⟨rfl,rfl⟩ u,I,⟨A,b.wi,t2,b.st,t,E⟩,t1,C.add D rfl,W,D,Y,Z,by rw[Eb M,AG rfl],z⟩,u⟩
def InT.full(h:InT w0 d p kk bf Ta c0 n m T c q P w)(i:Te T 47)(g:∀ j x,T j=H x->x.kd≠0){kd:Nat}(v:1<=kd/\kd<=3):
 AH Aq 24 #[Ax (H ⟨bf,0,Ar⟩),Ao Ap kd] w fun e w'=>e=Av (AT #[Ao Ap 0,Ao Ap 13])/\AB w.heap.size w w':=by
 obtain⟨X,N,O,F,s,t,o,Q,a,u,b,r,z,A,B,C,D⟩:=h;refine VW b.inv b.fs (by rw[b.cur];exact b.pl.tab) (fun j l y=>?_) (k:=kd) Aa (AP _ _);obtain⟨x,f⟩:=Option.isSome_iff_exists.1 ((i j).2 ⟨l,Aa⟩);rw[(r.nd j x f).kd];have:=g j x f;omega
def InK.get{kd:Nat}{l:Int}(h:InK w0 d p kk bf Ta c0 n m T c q kd l P w)(g:1<=n)(f:n<48):AH Aq 13 #[Ax (H ⟨bf,0,Ar⟩),Ao Ap n] w fun e w'=>e=Av (AT #[BS #[Ao Ap kd,Ao Ap l,Ao Ap 0,Ao Ap 0,Ao Ap 0,Ao Ap 0,Ao Ap 0,Ao Ap 0,Ao Ap 0,Ao Ap 0,Ao Ap 0,Ao Ap 0,Ao Ap 0,Ao Ap 0],Ao Ap 0])/\AB w.heap.size w w':=by
 obtain⟨X,N,O,F,k,o,j,Q,a,s,b,r,t,u,v,x,y,i,z⟩:=h;have:=He b.inv b.fs (by rw[b.cur];exact b.pl.tab) g f (AP _ _);rw[i] at this;exact this
def InK.put{kd:Nat}{l l':Int}(h:InK w0 d p kk bf Ta c0 n m T c q kd l P w)(z:∀ j x,T j=H x->1<=j/\j<48)(y:T n=H ⟨kd,[],[]⟩)(L:1<=kd/\kd<=3)(v:l'=0\/l'=1)(W:q<=30):
 AH Aq 26 #[Ax (H ⟨bf,0,Ar⟩),Ao Ap n,BS #[Ao Ap kd,Ao Ap l',Ao Ap 0,Ao Ap 0,Ao Ap 0,Ao Ap 0,Ao Ap 0,Ao Ap 0,Ao Ap 0,Ao Ap 0,Ao Ap 0,Ao Ap 0,Ao Ap 0,Ao Ap 0]] w fun e w'=>e=Av (Ao Ap 0)/\∃ g,InT w0 d p kk bf Ta c0 n m T c q g w'/\Chg P g w w':=by
 obtain⟨X,N,O,F,t,I,E,Q,a,J,b,r,B,M,C,R,S,Y,U⟩:=h;obtain⟨A,f⟩:=z n _ y;have s:1<=(kd:Int)/\(kd:Int)<=3:=Aa;refine(K5 b.inv b.wi (by have:=B.le;omega) b.fs b.pl.tab A f (x:=LG kd l') rfl (VB s v) (AP _ _)).mono ?_;rintro e w' ⟨he,g,u,o⟩;obtain⟨k,G⟩:=b.fs.chg o b.nb;obtain⟨D,V⟩:=r.put b.pl z A f L v U;have K:upd T n (H ⟨kd,[],[]⟩)=T:=by
  funext i;by_cases e:i=n
  . rw[e,Dy,y]
  . rw[Cx _ _ e]
 rw[K] at D;exact⟨he,g,⟨putI X (Ed kk) t n (LG kd l'),N,O,F,t.set n (LG kd l'),I,E,Q,a.next u b.wi ⟨rfl,rfl⟩ o,J,⟨u,b.wi,V,b.st,k,G⟩,D,B.add C rfl,M,C,R,S⟩,o⟩
def Tsd.restT{X:XSt}{b:Nat}(h:Tsd w0 w P d (Ax (H ⟨b,0,Ar⟩)) X (Ed kk) newN (Gv kk) kk bf)(a:1<=kk)(g:kk<5):RestT w0 d (Ax (H ⟨b,0,Ar⟩)) kk bf T0 6 P w:=by
 have j:=m7 kk g a;have k:(⟨2,[],[]⟩:Nd).sz=0:=rfl;refine⟨X,newN,Gv kk,sW,⟨h.inv,h.wi,h.fu,⟨h.has,h.ok,h.tab,kF a _⟩,gR a Aa,h.fs,h.nb,h.bN,h.pN,h.be⟩,⟨fun i x e=>?_,fun i l n e=>?_,by rw[j];exact AE _⟩⟩
 . unfold T0 at e
   split at e
   . next f=>
     subst f;cases e
     exact⟨⟨fun _=>Ar,U8 _,fun _=>DirN.nil (U8 []).ok fun _=>rfl,fun e=>absurd rfl e⟩,Pw (c:=0) (m:=1) Af Af⟩
   . cases e
 . have:i≠1:=fun f=>by subst f;cases e
   exact(Pw (c:=0) (m:=i) Af Aa).trans (by rw[AJ this,AJ Aa])
def aR{kk:Nat}(f:1<=kk)(g:kk<5)(w0:At){w:At}(hb:AB w0.heap.size w0 w):AH Aq 15 #[Ao Ap (64*(kk:Int)),Ao Ap (64*(kk:Int))] w fun e w'=>∃ b,e=Av (Ax (H ⟨b,0,Ar⟩))/\AB w0.heap.size w0 w'/\
 AH Aq 14 #[Ax (H ⟨b,0,Ar⟩)] w' fun e a=>∃ bf P d,e=Av (Ax (H ⟨bf,0,Ar⟩))/\RestT w0 d (Ax (H ⟨b,0,Ar⟩)) kk bf T0 6 P a:=by
 refine(oC f Aa w0 hb).mono ?_;rintro e w' ⟨b,he,c,h⟩;refine⟨b,he,c,h.mono ?_⟩;rintro k a ⟨bf,P,d,X,j,i,_⟩;exact⟨bf,P,d,j,i.restT f g⟩
end
structure ClD (w0:At) (bf:Nat) (p:AA) (Φ:(Nat->Prop)->At->Prop):Prop where
 far:∀ {P w w' Z Z'},Φ P w->Chg Z Z' w w'->FarF w0 P bf Z->Φ P w'
 lt:∀ {P w},Φ P w->∀ x,P x->w0.heap.size<=x/\x<w.heap.size
 be:∀ {P w},Φ P w->AB w0.heap.size w0 w
 fs:∀ {P w},Φ P w->FsAt w bf p/\¬ P bf/\w0.heap.size<=bf
def Ql{w:At}{v:AA}{l:List Hg}(C:ESl w v l)(M:l.length<=1000000)(s:ByteArray):AH Aq 21 #[v,.string s] w fun e w'=>e=Av (AY (decide (DM l s<l.length)))/\w=w':=by
 obtain⟨I,J,rfl,q⟩:=C.open';obtain⟨n,f⟩:=nm l.length;have x:Hid (∀ (k:Nat),k<n->∃ b a i t,I=H ⟨b,a,Ar⟩/\w.cell? ⟨b,a+k*2,Ar⟩=H (Ao Ap i)/\w.cell? ⟨b,a+k*2+1,Ar⟩=H (.string t)/\t=(l.getD k default).2):=wN fun k L=>by
  obtain⟨b,a,e,c,o⟩:=q Aa;obtain⟨F,G⟩:=o k Aa;exact⟨b,a,_,_,e,F,G,rfl⟩
 have y:=wN f;rw[<- f] at M;have r:Hid (∀ j,Gj l s=(j:Int)->0<=(j:Int)->decide (DM l s<l.length)=AQ):=wN fun j h P=>AK (by
  unfold Gj at h;split at h
  . assumption
  . omega)
 have u:Hid (Gj l s= -1->decide (DM l s<l.length)=AN):=wN fun h=>AM fun K=>by
  unfold Gj at h;rw[AG K] at h;omega
 obtain⟨R,A⟩:=nm (decide (DM l s<l.length));rw[<- A] at r u |-
 rw[<- f];clear C q f A;go_enter func21,ntmps21;go_wp2;go_loopw [5,8] (fun _ p wr=>w=wr/\∃ k:Nat,k<=n/\p=Ao Ap k/\Hid (∀ j,j<k->UR (l.getD j default).2 s=AN)) (fun _ p _=>n-(intOf p).toNat)
 case atStart=>exact⟨rfl,0,A7 _,rfl,wN fun j d=>absurd d (Bm j)⟩
 case round=>
  obtain⟨rfl,k,L,rfl,g⟩:=hrel;by_cases c:k<n
  . have Q:(k:Int)<(n:Int):=by omega
    obtain⟨b,a,i,t,rfl,N,O,D⟩:=x.out k c;have z:=wN D;clear D x;cases B:t.toList==s.toList
    . have E:Hid (UR t s=AN):=wN B
      go_wp2;go_roundw
      case rel=>exact⟨by trivial,k+1,Aa,by go_num,wN fun j d=>(by
       rcases Nat.lt_or_eq_of_le (Nat.le_of_lt_succ d) with h|h
       . exact g.out j h
       . rw[h,<- z.out];exact E.out)⟩
      case measure=>simp[intOf];omega
    . have m:Hid (R=AQ):=wN (r.out k (TP (by have:=y.out;omega) (by rw[<- z.out];exact B) g.out) Aa)
      go_wp2;go_ret;exact⟨by rw[m.out];rfl,rfl⟩
  . obtain rfl:k=n:=by omega
    have m:Hid (R=AN):=wN (u.out (NG fun j d=>g.out j (by have:=y.out;omega)));go_wp2;go_ret;exact⟨by rw[m.out];rfl,rfl⟩
section
variable (w0:At) (d p:AA) (kk bf:Nat) (Ta:Fa) (c0 n m:Nat) (T:Fa) (c q:Nat)
def Pb:ClD w0 bf p (RestT w0 d p kk bf T c):=
 ⟨fun h f g=>h.far f g,fun⟨X,N,O,F,a,_⟩ x b=>⟨a.pN x b,a.inv.lt x b⟩,fun⟨X,N,O,F,a,_⟩=>a.be,fun⟨X,N,O,F,a,_⟩=>⟨a.fs,a.nb,a.bN⟩⟩
def gU:ClD w0 bf p (InT w0 d p kk bf Ta c0 n m T c q):=
 ⟨fun h j k=>h.far j k,fun⟨X,N,O,F,f,g,b,Q,a,_⟩ x i=>⟨a.pN x i,a.inv.lt x i⟩,fun⟨X,N,O,F,f,g,b,Q,a,_⟩=>a.be,fun⟨X,N,O,F,f,g,b,Q,a,_⟩=>⟨a.fs,a.nb,a.bN⟩⟩
def rq(kd:Nat)(l:Int):ClD w0 bf p (InK w0 d p kk bf Ta c0 n m T c q kd l):=
 ⟨fun⟨X,N,O,F,h,i,g,Q,a,o,b,r⟩ j f=>⟨X,N,O,F,h,i,g,Q,a.far j f.hi f.ap f.nf,o,b.farM j f.ap f.nf,r⟩,fun⟨X,N,O,F,h,i,g,Q,a,_⟩ x k=>⟨a.pN x k,a.inv.lt x k⟩,fun⟨X,N,O,F,h,i,g,Q,a,_⟩=>a.be,fun⟨X,N,O,F,h,i,g,Q,a,_⟩=>⟨a.fs,a.nb,a.bN⟩⟩
end
structure TwS (w0:At) (bf:Nat) (Φ:(Nat->Prop)->At->Prop) (P:Nat->Prop) (bt:Nat) (T:Fa) (A Q:Nat->Nat) (w:At):Prop where
 ph:Φ P w
 tr:TreH w w0.heap.size bt T A Q
 ap:∀ k,QZ w bt T A Q k->¬ P k/\k≠bf
section
variable {w0 w w':At}{bf bt:Nat}{p:AA}{Φ Ψ:(Nat->Prop)->At->Prop}{P P':Nat->Prop}{T T':Fa}{A Q A' Q':Nat->Nat}
def TreH.bLo{B:Nat}(h:TreH w B bt T A Q){k:Nat}(m:QZ w bt T A Q k):B<=k/\k<w.heap.size:=by
 rcases m with(e| ⟨i,d,f,e⟩)| ⟨i,d,f,v,l,j⟩
 . rw[e];exact⟨h.lo,h.lt⟩
 . obtain⟨x,g⟩:=Option.isSome_iff_exists.1 f
   have c:=h.nd i x d g;rcases e with e|e
   . rw[e];exact⟨c.lo.1,c.lt.1⟩
   . rw[e];exact⟨c.lo.2,c.lt.2⟩
 . obtain⟨x,g⟩:=Option.isSome_iff_exists.1 f
   obtain⟨n,a,b⟩:=(h.nd i x d g).row;rw[AD _ _ _ _ _ _ a] at l;have e:n=v:=Bc l;rw[<- e] at j;exact b.lo j
def TwS.low(c:ClD w0 bf p Φ)(h:TwS w0 bf Φ P bt T A Q w)(hb:AB w.heap.size w w'):TwS w0 bf Φ P bt T A Q w':=by
 obtain⟨d,f⟩:=h.tr.keepB (w':=w') fun k b=>hb.block k (h.tr.bLo b).2
 exact⟨c.far h.ph (Chg.of_below (P:=fun _=>False) hb) ⟨fun x a=>a.elim,fun x _ a=>a,fun a=>a⟩,d,fun k b=>h.ap k ((f k).1 b)⟩
def TwS.fsy(h:TwS w0 bf Φ P bt T A Q w)(hp:Ψ P' w')(c:Chg P P' w w'):TwS w0 bf Ψ P' bt T A Q w':=by
 obtain⟨d,f⟩:=h.tr.keepB (w':=w') fun k a=>(c.keep k (h.tr.bLo a).2 (h.ap k a).1).1
 exact⟨hp,d,fun k a=>by
  have b:=(f k).1 a;exact⟨(c.keep k (h.tr.bLo b).2 (h.ap k b).1).2,(h.ap k b).2⟩⟩
def TwS.tree(a:ClD w0 bf p Φ)(h:TwS w0 bf Φ P bt T A Q w)(j:TreH w' w0.heap.size bt T' A' Q')(f:Chg (QZ w bt T A Q) (QZ w' bt T' A' Q') w w'):TwS w0 bf Φ P bt T' A' Q' w':=by
 refine⟨a.far h.ph f ⟨fun x b=>(h.tr.bLo b).1,fun x d b=>(h.ap x b).1 d,fun b=>(h.ap bf b).2 rfl⟩,j,fun k i=>?_⟩;by_cases c:k<w.heap.size
 . by_cases g:QZ w bt T A Q k
   . exact h.ap k g
   . exact absurd i (f.keep k c g).2
 . exact⟨fun d=>by have:=(a.lt h.ph k d).2;omega,fun e=>by have:=(Au.1 (a.fs h.ph).1).1;omega⟩
def TwS.be(a:ClD w0 bf p Φ)(h:TwS w0 bf Φ P bt T A Q w):AB w0.heap.size w0 w:=a.be h.ph
end
end
section
open Go.RowKit
def mC{s:ByteArray}(h:0<s.size):((s.extract 0 1).toList==[47])=decide (s.data.toList.head? =H 47):=by
 have a:(s.extract 0 1).toList=[s[0]]:=by
  rw[Cg,Lib.extract_data,CX];have:=Pr h;rw[CX] at this;rw[this];rfl
 rw[a,Kw h];by_cases e:s[0]=47
 . rw[e];rfl
 . rw[AM (fun h=>e (Bc h))]
   simp[e]
def rn(W:At)(s:ByteArray)(j:Nat)(h:j<=s.size):(Instr.slice 9 (.string s) Ar (H (Ao Ap (j:Int))) Ar).run Aq W=.ok (.string (s.extract 0 j)) W:=by
 have a:(j:Int)<=(s.size:Int):=Aa;simp[Instr.slice,Instr.sliceBounds,Instr.sliceBound,asIntOf,Ck underlying9];intro b;exfalso;omega
def iv(W:At)(s:ByteArray)(i:Nat)(h:i<=s.size):(Instr.slice 9 (.string s) (H (Ao Ap (i:Int))) Ar Ar).run Aq W=.ok (.string (s.extract i s.size)) W:=by
 have a:(i:Int)<=(s.size:Int):=Aa;simp[Instr.slice,Instr.sliceBounds,Instr.sliceBound,asIntOf,Ck underlying9];intro b;exfalso;omega
def jb(s:ByteArray)(w:At):AH Aq 39 #[.string s,.string ⟨#[47]⟩] w fun e w'=>e=Av (AY (decide (s.data.toList.head? =H 47)))/\w=w':=by
 obtain⟨R,a⟩:=nm (decide (s.data.toList.head? =H 47));rw[<- a];by_cases b:s.size=0
 . have d:R=AN:=by rw[a,RX b];rfl
   have g:¬ (1:Int)<=(s.size:Int):=Aa;clear a b;subst d;go_enter func39,ntmps39;go_wp2;go_ret;exact⟨rfl,rfl⟩
 . have g:(1:Int)<=(s.size:Int):=by omega
   have c:=wN (show((s.extract 0 1).toList==[47])=R by rw[a];exact mC Aa);clear a b;go_enter func39,ntmps39;go_wp2;go_ret;exact⟨Dl c.out,rfl⟩
def av(s:ByteArray)(w:At):AH Aq 16 #[.string s,.string ⟨#[47]⟩] w fun e w'=>e=Av (AY (decide (s.data.toList.head? =H 47)))/\w=w':=by
 have K:=jb s;obtain⟨R,a⟩:=nm (decide (s.data.toList.head? =H 47));rw[<- a] at K |-
 clear a;go_enter func16,ntmps16;go_wp2_with (go_at_call 39;(with_reducible refine Ad (K _) ?_);rintro w' rfl)
 go_ret;exact⟨rfl,rfl⟩
def ko(s:ByteArray)(w:At):AH Aq 169 #[.string s,.string ⟨#[47]⟩] w fun e w'=>e=Av (Ao Ap (Lib.indexByte s.data.toList 47))/\w=w':=by
 have K:=fun W=>VK s 47 W
 obtain⟨R,a⟩:=nm (Lib.indexByte s.data.toList 47);have c:∀ W,AH Aq 82 #[.string s,Ao .u8 47] W fun e w'=>e=Av (Ao Ap R)/\W=w':=fun W=>by rw[a];exact K W
 rw[<- a];have b:Hid (([47]==s.toList)=AQ->R=0):=wN fun h=>by
  have d:s.data.toList=[47]:=by rw[<- Cg];exact((beq_iff_eq).1 h).symm
  rw[a,d];rfl
 clear a K;cases f:([47]==s.toList)
 . go_enter func169,ntmps169
   go_wp2_with (go_at_call 82;(refine Ad (c _) ?_);rintro w' rfl)
   go_ret;exact⟨rfl,rfl⟩
 . have e:R=0:=b.out f
   subst e;go_enter func169,ntmps169;go_wp2;go_ret;exact⟨rfl,rfl⟩
def mJ(s:ByteArray)(w:At):AH Aq 127 #[.string s,.string ⟨#[47]⟩] w fun e w'=>e=Av (Ao Ap (Lib.indexByte s.data.toList 47))/\w=w':=by
 have K:=ko s;obtain⟨R,a⟩:=nm (Lib.indexByte s.data.toList 47);rw[<- a] at K |-
 clear a;go_enter func127,ntmps127;go_wp2_with (go_at_call 169;(with_reducible refine Ad (K _) ?_);rintro w' rfl)
 go_ret;exact⟨rfl,rfl⟩
def Yq(s:ByteArray)(z:s.size<=1000000)(w:At):AH Aq 83 #[.string s] w fun e w'=>e=Av (.string s)/\AB w.heap.size w w':=by
 by_cases h:s.size=0
 . have e:s=⟨#[]⟩:=ByteArray.ext (Array.eq_empty_of_size_eq_zero h)
   subst e;go_enter func83,ntmps83;go_wp2;go_ret;exact⟨rfl,AP _ _⟩
 . have B:(Aq.info? 5).map (·.size)=H 1:=by kernel_rfl
   have q:Aq.cellsOf 5=1:=Ac;obtain⟨M,i⟩:∃ M:Array AA,M=AW s.size (Ao .u8 0):=⟨_,rfl⟩;have l:M.size=s.size:=(by rw[i,Array.size_replicate]);have r:=Lib.run_copy_row_string (P:=Aq) (w.alloc (Ay M 5)) 77 9 3 5 w.heap.size 0 s.size s.size s M 5 underlying77 B (AC w _) (AE _) Aa;obtain⟨Y,n⟩:=nm ((M.toList.take 0 ++ Lib.byteCells s.data.toList ++ M.toList.drop (0+s.size)).toArray);rw[<- n] at r;have a:Y.toList=Lib.byteCells s.data.toList:=by
    rw[n,List.toList_toArray,List.take_zero,List.nil_append,GR (by rw[Array.length_toList];omega),Cc]
   have o:Y.size=s.size:=(by rw[<- Array.length_toList,a,Lib.byteCells_length,<- Lib.size_eq]);obtain⟨g,f⟩:=nm ((w.alloc (Ay M 5)).setRow w.heap.size Y);have b:g.heap[w.heap.size]? =H (Ay Y 5 (0,0)):=(by rw[f];exact CJ _ _ M _ 5 (0,0) (AC w _));have c:AB w.heap.size w g:=by
    rw[f];exact(AF w _).trans ⟨rfl,rfl,rfl,Ai,fun k D=>setRow_other _ _ _ _ Aa⟩
   rw[<- f] at r;have d:s.data.toList≠[]:=fun e=>h (by rw[Lib.size_eq,e];rfl)
   have m:=Lib.run_unsafeString_row (P:=Aq) g 224 3 9 5 underlying224 q w.heap.size Y.size (by unfold At.shape?;rw[b]) s.data.toList d (by rw[<- Lib.size_eq];omega) (by rw[<- Lib.size_eq];omega)
    (fun j x A=>Lib.cells_of_row b Y.size j _ (by rw[A2 (by rw[Array.length_toList];exact AE _),a];simp[Lib.byteCells,A]))
   rw[<- Lib.size_eq] at m;have t:=wN (Lib.below_freeze c (p:=⟨w.heap.size,0,Ar⟩) (AE _) s.size);have E:(s.size:Int)<=1000000:=Aa;have y:(0:Int)<(s.size:Int):=Aa;have v:0<s.size:=Aa;have C:((s.size:Int)==0)=AN:=(by rw[beq_eq_false_iff_ne];omega);have u:=wN i;clear n a o f b c d l i h z;go_enter func83,ntmps83;go_wp2_with (refine CT _ rfl _ _ rfl s.size s.size rfl rfl rfl Aa ?_;rw[<- u.out])
   go_ret;exact⟨rfl,t.out⟩
def ff(s:ByteArray)(b:s.size<=1000000)(w:At):AH Aq 42 #[.string s] w fun e w'=>e=Av (.string s)/\AB w.heap.size w w':=by
 have K:=Yq s b;go_enter func42,ntmps42;go_wp2_with (go_at_call 83;(with_reducible refine Ad (K _) ?_);rintro w' a)
 go_ret;exact⟨rfl,a⟩
section
variable {P:Program}{Q:Exit->Act->At->Prop}{l n:Nat}
def ef{b:Array BK}(hd:∀ (i:Nat) (o:BK),b[i]? =H o->Of o=AQ)(d:¬ LetsOut Q){i:Nat}{K g:Act->At->Prop}(c:∀ a w,K a w->g a w){a:Act}{w:At}(h:wpOp P b Q i K a w):wpOpIn (Fence.wide.inRound l) n P b Q i g a w:=by
 unfold wpOpIn;unfold wpOp at h;cases f:b[i]? with
 |none=>rw[f] at h;exact c _ _ h
 |some o=>
  rw[f] at h
  dsimp only at h |-
  by_cases j:Region.wanted o (yielded b a.tmps)=AQ
  . rw[AG j] at h |-
    rcases h with h|h
    . exact aj (hd i o f) c h
    . exact absurd h.2 d
  . rw[AJ j] at h |-
    exact⟨fun _ _=>trivial,c _ _ h⟩
def Wg{md:Region.Mode}{d:Array BK}(hd:∀ (i:Nat) (o:BK),d[i]? =H o->Of o=AQ)(f:¬ LetsOut Q):∀ (b:Nat) (c:Array Bool) (a:Act) (w:At),wpAny P md d Q b c a w->wpAnyIn (Fence.wide.inRound l) n P md d Q b c a w
 |0,_,_,_,h=>h
 |b+1,_,_,_,h=>⟨h.1,fun i hi=>ef hd f (fun a w k=>Wg hd f b _ a w k) (h.2 i hi)⟩
end
section
variable {P:Program}{Q:Exit->Act->At->Prop}{l n:Nat}
def mK{f:Nat}{L:List BK}{a:Act}{w:At}(d:P.follows .mixedOrders=AQ)(hd:L.all Of=AQ)(b:¬ LetsOut Q)
 (h:wpAny P .any L.toArray Q L.toArray.size (AW L.toArray.size AN) a w.drew):(Code.region f L.toArray AQ).wpIn (Fence.wide.inRound l) n P Q a w:=
 wpIn_region_any d (Wg (fun i o c=>by
  rw[List.getElem?_toArray] at c;exact Dn.1 hd o (List.mem_of_getElem? c)) b _ _ _ _ h)
end
def wt{α:Type}(b:At->At->Prop)(I X:List α->At->Prop)(a:List α)(W:At):Exit->Act->At->Prop
 |.normal,_,V=>KeepsOthers W V/\b W V/\I a V
 |.ret,_,V=>KeepsOthers W V/\X a V
 |_,_,_=>False
def jt{α:Type}(n:Nat)(P:Program)(gf:Nat)(lb:Array AA)(b:α->Array AA)(d C:At->At->Prop)(L:List α)(w:At):Prop:=
 ∀ (l:Nat) (J X:List α->At->Prop) (W:At),AB w.heap.size w W->AbidesFrom W.heap.size J->AbidesFrom W.heap.size X->(∀ c V V',C V V'->J c V->J c V')->
   (∀ a x V,J a V->a ++ [x] <+: L->YieldAt Fence.wide (n-1) P l (b x) V fun e V'=>(e=Av (AY AQ)/\J (a ++ [x]) V'/\d V V')\/(e=Av (AY AN)/\X (a ++ [x]) V'))->
   J [] W->CallsIn Fence.wide n P gf (#[.func (.yield l) #[] #[]] ++ lb) W fun e V=>(∃ v,e=Av v)/\(J L V\/∃ a,X a V)
structure BkC (rec:LoopState->Option Code->Loop) (q:Nat) (st:LoopState) (pe:Option Code) (V:At):Prop where
 lp:V.heap[q+1]? =H (.loop (rec st pe))
 df:V.heap[q]? =H (.deferred (H []))
section
variable {rec:LoopState->Option Code->Loop}{q:Nat}{st st':LoopState}{pe pe':Option Code}{V V':At}
def BkC.lt(h:BkC rec q st pe V):q+1<V.heap.size:=(Au.1 h.lp).1
def BkC.turn(h:BkC rec q st pe V):BkC rec q st' pe' (V.putObj (q+1) (.loop (rec st' pe'))):=
 ⟨At.putObj_heap_same h.lt,(At.putObj_heap_other Aa).trans h.df⟩
def BkC.keep(h:BkC rec q st pe V)(a:KeepsOthers V V'):BkC rec q st pe V':=⟨a.same _ _ h.lp rfl,a.same _ _ h.df rfl⟩
def BkC.abide(h:BkC rec q st pe V){row:Option Nat}(a:V.grownBy V' row)(b:∀ r,row=H r->∃ o:Obj,V.heap[r]? =H o/\o.isWalk=AQ):BkC rec q st pe V':=
 ⟨(grownBy_keeps a b h.lp rfl).trans h.lp,(grownBy_keeps a b h.df rfl).trans h.df⟩
end
def mH{α:Type}{P:Program}{n:Nat}(h1:1<=n){g:Operand}{ps:Array Tmp}{assign body:Code}{Q:Exit->Act->At->Prop}{a:Act}{w:At}{gf:Nat}{lb:Array AA}
 (hg:a.eval g=.func (.func gf) #[] lb) (eg:∀ args w,(callFunc gf args).run P w=.ok (.enter gf args) w) {h:α->Array AA} {T C:At->At->Prop} {L:List α}
 (a7:jt (n-1) P gf lb h T C L w) (hC:∀ V V' k,C V V'->w.heap.size<=k->V'.heap[k]? =V.heap[k]?)
 (a0:∀ {A B D:At},T A B->T B D->T A D) (Z:∀ (W:At) (l:Nat) (o:Obj),w.heap.size<=l->T W (W.putObj l o)) (Kk:∀ x,(h x).size=ps.size)
 (I X:List α->At->Prop) (Y:OwnFrom w.heap.size I) (hX:OwnFrom w.heap.size X) (a4:∀ J V V',C V V'->I J V->I J V') (h0:I [] w) (a₁:α->Act)
 (pu:∀ (l:Nat) (x:α) (W:At) (K:Act->At->Prop),K (a₁ x) W->
   assign.wpIn (Fence.wide.inRound l) (n-1-1) P (Exit.then K (fun _ _ _=>False)) { tmps:=(ps.zip (h x)).foldl (fun t (p,v)=>t.setIfInBounds p v) a.tmps,defers:=[] } W)
 (vQ:∀ (l:Nat) (c:List α) (x:α) (W:At),I c W->c ++ [x] <+: L->body.wpIn (Fence.wide.inRound l) (n-1-1) P (wt T I X (c ++ [x]) W) (a₁ x) W)
 (vR:∀ (D:Nat) (W:At),w.heap.size<=D->I L W->W.heap[D]? =H (.deferred (H []))->Q .normal { a with defers:={ target:=.collected D,args:=#[] } :: a.defers } W)
 (vS:∀ (D:Nat) (c:List α) (W:At),w.heap.size<=D->X c W->W.heap[D]? =H (.deferred (H []))->Code.ret.wpIn Fence.wide n P Q { a with defers:={ target:=.collected D,args:=#[] } :: a.defers } W):
 (Code.rangeFunc g ps assign body).wpIn Fence.wide n P Q a w:=by
 refine wpIn_rangeFunc fun fn a6=>?_
 obtain⟨q,hq⟩:=nm w.heap.size;obtain⟨rec,F⟩:∃ rec:LoopState->Option Code->Loop,rec=fun st pe=>{ state:=st,pending:=pe,fn:=fn,tmps:=a.tmps,params:=ps,assign:=assign,body:=body,defers:=q }:=⟨_,rfl⟩
 have pr:(Instr.enterLoop fn a.tmps ps assign body Fence.wide.round).run P w=.ok (q+1,[{ target:=.collected q,args:=#[] }]) ((w.alloc (.deferred (H []))).alloc (.loop (rec .ready Ar))):=by
  rw[F,hq];exact run_enterLoop_outer _ _ _ _ _
 have l9:BkC rec q .ready Ar ((w.alloc (.deferred (H []))).alloc (.loop (rec .ready Ar))):=by
  rw[hq];refine⟨?_,(AB.heap_alloc _ _ _ Ai).trans (At.alloc_heap_new w _)⟩;have:=At.alloc_heap_new (w.alloc (.deferred (H []))) (.loop (rec .ready Ar))
  rwa [At.size_alloc] at this
 have a2:I [] ((w.alloc (.deferred (H []))).alloc (.loop (rec .ready Ar))):=Y.alloc _ (Y.alloc _ h0);have O:AB w.heap.size w ((w.alloc (.deferred (H []))).alloc (.loop (rec .ready Ar))):=((AP _ w).alloc (AE _) _).alloc Ai _;obtain⟨U,a5⟩:=nm ((w.alloc (.deferred (H []))).alloc (.loop (rec .ready Ar)));rw[<- a5] at pr l9 a2 O;have a8:w.heap.size<=U.heap.size:=O.size;refine⟨q+1,[{ target:=.collected q,args:=#[] }],U,{ target:=.fn (.func gf) lb,args:=#[.func (.yield (q+1)) #[] #[]] },U,gf,#[.func (.yield (q+1)) #[] #[]] ++ lb,U,pr,?_,fun _ _=>trivial,?_,fun _=>h1,?_⟩
 . simp only[resolve,hg]
   simp[go_sem]
 . simp[invoke,go_sem,eg]
 have z:∀ {st pe J V},BkC rec q st pe V->I J V->∀ st' pe',I J (V.putObj (q+1) (.loop (rec st' pe'))):=fun d N st' pe'=>Y.putObj _ N Aa d.lp rfl
 have S:∀ {st pe J V},BkC rec q st pe V->X J V->∀ st' pe',X J (V.putObj (q+1) (.loop (rec st' pe'))):=fun d N st' pe'=>hX.putObj _ N Aa d.lp rfl
 have G:∀ {A:At} {m:Option Nat},(∀ r,m=H r->U.heap.size<=r/\∃ o:Obj,A.heap[r]? =H o/\o.isWalk=AQ)->(∀ r,m=H r->w.heap.size<=r/\∃ o:Obj,A.heap[r]? =H o/\o.isCells=AN):=
  fun R r e=>by
   obtain⟨b,o,ho,hw⟩:=R r e;exact⟨AU a8 b,o,ho,Obj.not_cells_of_walk hw⟩
 have E:∀ (V:At) (j:Option Code),BkC rec q .busy Ar V->(Instr.endRound (q+1) j).run P V=.ok (AY j.isNone) (V.putObj (q+1) (.loop (rec (if j.isNone then .ready else .done) j))):=fun V j d=>by
  have:=run_endRound (P:=P) j d.lp;rw[F] at this |-
  exact this
 refine(a7 (q+1) (fun c V=>I c V/\BkC rec q .ready Ar V) (fun c V=>X c V/\BkC rec q .done (H .ret) V) U O
  (fun s A B m y u R=>⟨Y s A B m y.1 u (G R),y.2.abide u fun r e=>(R r e).2⟩)
  (fun s A B m y u R=>⟨hX s A B m y.1 u (G R),y.2.abide u fun r e=>(R r e).2⟩)
  (fun s A B hc y=>⟨a4 s A B hc y.1,(hC A B _ hc Aa).trans y.2.lp,(hC A B _ hc Aa).trans y.2.df⟩)
  (fun c x V y hp=>?_) ⟨a2,l9⟩).mono ?_
 . obtain⟨N,d⟩:=y
   have hy:=run_yield (P:=P) (args:=h x) d.lp (by rw[F];exact Kk x);have vT:=run_beginRound (P:=P) d.lp (by rw[F]);have M:BkC rec q .busy Ar (V.putObj (q+1) (.loop (rec .busy Ar))):=d.turn;have a1:=z d N .busy Ar;have JH:=Z V (q+1) (.loop (rec .busy Ar)) Aa;obtain⟨V2,Ur⟩:=nm (V.putObj (q+1) (.loop (rec .busy Ar)));rw[<- Ur] at M a1 JH;have vU:(Instr.beginRound (q+1)).run P V=.ok () V2:=(by rw[Ur];rw[F] at vT |-;exact vT);rw[F] at hy;refine⟨fn,_,assign,body,hy,roundIn_of_wpIn a6 (pu _ x V _ ⟨V2,vU,wpIn_mono (vQ _ c x V2 a1 hp) ?_⟩)⟩;intro e a3 V3 i;cases e with
   |normal=>
    obtain⟨k3,a9,i3⟩:=i;have f:=M.keep k3;exact⟨_,_,E V3 Ar f,A4 ⟨rfl,⟨z f i3 .ready Ar,f.turn⟩,a0 (a0 JH a9) (Z V3 (q+1) _ Aa)⟩⟩
   |ret=>
    obtain⟨k3,x3⟩:=i;have f:=M.keep k3;exact⟨_,_,E V3 (H .ret) f,A8 ⟨rfl,S f x3 .done (H .ret),f.turn⟩⟩
   |exit id=>exact i.elim
   |goto t=>exact i.elim
   |panic ch=>exact i.elim
   |outgrown=>exact i.elim
 . rintro e V ⟨⟨v,rfl⟩,(⟨N,d⟩| ⟨c,hx,d⟩)⟩
   . have:=run_endLoop (P:=P) d.lp (by rw[F];simp)
     exact⟨Ar,_,by rw[F] at this;exact this,vR q _ Aa (Y.putObj _ N Aa d.lp rfl) ((At.putObj_heap_other Aa).trans d.df)⟩
   . have:=run_endLoop (P:=P) d.lp (by rw[F];simp)
     exact⟨H .ret,_,by rw[F] at this;exact this,vS q c _ Aa (hX.putObj _ hx Aa d.lp rfl) ((At.putObj_heap_other Aa).trans d.df)⟩
attribute [local go_sem] BK.semAt_some
def H9:List UInt8->List UInt8->List (List UInt8)
 |[],c=>[c]
 |b :: r,c=>if b=47 then c :: H9 r [] else H9 r (c ++ [b])
def Qn:∀ l c,Un l c=(H9 l c).filter fun x=>decide (x≠[])
 |[],c=>by unfold Un H9;by_cases h:c=[] <;> simp[h]
 |b :: r,c=>by
  unfold Un H9;by_cases hb:b=47
  . rw[AG hb,AG hb,Qn r []]
    by_cases h:c=[] <;> simp[h]
  . rw[AJ hb,AJ hb,Qn r]
def il:∀ (l c:List UInt8),(47:UInt8) ∉ l->H9 l c=[c ++ l]
 |[],c,_=>by unfold H9;rw[Cc]
 |b :: r,c,h=>by
  have hb:b≠47:=fun e=>h (by rw[e];exact CO)
  unfold H9;rw[AJ hb,il r _ fun a=>h (B9 _ a),Bj];rfl
def iE(q:List UInt8):∀ (p c:List UInt8),(47:UInt8) ∉ p->H9 (p ++ 47 :: q) c=(c ++ p) :: H9 q []
 |[],c,_=>by
  rw[List.nil_append,H9,AG rfl,Cc]
 |b :: r,c,h=>by
  have hb:b≠47:=fun e=>h (by rw[e];exact CO)
  rw[List.cons_append,H9,AJ hb,iE q r _ fun a=>h (B9 _ a),Bj];rfl
def Tu:∀ l:List UInt8,(Lib.indexByte l 47= -1/\(47:UInt8) ∉ l)\/∃ i:Nat,Lib.indexByte l 47=(i:Int)/\i<l.length/\(47:UInt8) ∉ l.take i/\l=l.take i ++ 47 :: l.drop (i+1)
 |[]=>A4 ⟨rfl,Bu⟩
 |b :: r=>by
  by_cases hb:b=47
  . subst hb
    exact A8 ⟨0,by unfold Lib.indexByte;rfl,Ai,Ai,Ai⟩
  . have a:(b==47)=AN:=by rw[beq_eq_false_iff_ne];exact hb
    rcases Tu r with⟨d,f⟩| ⟨i,d,f,g,h⟩
    . refine A4 ⟨?_,fun c=>?_⟩
      . unfold Lib.indexByte
        rw[a,d];rfl
      . rcases Ez.1 c with e|e
        . exact hb e.symm
        . exact f e
    . refine A8 ⟨i+1,?_,Ak,fun c=>?_,?_⟩
      . unfold Lib.indexByte
        have:((i:Int)== -1)=AN:=(by rw[beq_eq_false_iff_ne];omega);rw[a,d,this];simp
      . rw[List.take_succ_cons] at c
        rcases Ez.1 c with e|e
        . exact hb e.symm
        . exact g e
      . rw[List.take_succ_cons,List.cons_append,List.drop_succ_cons,<- h]
def JA(s:ByteArray):List ByteArray:=(H9 s.data.toList []).map b_
def oa{s:ByteArray}(h:Lib.indexByte s.data.toList 47= -1):JA s=[s]:=by
 rcases Tu s.data.toList with⟨_,a⟩| ⟨i,b,_⟩
 . unfold JA
   rw[il _ _ a,List.nil_append];show [b_ s.data.toList]=[s]
   rw[QT]
 . omega
def ou{s:ByteArray}{i:Nat}(h:Lib.indexByte s.data.toList 47=(i:Int)):i<s.size/\JA s=s.extract 0 i :: JA (s.extract (i+1) s.size):=by
 rcases Tu s.data.toList with⟨c,_⟩| ⟨j,c,a,d,f⟩
 . omega
 . obtain rfl:j=i:=by omega
   rw[GH] at a;refine⟨a,?_⟩;have b:H9 s.data.toList []=s.data.toList.take j :: H9 (s.data.toList.drop (j+1)) []:=by
    have:=iE (s.data.toList.drop (j+1)) (s.data.toList.take j) [] d;rw[<- f,List.nil_append] at this;exact this
   unfold JA;rw[b,DT];congr 1
   . apply ByteArray.ext
     apply Array.ext';rw[Lib.extract_data,CX,Nat.sub_zero];rfl
   . congr 2
     rw[Lib.extract_data,A2 (by rw[By,GH];omega)]
def Kt(s:ByteArray):BX s=(JA s).filter fun p=>decide (p.size≠0):=by
 unfold BX JA;rw[Qn,List.filter_map];congr 1;apply List.filter_congr;intro x _;show decide (x≠[])=decide ((b_ x).size≠0)
 have:(b_ x).size=x.length:=rfl;rw[this];cases x <;> simp
def wL(sB eB vB:Nat)(W a:At):Prop:=a.heap[sB]? =W.heap[sB]? /\a.heap[eB]? =W.heap[eB]? /\a.heap[vB]? =W.heap[vB]?
def CS(sB:Nat)(V a:At):Prop:=∃ r:ByteArray,a=V.setCell ⟨sB,0,Ar⟩ (.string r)
def Vf(sB:Nat)(V:At):Nat:=match V.cell? ⟨sB,0,Ar⟩ with
 |some (.string r)=>r.size
 |_=>0
def VY{n:Nat}(hn:1<=n){sB eB vB:Nat}{s:ByteArray}(hs:s.size<=1000000){w:At}(qp:sB≠eB)(O:sB≠vB)
 (E:w.heap[sB]? =H (Ay #[.string s] 9 (0,0))) (F:w.heap[eB]? =H (Ay #[.string ⟨#[47]⟩] 9 (0,0))) (G:w.heap[vB]? =H (Ay #[Ao Ap 0] 3 (0,0))):
 jt n Aq 125 #[Ax (H ⟨eB,0,Ar⟩),Ax (H ⟨sB,0,Ar⟩),Ax (H ⟨vB,0,Ar⟩)] (fun x=>#[.string x]) (wL sB eB vB) (CS sB) (JA s) w:=by
 intro l J Jx W t hJ I X Y V;have T:W.heap[sB]? =H (Ay #[.string s] 9 (0,0)):=(t.block _ (Au.1 E).1).trans E;have D:W.heap[eB]? =H (Ay #[.string ⟨#[47]⟩] 9 (0,0)):=(t.block _ (Au.1 F).1).trans F;have U:W.heap[vB]? =H (Ay #[Ao Ap 0] 3 (0,0)):=(t.block _ (Au.1 G).1).trans G;have HG:=wN (And.intro T (And.intro D U));have H0:=wN V;have HC:=wN X;have R:=wN Y;have cE:=Cb D;clear t E F G hJ I Y V T D U X;refine callsIn_of_wp func125 rfl trivial ?_ rfl;simp only[ntmps125,List.size_toArray,BJ,List.length_nil,Nat.reduceAdd,Nat.reduceSub,Array.replicate_succ,Array.replicate_zero,List.push_toArray,List.append_toArray,List.nil_append,List.cons_append]
 gi_wp2
 gi_loopw [7] (fun s7 wr=>∃ (r:ByteArray) (a:List ByteArray),Hid (r.size<=s.size/\a ++ JA r=JA s/\J a wr/\wr.heap[sB]? =H (Ay #[.string r] 9 (0,0))/\wr.heap[eB]? =H (Ay #[.string ⟨#[47]⟩] 9 (0,0))/\wr.heap[vB]? =H (Ay #[Ao Ap 0] 3 (0,0)))) (fun _ wr=>Vf sB wr)
 case atStart=>exact⟨s,[],wN ⟨AE _,rfl,H0.out,HG.out⟩⟩
 case round=>
  obtain⟨r,a,b⟩:=hrel;have c1:=Cb b.out.2.2.2.1;have c2:=Cb b.out.2.2.2.2.1;have c3:=Cb b.out.2.2.2.2.2;have q:=fun W=>mJ r W
  have lX:(r.size:Int)<=1000000:=by have:=b.out.1;omega
  clear cE;by_cases v:Lib.indexByte r.data.toList 47= -1
  . rw[v] at q
    have g:=b.out.2.1;rw[oa v] at g;obtain⟨fn,o,d,m,hy,K⟩:=R.out a r wr b.out.2.2.1 (by rw[g];exact List.prefix_rfl);have p:=wN g;clear v g
    gi_wp2_with (refine⟨trivial,?_⟩;gi_at_call 127;refine(callsIn_wide.2 (q _)).mono ?_;rintro e w2 ⟨rfl,rfl⟩)
    refine K.mono ?_;rintro e S (⟨rfl,y,c⟩| ⟨rfl,Q⟩)
    . gi_wp2
      go_end0
      exact⟨⟨_,rfl⟩,A4 (by rw[<- p.out];exact y)⟩
    . gi_wp2
      go_end0
      exact⟨⟨_,rfl⟩,A8 ⟨_,Q⟩⟩
  . obtain⟨i,L⟩:∃ i:Nat,Lib.indexByte r.data.toList 47=(i:Int):=by
     have:=Lib.indexByte_ge r.data.toList 47;exact⟨(Lib.indexByte r.data.toList 47).toNat,Aa⟩
    obtain⟨N,g⟩:=ou L;rw[L] at q;have B:=b.out.2.1;rw[g] at B;have C:(a ++ [r.extract 0 i]) ++ JA (r.extract (i+1) r.size)=JA s:=(by rw[<- B,Bj];rfl);obtain⟨fn,o,d,m,hy,K⟩:=R.out a (r.extract 0 i) wr b.out.2.2.1 ⟨_,C⟩;have p:=wN C;have j:=wN N;have Ef:¬ (i:Int)<0:=Aa;have ux:=fun W=>rn W r i Aa
    have M:=fun W=>iv W r (i+1) Aa
    clear v g B C L;have a0:(i:Int)+1<=(r.size:Int):=Aa
    gi_wp2_with (refine⟨trivial,?_⟩;gi_at_call 127;refine(callsIn_wide.2 (q _)).mono ?_;rintro e w2 ⟨rfl,rfl⟩)
    refine K.mono ?_;rintro e S (⟨rfl,y,c⟩| ⟨rfl,Q⟩)
    . have u:=c.1.trans b.out.2.2.2.1
      have P:=c.2.1.trans b.out.2.2.2.2.1;have Z:=c.2.2.trans b.out.2.2.2.2.2;have d1:=Cb u;have d2:=Cb P;have f1:=C4 u;have A:=wN (And.intro u (And.intro P Z));have z:=wN y;obtain⟨h,f⟩:=nm (r.extract (i+1) r.size);have M:∀ W,(Instr.slice 9 (.string r) (H (Ao Ap ((i:Int)+1))) Ar Ar).run Aq W=.ok (.string h) W:=fun W=>by rw[f];exact iv W r (i+1) (by have:=j.out;omega)
      have k:Hid (h.size<r.size):=wN (by rw[f,ByteArray.size_extract];have:=j.out;omega);rw[<- f] at p;clear c u P Z y f
      gi_wp2
      have s1:=DR (v':=.string h) A.out.1;go_roundw
      case rel=>exact⟨h,a ++ [r.extract 0 i],wN ⟨by have:=k.out;have:=b.out.1;omega,p.out,HC.out _ _ _ ⟨h,rfl⟩ z.out,s1,(AZ _ ⟨sB,0,Ar⟩ eB _ (fun e=>qp e.symm)).trans A.out.2.1,(AZ _ ⟨sB,0,Ar⟩ vB _ (fun e=>O e.symm)).trans A.out.2.2⟩⟩
      case measure=>
       have m1:Vf sB (S.setCell ⟨sB,0,Ar⟩ (.string h))=h.size:=(by unfold Vf;rw[Cb s1]);have m2:Vf sB wr=r.size:=(by unfold Vf;rw[c1]);rw[m1,m2];exact k.out
    . gi_wp2
      refine A9 (results_none rfl _ _ _) rfl ?_;exact⟨⟨_,rfl⟩,A8 ⟨_,Q⟩⟩
end
section
open Go.RowKit BM
attribute [local go_sem] BK.semAt_some
def SO:∀ (l c p:List UInt8),p∈H9 l c->∀ b∈p,b∈c\/b∈l
 |[],c,p,h,b,hb=>by
  unfold H9 at h;rw[BN.1 h] at hb;exact A4 hb
 |x :: r,c,p,h,b,hb=>by
  unfold H9 at h;split at h
  . rcases Ez.1 h with e|h
    . rw[e] at hb;exact A4 hb
    . rcases SO r [] p h b hb with h|h
      . cases h
      . exact A8 (B9 _ h)
  . rcases SO r _ p h b hb with h|h
    . rcases BU.1 h with h|h
      . exact A4 h
      . rw[BN.1 h];exact A8 CO
    . exact A8 (B9 _ h)
def Tg:∀ (l c:List UInt8) (b:UInt8),b∈c\/(b∈l/\b≠47)->∃ p∈H9 l c,b∈p
 |[],c,b,h=>by
  unfold H9;rcases h with h| ⟨h,_⟩
  . exact⟨c,BN.2 rfl,h⟩
  . cases h
 |x :: r,c,b,h=>by
  unfold H9;split
  . next f=>
    rcases h with h| ⟨h,d⟩
    . exact⟨c,CO,h⟩
    . rcases Ez.1 h with e|h
      . exact absurd (e.trans f) d
      . obtain⟨p,a,b⟩:=Tg r [] b (A8 ⟨h,d⟩)
        exact⟨p,B9 _ a,b⟩
  . refine Tg r _ b ?_
    rcases h with h| ⟨h,d⟩
    . exact A4 (BA _ h)
    . rcases Ez.1 h with e|h
      . exact A4 (Cz _ (BN.2 e))
      . exact A8 ⟨h,d⟩
def VO(p:ByteArray):Prop:=p.size<=13/\∀ b∈p.data.toList,b≠0
def UT{s p:ByteArray}(h:p∈JA s)(f:¬ VO p):¬ OkP s:=fun a=>f ⟨by
 by_cases c:p.size=0
 . omega
 . exact a.ln p (by rw[Kt];exact List.mem_filter.2 ⟨h,by simpa using c⟩),fun b d=>by
 obtain⟨l,g,rfl⟩:=Ce.1 h;rcases SO _ _ l g b (by simpa [b_] using d) with h|h
 . cases h
 . exact a.nz b h⟩
def jY{s:ByteArray}(h:∀ p∈JA s,VO p)(i:s.size<=200):OkP s ↔ (BX s).length<=20:=
 ⟨fun h=>h.ct,fun g=>⟨i,fun b f=>by
   by_cases e:b=47
   . rw[e];decide
   . obtain⟨p,a,c⟩:=Tg s.data.toList [] b (A8 ⟨f,e⟩)
     exact(h (b_ p) (Ce.2 ⟨p,a,rfl⟩)).2 b (by simpa [b_] using c),fun p d=>by
   rw[Kt] at d;exact(h p (List.mem_filter.1 d).1).1,g⟩⟩
def fA(a:List ByteArray):List ByteArray:=a.filter fun p=>decide (p.size≠0)
def ri{a:List ByteArray}{x:ByteArray}(h:x.size=0):fA (a ++ [x])=fA a:=by
 unfold fA;rw[List.filter_append,List.filter_cons_of_neg (by rw[Bh];exact fun b=>b h),List.filter_nil,Cc]
def oD{a:List ByteArray}{x:ByteArray}(h:x.size≠0):fA (a ++ [x])=fA a ++ [x]:=by
 unfold fA;rw[List.filter_append,List.filter_cons_of_pos (by rw[Bh];exact h),List.filter_nil]
def TR.more{w:At}{B B':Nat}{v:AA}{O:List ByteArray}(h:TR w B v O)(c:B'<=B):TR w B' v O:=by
 refine⟨h.1,?_⟩;rcases h.2 with h| ⟨g,a,b,f,d,r⟩
 . exact A4 h
 . exact A8 ⟨g,a,b,f,AU c d,r⟩
def TR.same{w w':At}{B:Nat}{v:AA}{O:List ByteArray}(h:TR w B v O)(hb:∀ k,B<=k->(∃ cs,w.heap[k]? =H (Ay cs 9 (0,0)))->w'.heap[k]? =w.heap[k]?):TR w' B v O:=by
 refine⟨h.1,?_⟩;rcases h.2 with h| ⟨g,a,b,f,c,d,r⟩
 . exact A4 h
 . exact A8 ⟨g,a,b,f,c,(hb g c ⟨_,d⟩).trans d,r⟩
structure SpI (w0:At) (q ws:Nat) (pre:List ByteArray) (W:At):Prop where
 row:∃ v,W.heap[q+1+1]? =H (Ay #[v] 23 (0,0))/\TR W ws v (fA pre)
 r1:W.heap[q]? =H (Ay #[Aw Ar 0 0] 23 (0,0))
 r2:W.heap[q+1]? =H (Ay #[Ao Ap 0] 24 (0,0))
 be:AB w0.heap.size w0 W
 sz:ws<=W.heap.size
 ok:∀ p∈pre,VO p
structure SpX (w0:At) (s:ByteArray) (q:Nat) (pre:List ByteArray) (W:At):Prop where
 no:¬ OkP s
 r1:W.heap[q]? =H (Ay #[Aw Ar 0 0] 23 (0,0))
 r2:W.heap[q+1]? =H (Ay #[Ao Ap 10] 24 (0,0))
 be:AB w0.heap.size w0 W
section
variable {w0:At}{s:ByteArray}{q ws:Nat}
def oQ(m:w0.heap.size<=ws)(w:q+1+1<ws):OwnFrom ws (SpI w0 q ws):=by
 rintro p W t s ⟨⟨v,a,b⟩,c,d,e,f,g⟩ h i;refine⟨⟨v,Eo h a (fun r e=>by have:=(i r e).1;omega),b.same fun k x ⟨u,j⟩=>h.block k (Au.1 j).1 (fun e=>?_)⟩,Eo h c (fun r e=>by have:=(i r e).1;omega),Eo h d (fun r e=>by have:=(i r e).1;omega),e.grown h e.size (fun k e=>AU m (i k e).1),AU f h.size,g⟩;obtain⟨_,o,l,n⟩:=i k e.symm;rw[j] at l;cases l
 cases n
def oN(g:w0.heap.size<=ws)(l:q+1+1<ws):OwnFrom ws (SpX w0 s q):=by
 rintro h W j i ⟨a,c,d,e⟩ b f;exact⟨a,Eo b c (fun r e=>by have:=(f r e).1;omega),Eo b d (fun r e=>by have:=(f r e).1;omega),e.grown b e.size (fun k e=>AU g (f k e).1)⟩
def SpI.cell{i:List ByteArray}{W l:At}(h:SpI w0 q ws i W)(o:q=w0.heap.size)(s:q+3<ws)(n:CS (q+1+1+1) W l):SpI w0 q ws i l:=by
 obtain⟨r,rfl⟩:=n;obtain⟨⟨v,a,b⟩,c,d,e,f,g⟩:=h;have j:∀ k,k≠q+1+1+1->(W.setCell ⟨q+1+1+1,0,Ar⟩ (.string r)).heap[k]? =W.heap[k]? :=fun k m=>AZ W ⟨q+1+1+1,0,Ar⟩ k _ m
 exact⟨⟨v,(j _ Aa).trans a,b.same fun k m _=>j k Aa⟩,(j _ Aa).trans c,(j _ Aa).trans d,e.setCell (p:=⟨q+1+1+1,0,Ar⟩) (by show _<=q+1+1+1;omega) _,by rw[At.size_setCell];exact f,g⟩
def SpI.leave{b a:List ByteArray}{W:At}(h:SpI w0 q ws b W)(f:¬ OkP s)(g:q=w0.heap.size):
 KeepsOthers W ((W.setCell ⟨q,0,Ar⟩ (Aw Ar 0 0)).setCell ⟨q+1,0,Ar⟩ (Ao Ap 10))/\SpX w0 s q a ((W.setCell ⟨q,0,Ar⟩ (Aw Ar 0 0)).setCell ⟨q+1,0,Ar⟩ (Ao Ap 10)):=by
 have c:(W.setCell ⟨q,0,Ar⟩ (Aw Ar 0 0)).heap[q]? =H (Ay #[Aw Ar 0 0] 23 (0,0)):=DR h.r1;have d:(W.setCell ⟨q,0,Ar⟩ (Aw Ar 0 0)).heap[q+1]? =H (Ay #[Ao Ap 0] 24 (0,0)):=(AZ W ⟨q,0,Ar⟩ (q+1) _ (by show q+1≠q;omega)).trans h.r2;exact⟨(KeepsOthers.setCell _ _ _).trans (KeepsOthers.setCell _ _ _),f,(AZ _ ⟨q+1,0,Ar⟩ q _ (by show q≠q+1;omega)).trans c,DR d,(h.be.setCell (p:=⟨q,0,Ar⟩) (by show w0.heap.size<=q;omega) _).setCell (p:=⟨q+1,0,Ar⟩) (by show w0.heap.size<=q+1;omega) _⟩
end
def Jn{fn:Func}{p u:Tmp}(h:fn.results=#[.cell p 23,.cell u 24])(tmps:Array AA)(w:At)(g k:Nat)(v x:AA)(T U:Cn)(hp:tmps.getD p undef=Ax (H ⟨g,0,Ar⟩))(hu:tmps.getD u undef=Ax (H ⟨k,0,Ar⟩))
 (c:w.heap[g]? =H (Ay #[v] T (0,0))) (d:w.heap[k]? =H (Ay #[x] U (0,0))):(results fn tmps).run Aq w=.ok (AT #[v,x]) w:=by
 have m:w.cell? ⟨g,0,Ar⟩=H v:=by rw[AD _ _ _ _ _ _ c];rfl
 have n:w.cell? ⟨k,0,Ar⟩=H x:=by rw[AD _ _ _ _ _ _ d];rfl
 have b:(results fn tmps).run Aq w=
  ((asAddr (tmps.getD p undef)).run Aq w).andThen fun a f=>((loadVar 23 a).run Aq f).andThen fun v i=>((asAddr (tmps.getD u undef)).run Aq i).andThen fun a j=>((loadVar 24 a).run Aq j).andThen fun y l=>.ok (AT #[v,y]) l:=by
  simp only[results,h];simp[Result.andThen]
 rw[b,hp,hu];simp only[asAddr,Sem.run_pure,Result.andThen_ok]
 go_simp
def Ye(s:ByteArray)(w:At):AH Aq 81 #[.string s,.string ⟨#[47]⟩,Ao Ap 0] w fun e w'=>e=Av (.func (.func 125) #[] #[Ax (H ⟨w.heap.size+1,0,Ar⟩),Ax (H ⟨w.heap.size,0,Ar⟩),Ax (H ⟨w.heap.size+1+1,0,Ar⟩)])/\w'=((w.alloc (Ay #[.string s] 9)).alloc (Ay #[.string ⟨#[47]⟩] 9)).alloc (Ay #[Ao Ap 0] 3):=by
 go_enter func81,ntmps81;go_wp2;go_ret;exact⟨rfl,rfl⟩
def To(s:ByteArray)(w:At):AH Aq 40 #[.string s,.string ⟨#[47]⟩] w fun e w'=>e=Av (.func (.func 125) #[] #[Ax (H ⟨w.heap.size+1,0,Ar⟩),Ax (H ⟨w.heap.size,0,Ar⟩),Ax (H ⟨w.heap.size+1+1,0,Ar⟩)])/\w'=((w.alloc (Ay #[.string s] 9)).alloc (Ay #[.string ⟨#[47]⟩] 9)).alloc (Ay #[Ao Ap 0] 3):=by
 have K:=Ye s;go_enter func40,ntmps40;go_wp2_with (go_at_call 81;(with_reducible refine Ad (K _) ?_);rintro w' a)
 go_ret;exact⟨rfl,by first|exact a|rfl⟩
attribute [local go_sem] BK.semAt_some
def Ph{w:At}{i:Array BK}{o:BK}{a:Act}{K:Act->At->Prop}{Q:Exit->Act->At->Prop}{E:Prop}(A:o.guard=Ar)(s y:Operand)(c:o.op=.call { callee:=.builtin .append,args:=#[s,y],argTypes:=#[23,23] })
 (B:Nat) (v:AA) (O:List ByteArray) (T:a.eval s=v) (b:TR w B v O) (x:ByteArray) (q:Nat) (S:w.heap[q]? =H (Ay #[.string x] 9 (0,0))) (U:a.eval y=Aw (H ⟨q,0,Ar⟩) 1 1) (p:O.length<=100000) (m:B<=w.heap.size)
 (h:∀ v' w',TR w' B v' (O ++ [x])->AB B w w'->KeepsOthers w w'->K (a.put o.dst v') w'):
 if Region.wanted o (yielded i a.tmps)=AQ then BK.wp Aq o a w K Q else E:=by
 rw[AG (by simp[Region.wanted,A])];obtain⟨t,G,I,J,L⟩:=Bs Im;obtain⟨v',w',z,M,l,_,V⟩:=run_append_own_at (P:=Aq) w B 23 o.type 9 t _ 1 16 underlying23 G I J L rfl Af v O.length _ b ⟨q,0,Ar⟩ 1 1 [.string x] rfl (fun j u n=>by
  have d:j=0:=by have:=(Bo.1 n).1;simp at this;omega
  subst d;rw[Cd,BC,AD _ _ _ _ _ _ S,<- n];rfl) (fun u r=>by
  simp at r;subst r;rfl) (by simp only[maxLen];omega) Aa m
 unfold BK.wp execOp;simp only[c,resolve,invoke,builtin,Dm,Sem.run_pure,Result.andThen_ok,Fe,DT,II,T,U,z];refine h v' w' ?_ ((AP _ _).grown l m fun k R=>(BY b k R).1) (KeepsOthers.of_grownBy l fun j o e c=>?_)
 rotate_left
 . rcases b.2 with⟨f,_⟩| ⟨g,C,D,f,W,N,_⟩
   . rw[f] at e;cases e
   . rw[f] at e
     have F:g=j:=Bc e;rw[<- F,N] at c;cases c
     rfl
 show w'.ownsRow B 9 1 v' (O ++ [x]).length ((O ++ [x]).map .string)
 rw[AO,Cw];exact M
def rj(w:At)(d f g h i b:Array AA)(k l m n o c:Cn){W:At}(q:W=(((((w.alloc (Ay d k)).alloc (Ay f l)).alloc (Ay g m)).alloc (Ay h n)).alloc (Ay i o)).alloc (Ay b c)):
 W.heap[w.heap.size]? =H (Ay d k (0,0))/\W.heap[w.heap.size+1]? =H (Ay f l (0,0))/\W.heap[w.heap.size+1+1]? =H (Ay g m (0,0))/\W.heap[w.heap.size+1+1+1]? =H (Ay h n (0,0))/\W.heap[w.heap.size+1+1+1+1]? =H (Ay i o (0,0))/\W.heap[w.heap.size+1+1+1+1+1]? =H (Ay b c (0,0))/\W.heap.size=w.heap.size+1+1+1+1+1+1/\AB w.heap.size w W:=by
 obtain⟨V,p⟩:=nm (((((w.alloc (Ay d k)).alloc (Ay f l)).alloc (Ay g m)).alloc (Ay h n)).alloc (Ay i o));obtain⟨r,s,t,u,v,y,x⟩:=im w _ _ _ _ _ _ _ _ _ _ p;rw[<- p] at q;have a:=AF V (Ay b c);have j:=AC V (Ay b c);have z:(V.alloc (Ay b c)).heap.size=V.heap.size+1:=At.size_alloc _ _;rw[<- q] at a j z;rw[y] at j;exact⟨(a.block _ Aa).trans r,(a.block _ Aa).trans s,(a.block _ Aa).trans t,(a.block _ Aa).trans u,(a.block _ Aa).trans v,j,Aa,x.trans (a.mono Aa)⟩
def PU:∀ l c:List UInt8,(H9 l c).length<=l.length+1
 |[],c=>AE _
 |b :: r,c=>by
  unfold H9;split
  . rw[BJ,BJ];have:=PU r [];omega
  . have:=PU r (c ++ [b]);rw[BJ];omega
def gZ(s:ByteArray):(JA s).length<=s.size+1:=by
 unfold JA;rw[Bn];have:=PU s.data.toList [];rw[GH] at this;exact this
def SpI.more{k W:At}{q l:Nat}{j:List ByteArray}{x:ByteArray}(h:SpI k q l j W)(n:VO x)(m:x.size=0):SpI k q l (j ++ [x]) W:=by
 obtain⟨⟨v,a,b⟩,c,d,e,f,g⟩:=h;refine⟨⟨v,a,by rw[ri m];exact b⟩,c,d,e,f,fun p i=>?_⟩;rcases BU.1 i with i|i
 . exact g p i
 . rw[BN.1 i];exact n
def Ww(s:ByteArray)(h2:s.size<=200)(w:At):AH Aq 17 #[.string s] w (Yl s w):=by
 have g2:(s.size:Int)<=200:=Aa;obtain⟨q,hq⟩:=nm w.heap.size;have G:=wN hq;refine(callsIn_wide (n:=9)).1 ?_;refine callsIn_of_wp_marks func17 rfl trivial ?_ rfl;simp only[ntmps17,List.size_toArray,BJ,List.length_nil,Nat.reduceAdd,Nat.reduceSub,Array.replicate_succ,Array.replicate_zero,List.push_toArray,List.append_toArray,List.nil_append,List.cons_append]
 gi_wp2_with (refine⟨trivial,?_⟩;gi_at_call 40;refine(callsIn_wide.2 (To s _)).mono ?_;rintro e E ⟨rfl,U⟩)
 rw[<- U];obtain⟨g1,P,g3,g4,g5,g6,Y,gb⟩:=rj w _ _ _ _ _ _ _ _ _ _ _ _ U;rw[<- hq] at g1 P g3 g4 g5 g6 Y |-
 have j:=wN Y;have a6:=wN gb;have H2:=wN h2;have mf:SpI w q E.heap.size [] E:=⟨⟨_,g3,XH _ _⟩,g1,P,gb,AE _,fun p R=>(by cases R)⟩;have hH:=VY (n:=8) Af (sB:=q+1+1+1) (eB:=q+1+1+1+1) (vB:=q+1+1+1+1+1) (s:=s) Aa (w:=E) Aa Aa g4 g5 g6;clear U g1 P g3 g4 g5 g6 hq
 refine mH Af (gf:=125) (lb:=#[Ax (H ⟨q+1+1+1+1,0,Ar⟩),Ax (H ⟨q+1+1+1,0,Ar⟩),Ax (H ⟨q+1+1+1+1+1,0,Ar⟩)]) rfl (enters_of func125 Ac rfl) hH
  (fun V V' k ⟨r,e⟩ Z=>by rw[e];exact AZ V ⟨q+1+1+1,0,Ar⟩ k _ (by show k≠q+1+1+1;omega)) (fun h k=>⟨k.1.trans h.1,k.2.1.trans h.2.1,k.2.2.trans h.2.2⟩)
  (fun W l' o b6=>⟨At.putObj_heap_other Aa,At.putObj_heap_other Aa,At.putObj_heap_other Aa⟩) (fun _=>rfl)
  (SpI w q E.heap.size) (SpX w s q) (oQ gb.size Aa) (oN gb.size Aa) (fun xs V V' hc hi=>hi.cell G.out Aa hc) mf
  (fun x=>{ tmps:=#[.string s,undef,Ax (H ⟨q,0,Ar⟩),Ax (H ⟨q+1,0,Ar⟩),Ax (H ⟨q+1+1,0,Ar⟩),.string x,.string s,Ao Ap (s.size:Int),AY (decide ((200:Int)<(s.size:Int))),.string s,.func (.func 125) #[] #[Ax (H ⟨q+1+1+1+1,0,Ar⟩),Ax (H ⟨q+1+1+1,0,Ar⟩),Ax (H ⟨q+1+1+1+1+1,0,Ar⟩)],.string x,undef,undef,undef,undef,undef,undef,undef,undef,undef,undef,undef,undef,undef,undef,undef,undef,undef,undef,undef],defers:=[] }) ?assign ?body ?done ?stop
 case assign=>
  intro l' x W K a;clear Y
  gi_wp2
  exact a
 case body=>
  rintro l' g x W d C;have hx:x∈JA s:=C.subset (Cz _ (BN.2 rfl));have KZ:=fun W=>Tx x 0 W
  have hz:=SU x.data.toList 0;have c:=wN d;have k1:=Cb d.r1;have k2:=Cb d.r2;have f1:=C4 d.r1;have f2:=C4 d.r2;have O:=wN hx;have a1:Hid ((fA g).length<=100000):=wN (by
   have h1:=C.length_le;have h3:=gZ s;have h4:(fA g).length<=g.length:=List.length_filter_le _ _;rw[AO,List.length_singleton] at h1;have:=H2.out;omega)
  clear d C hx Y;obtain⟨z,o6⟩:=nm (Lib.indexByte x.data.toList 0);have B:∀ W,AH Aq 41 #[.string x,Ao .u8 0] W fun e w'=>e=Av (Ao Ap z)/\W=w':=fun W=>by rw[o6];exact KZ W
  rw[<- o6] at hz;have HZ:Hid (0<=z ↔ ∃ b∈x.data.toList,b=0):=wN (by
   constructor
   . intro h0
     have:decide (z<0)=AN:=AM Aa;rw[hz] at this;obtain⟨b,L,b2⟩:=List.all_eq_false.1 this;exact⟨b,L,by simpa using b2⟩
   . rintro⟨b,L,rfl⟩
     have:x.data.toList.all (fun b=>!(b==0))=AN:=List.all_eq_false.2 ⟨0,L,Ai⟩;rw[this] at hz;have:=BL hz;omega)
  clear hz o6 KZ;by_cases WR:13<x.size
  . have b0:(13:Int)<(x.size:Int):=by omega
    have HN:Hid (¬ OkP s):=wN (UT O.out fun h=>by have:=h.1;omega);clear B WR
    gi_wp2
    refine⟨trivial,?_⟩
    gi_wp2
    exact c.out.leave HN.out G.out
  . have b0:¬ (13:Int)<(x.size:Int):=by omega
    by_cases vO:0<=z
    . have HN:Hid (¬ OkP s):=wN (UT O.out fun h=>by
       obtain⟨b,L,e⟩:=HZ.out.1 vO;exact h.2 b L e)
      clear WR
      gi_wp2_with (refine⟨trivial,?_⟩;gi_at_call 41;refine(CallsIn.inRound _ (callsIn_wide.2 (B _))).mono ?_;rintro e w3 ⟨rfl,rfl⟩)
      exact c.out.leave HN.out G.out
    . have HG:Hid (VO x):=wN ⟨Aa,fun b L e=>vO (HZ.out.2 ⟨b,L,e⟩)⟩
      by_cases h0:x.size=0
      . have b3:x=⟨#[]⟩:=ByteArray.ext (Array.eq_empty_of_size_eq_zero h0)
        subst b3;clear WR
        gi_wp2_with (refine⟨trivial,?_⟩;gi_at_call 41;refine(CallsIn.inRound _ (callsIn_wide.2 (B _))).mono ?_;rintro e w3 ⟨rfl,rfl⟩)
        exact⟨KeepsOthers.refl _,⟨rfl,rfl,rfl⟩,c.out.more HG.out rfl⟩
      . have a4:(x.toList==[])=AN:=by
         rw[beq_eq_false_iff_ne,Cg];intro e;exact h0 (by rw[<- GH,e];rfl)
        clear WR
        gi_wp2_with (refine⟨trivial,?_⟩;gi_at_call 41;refine(CallsIn.inRound _ (callsIn_wide.2 (B _))).mono ?_;rintro e w3 ⟨rfl,rfl⟩)
        obtain⟨v,A,f⟩:=c.out.row;have J:=wN f;have X:W.drew.cell? ⟨q+1+1,0,Ar⟩=H v:=Cb A;have I:Hid (W.drew.heap[q+1+1]? =H (Ay #[v] 23 (0,0))):=wN A;have KC:=fun V=>ff x (by have:=HG.out.1;omega) V
        clear A f;refine mK Ac rfl (by rintro⟨_,_,h⟩;exact h) ?_;refine JQ (S:=fun V=>V.cell? ⟨q+1+1,0,Ar⟩=H v) (m:=5) _ _ _ _ ?_;refine Nx (i:=1) (v:=.string x) rfl rfl Ac Ac Ac Ac Ac (fun _ _ _ h=>h) (A4 ⟨Aj,?_⟩) X ?_
        . intro V hS
          go_simp
        try simp only[Act.put,A5,List.set_cons_zero,List.set_cons_succ,List.getElem_toArray,List.getElem_cons_zero,List.getElem_cons_succ]
        refine Nx (i:=0) (v:=v) rfl rfl Ac Ac Ac Ac Ac (fun _ _ _ h=>h) (A4 ⟨Aj,?_⟩) X ?_
        . intro V hS
          go_simp
        try simp only[Act.put,A5,List.set_cons_zero,List.set_cons_succ,List.getElem_toArray,List.getElem_cons_zero]
        refine EJ (rs:=[2]) Ac Ai (TillReady.cons rfl (fun K a=>?_) TillReady.nil)
        go_simp
        go_at_call 42
        refine Ad (KC _) ?_;rintro w4 l;have l:AB W.heap.size W w4:=(Bd (AP _ W) 1).trans l;have c4:w4.cell? ⟨q+1+1,0,Ar⟩=H v:=(l.cell (p:=⟨q+1+1,0,Ar⟩) (Au.1 I.out).1).trans X;refine a.out _ _ (fun _=>c4) ?_;clear a K
        try simp only[Act.put,A5,List.set_cons_zero,List.set_cons_succ,List.getElem_toArray,List.getElem_cons_zero,List.getElem_cons_succ]
        refine EJ (rs:=[3]) Ac Ai (TillReady.cons rfl (fun K a=>?_) TillReady.nil)
        go_simp
        have gM:=AC w4 (Ay #[.string x] 9);have t:AB W.heap.size W (w4.alloc (Ay #[.string x] 9)):=l.alloc l.size _;have c5:(w4.alloc (Ay #[.string x] 9)).cell? ⟨q+1+1,0,Ar⟩=H v:=(t.cell (p:=⟨q+1+1,0,Ar⟩) (Au.1 I.out).1).trans X;refine a.out _ _ (fun _=>c5) ?_;clear a K
        try simp only[Act.put,A5,List.set_cons_zero,List.set_cons_succ,List.getElem_toArray,List.getElem_cons_zero,List.getElem_cons_succ]
        refine EJ (rs:=[4]) Ac Ai (TillReady.cons rfl (fun K a=>?_) TillReady.nil);refine Ph rfl _ _ rfl E.heap.size v (fA g) rfl (J.out.below t) x w4.heap.size gM rfl a1.out (AU c.out.sz t.size) ?_;intro v6 w6 T Q qz;have c6:w6.heap[q+1+1]? =H (Ay #[v] 23 (0,0)):=(Q.block _ (by have:=j.out;omega)).trans ((t.block _ (Au.1 I.out).1).trans I.out);refine a.out _ _ (fun _=>Cb c6) ?_;clear a K
        try simp only[Act.put,A5,List.set_cons_zero,List.set_cons_succ,List.getElem_toArray,List.getElem_cons_zero,List.getElem_cons_succ]
        refine EJ (rs:=[5]) Ac Ai (TillReady.cons rfl (fun K a=>?_) TillReady.nil);have d6:=Cb c6;have f6:=C4 c6;have a8:=wN T;have a5:=wN c6;have a7:=wN qz;have M:=wN Q;have F:=wN t;obtain⟨b5,b4,rfl,_⟩:=T.sl;clear T Q t l c4 c5 gM c6 qz KC B
        go_simp
        refine a.out _ _ (fun h=>by simp at h) ?_;clear a K
        try simp only[Act.put,A5,List.set_cons_zero,List.set_cons_succ,List.getElem_toArray,List.getElem_cons_zero,List.getElem_cons_succ]
        refine RK Ac ?_ _;have tz:=c.out.sz;have gu:=j.out;have ho:∀ (u:AA) k,k≠q+1+1->k<E.heap.size->(w6.setCell ⟨q+1+1,0,Ar⟩ u).heap[k]? =W.heap[k]? :=fun u k h1 h2=>(AZ w6 ⟨q+1+1,0,Ar⟩ k u h1).trans ((M.out.block k h2).trans (F.out.block k Aa))
        refine⟨((JP F.out).trans a7.out).trans (KeepsOthers.setCell _ _ _),⟨ho _ _ Aa Aa,ho _ _ Aa Aa,ho _ _ Aa Aa⟩,⟨_,DR a5.out,?_⟩,(ho _ _ Aa Aa).trans c.out.r1,(ho _ _ Aa Aa).trans c.out.r2,?_,?_,fun p R=>?_⟩
        . have e6:(fA g).length+1=(fA g ++ [x]).length:=by rw[AO,List.length_singleton]
          rw[oD h0,e6];exact a8.out.same fun k Z _=>AZ w6 ⟨q+1+1,0,Ar⟩ k _ (by show k≠q+1+1;omega)
        . have hw:w.heap.size<=W.heap.size:=c.out.be.size
          exact(c.out.be.trans ((F.out.mono hw).trans (M.out.mono (by have:=G.out;omega)))).setCell (p:=⟨q+1+1,0,Ar⟩) (by show w.heap.size<=q+1+1;have:=G.out;omega) _
        . rw[At.size_setCell]
          exact AU tz (AU F.out.size M.out.size)
        . rcases BU.1 R with R|R
          . exact c.out.ok p R
          . rw[BN.1 R];exact HG.out
 case done=>
  rintro D W hD d a;obtain⟨v,A,f⟩:=d.row;rw[show fA (JA s)=BX s from(Kt s).symm] at f;have N:=wN (jY d.ok H2.out);have X:=Cb A;have c1:=Cb d.r1;have c2:=Cb d.r2;have f1:=C4 d.r1;have f2:=C4 d.r2;obtain⟨ao,a9,rfl,_⟩:=f.sl;have J:=wN f;have c:=wN d;have HK:=wN a;have HD:=wN hD;obtain⟨m,hm⟩:=nm ((BX s).length);rw[<- hm] at X J N;clear Y A f d a hD hm
  have a2:∀ (v y:AA),let V:=(W.setCell ⟨q,0,Ar⟩ v).setCell ⟨q+1,0,Ar⟩ y
   V.heap[D]? =H (.deferred (H []))/\(V.putObj D (.deferred Ar)).heap[q]? =H (Ay #[v] 23 (0,0))/\(V.putObj D (.deferred Ar)).heap[q+1]? =H (Ay #[y] 24 (0,0))/\(∀ k,E.heap.size<=k->k≠D->(V.putObj D (.deferred Ar)).heap[k]? =W.heap[k]?)/\AB w.heap.size w (V.putObj D (.deferred Ar)):=fun v y=>by
   intro V;have gu:=j.out;have gJ:=HD.out;have h1:(W.setCell ⟨q,0,Ar⟩ v).heap[q]? =H (Ay #[v] 23 (0,0)):=DR c.out.r1;have h2:(W.setCell ⟨q,0,Ar⟩ v).heap[q+1]? =H (Ay #[Ao Ap 0] 24 (0,0)):=(AZ W ⟨q,0,Ar⟩ (q+1) _ (by show q+1≠q;omega)).trans c.out.r2;have k1:V.heap[q]? =H (Ay #[v] 23 (0,0)):=(AZ _ ⟨q+1,0,Ar⟩ q _ (by show q≠q+1;omega)).trans h1;have k2:V.heap[q+1]? =H (Ay #[y] 24 (0,0)):=DR h2;have k3:∀ k,E.heap.size<=k->V.heap[k]? =W.heap[k]? :=fun k Z=>(AZ _ ⟨q+1,0,Ar⟩ k _ (by show k≠q+1;omega)).trans (AZ W ⟨q,0,Ar⟩ k _ (by show k≠q;omega))
   have kD:=(k3 D gJ).trans HK.out;have L:AB w.heap.size w V:=(c.out.be.setCell (p:=⟨q,0,Ar⟩) (by show w.heap.size<=q;have:=G.out;omega) _).setCell (p:=⟨q+1,0,Ar⟩) (by show w.heap.size<=q+1;have:=G.out;omega) _;exact⟨kD,(At.putObj_heap_other Aa).trans k1,(At.putObj_heap_other Aa).trans k2,fun k Z a4=>(At.putObj_heap_other a4).trans (k3 k Z),L.trans (belowK_b (w:=E) (by have:=G.out;omega) V D _ _ gJ kD rfl rfl)⟩
  have a0:=wN a2;clear a2;by_cases a3:m<=20
  . have b1:¬ (20:Int)<(m:Int):=by omega
    gi_wp2
    obtain⟨e1,e2,e3,e4,e5⟩:=a0.out (Aw ao m a9) (Ao Ap 0);refine⟨Ai,A4 ⟨_,_,rfl,run_takeDeferred e1,?_⟩⟩;refine⟨_,Jn rfl _ _ q (q+1) _ _ _ _ rfl rfl e2 e3,A4 ⟨N.out.2 a3,_,rfl,?_⟩,e5⟩;exact(J.out.same fun k Z ⟨cs,hc⟩=>e4 k Z fun e=>by rw[e,HK.out] at hc;cases hc).more a6.out.size
  . have b1:(20:Int)<(m:Int):=by omega
    gi_wp2
    obtain⟨e1,e2,e3,e4,e5⟩:=a0.out (Aw Ar 0 0) (Ao Ap 10);refine⟨Ai,A4 ⟨_,_,rfl,run_takeDeferred e1,?_⟩⟩;exact⟨_,Jn rfl _ _ q (q+1) _ _ _ _ rfl rfl e2 e3,A8 ⟨fun h=>a3 (N.out.1 h),rfl⟩,e5⟩
 case stop=>
  rintro D g W hD hX a;have O:=wN hX;have HK:=wN a;clear Y hX
  gi_wp2
  refine⟨Ai,A4 ⟨_,_,rfl,run_takeDeferred HK.out,?_⟩⟩;have m1:(W.putObj D (.deferred Ar)).heap[q]? =H (Ay #[Aw Ar 0 0] 23 (0,0)):=(At.putObj_heap_other (by have:=j.out;omega)).trans O.out.r1;have m2:(W.putObj D (.deferred Ar)).heap[q+1]? =H (Ay #[Ao Ap 10] 24 (0,0)):=(At.putObj_heap_other (by have:=j.out;omega)).trans O.out.r2;refine⟨_,Jn rfl _ _ q (q+1) _ _ _ _ rfl rfl m1 m2,A8 ⟨O.out.no,rfl⟩,?_⟩;exact O.out.be.trans (belowK_b (w:=E) (by have:=j.out;have:=G.out;omega) W D _ _ hD HK.out rfl rfl)
attribute [local go_sem] BK.semAt_some
def YU(s:ByteArray)(r:¬ s.size<=200)(w:At):AH Aq 17 #[.string s] w (Yl s w):=by
 have C:(200:Int)<(s.size:Int):=Aa;have m:Hid (¬ OkP s):=wN fun h=>r h.sz
 have b:=AF w (Ay #[Aw Ar 0 0] 23);have j:=AC w (Ay #[Aw Ar 0 0] 23);have o:(w.alloc (Ay #[Aw Ar 0 0] 23)).heap.size=w.heap.size+1:=At.size_alloc _ _;obtain⟨q,c⟩:=nm (w.alloc (Ay #[Aw Ar 0 0] 23));rw[<- c] at b j o;have a:=AF q (Ay #[Ao Ap 0] 24);have f:=AC q (Ay #[Ao Ap 0] 24);obtain⟨g,d⟩:=nm (q.alloc (Ay #[Ao Ap 0] 24));rw[<- d] at a f;rw[o] at f;have i:g.heap[w.heap.size]? =H (Ay #[Aw Ar 0 0] 23 (0,0)):=(a.block _ Aa).trans j;have t:Hid (AB w.heap.size w g):=wN (b.trans (a.mono Aa));have u:Hid (((w.alloc (Ay #[Aw Ar 0 0] 23)).alloc (Ay #[Ao Ap 0] 24))=g):=wN (by rw[<- c,<- d]);have y:=Cb i;have z:=Cb f;have A:=C4 i;have B:=C4 f;have k:=wN i;have l:=wN f;clear r c d b a j f o i;refine(callsIn_wide (n:=9)).1 ?_;refine callsIn_of_wp_marks func17 rfl trivial ?_ rfl;simp only[ntmps17,List.size_toArray,BJ,List.length_nil,Nat.reduceAdd,Nat.reduceSub,Array.replicate_succ,Array.replicate_zero,List.push_toArray,List.append_toArray,List.nil_append,List.cons_append];refine wpIn_wide.2 ?_;go_upto_region 1 with(fail)
 rw[u.out];go_wp2;have v:((g.setCell ⟨w.heap.size,0,Ar⟩ (Aw Ar 0 0)).setCell ⟨w.heap.size+1,0,Ar⟩ (Ao Ap 10)).heap[w.heap.size]? =H (Ay #[Aw Ar 0 0] 23 (0,0)):=(AZ _ ⟨w.heap.size+1,0,Ar⟩ _ _ (by show w.heap.size≠w.heap.size+1;omega)).trans (DR k.out);have x:((g.setCell ⟨w.heap.size,0,Ar⟩ (Aw Ar 0 0)).setCell ⟨w.heap.size+1,0,Ar⟩ (Ao Ap 10)).heap[w.heap.size+1]? =H (Ay #[Ao Ap 10] 24 (0,0)):=DR ((AZ _ ⟨w.heap.size,0,Ar⟩ _ _ (by show w.heap.size+1≠w.heap.size;omega)).trans l.out);refine⟨_,Jn rfl _ _ w.heap.size (w.heap.size+1) _ _ _ _ rfl rfl v x,A8 ⟨m.out,rfl⟩,?_⟩;exact(t.out.setCell (p:=⟨w.heap.size,0,Ar⟩) (AE _) _).setCell (p:=⟨w.heap.size+1,0,Ar⟩) (by show w.heap.size<=w.heap.size+1;omega) _
def RZ(s:ByteArray)(w:At):AH Aq 17 #[.string s] w (Yl s w):=by
 by_cases h:s.size<=200
 . exact Ww s h w
 . exact YU s h w
def dX(s:ByteArray)(w:At):AH Aq 7 #[.string s] w fun e w'=>(s.data.toList.head? =H 47/\Yl s w e w')\/(s.data.toList.head? ≠H 47/\e=Av (AT #[Aw Ar 0 0,Ao Ap 9])/\w=w'):=by
 have d:=wN (fun W=>av s W);have g:=wN (RZ s w);by_cases b:s.data.toList.head? =H 47
 . have a:Hid (∀ W,AH Aq 16 #[.string s,.string ⟨#[47]⟩] W fun e w'=>e=Av (AY AQ)/\W=w'):=wN fun W=>by
    have:=d.out W;rw[AK b] at this;exact this
   have c:=wN b;clear d b;go_enter func7,ntmps7
   go_wp2_with (first|(go_at_call 16;(with_reducible refine Ad (a.out _) ?_);rintro j rfl)|(go_at_call 17;(with_reducible refine g.out.mono ?_);rintro e k ⟨(⟨f,v,rfl,i⟩| ⟨f,rfl⟩),h⟩))
   . go_ret2
     exact A4 ⟨c.out,A4 ⟨f,v,rfl,i⟩,h⟩
   . go_ret2
     exact A4 ⟨c.out,A8 ⟨f,rfl⟩,h⟩
 . have a:Hid (∀ W,AH Aq 16 #[.string s,.string ⟨#[47]⟩] W fun e w'=>e=Av (AY AN)/\W=w'):=wN fun W=>by
    have:=d.out W;rw[AM b] at this;exact this
   have c:=wN b;clear d b g;go_enter func7,ntmps7;go_wp2_with (go_at_call 16;(with_reducible refine Ad (a.out _) ?_);rintro j rfl)
   go_ret2;exact A8 ⟨c.out,rfl,rfl⟩
structure FsW (W1:At) (bf:Nat) (T:Fa):Prop where
 get:∀ V,AB W1.heap.size W1 V->∀ i x,T i=H x->AH Aq 13 #[Ax (H ⟨bf,0,Ar⟩),.int Ap i] V fun e w'=>∃ x1 x3 x4 x5 x6 x7 x8 x9 x10 x11 x12 x13,e=Av (AT #[BS #[.int Ap x.kd,.int Ap x1,.int Ap x.sz,.int Ap x3,.int Ap x4,.int Ap x5,.int Ap x6,.int Ap x7,.int Ap x8,.int Ap x9,.int Ap x10,.int Ap x11,.int Ap x12,.int Ap x13],.int Ap 0])/\AB V.heap.size V w'
 find:∀ V,AB W1.heap.size W1 V->∀ i x,T i=H x->x.kd=2->∀ s,AH Aq 147 #[Ax (H ⟨bf,0,Ar⟩),.int Ap i,.string s] V fun e w'=>e=Av (AT #[.int Ap (Wq x.L s),.int Ap (Wr x.L s)])/\AB V.heap.size V w'
 read:∀ V,AB W1.heap.size W1 V->∀ i x,T i=H x->x.kd=3->AH Aq 96 #[Ax (H ⟨bf,0,Ar⟩),.int Ap i,.int Ap 0,.int Ap x.sz] V fun e w'=>∃ v,e=Av (AT #[v,.int Ap 0])/\BSl w' v x.tg/\AB V.heap.size V w'
def RestT.fsw{Q w:At}{d p:AA}{kk D:Nat}{T:Fa}{c:Nat}{P:Nat->Prop}(h:RestT Q d p kk D T c P w)(t:OkT T):FsW w D T:=by
 refine⟨fun V o i x g=>?_,fun V o i x g z s=>?_,fun V o i x g z=>?_⟩
 . obtain⟨X,N,O,F,a,r⟩:=(h.low o).rd
   obtain⟨⟨M,l,_⟩,k⟩:=r.nd i x g;obtain⟨q,b⟩:=t.hi i x g;have A:=a.tab.n.get (j:=i) b;have G:=l.zs;refine(He a.inv a.fs a.tab q b (AP _ _)).mono ?_;rintro I L ⟨he,y⟩;obtain⟨J,ln,C,S,U,W,Y,Z,d5,d6,d7,d8,d9,mp,A⟩:=LY A;unfold CE at k;rw[A] at he G k;have B:C=(x.sz:Int):=G;have H:J=(x.kd:Int):=k;rw[B,H] at he;exact⟨_,_,_,_,_,_,_,_,_,_,_,_,he,y⟩
 . obtain⟨X,N,O,F,a,r⟩:=(h.low o).rd
   obtain⟨⟨M,l,u,_⟩,k⟩:=r.nd i x g;obtain⟨q,b⟩:=t.hi i x g;exact Zu a l (by rw[k,z];rfl) q b (u z).f s
 . obtain⟨X,N,O,F,a,r⟩:=(h.low o).rd
   obtain⟨⟨M,l,_,u⟩,k⟩:=r.nd i x g;obtain⟨q,b⟩:=t.hi i x g;obtain⟨l1,K,_⟩:=t.link i x g;have R:x.sz=x.tg.length:=(by unfold Nd.sz;rw[AJ Aa]);refine(R6 a l q b (a:=0) (m:=x.sz) Aa Aa).mono ?_;rintro I L ⟨v,he,E,y⟩;rw[show min x.sz (x.sz-0)=x.tg.length from Aa,u Aa,qb K] at E;exact⟨v,he,E.bsl,y⟩
def pH(d:Int)(s:ByteArray):Lit:=.string (keyBytes [.int Ap d,.string s.data.toList])
def Yi(d:Int)(s:ByteArray):AA:=BS #[.int Ap d,.string s]
def tO:laidOutB Aq=AQ:=Ac
def tL:(192:Cn)<Aq.types.size:=Ba Ac
def tS:(match Aq.underlying 192 with |some (.array _ _)|some (.struct _)=>AQ|_=>AN)=AQ:=Ac
def wy:WideMaps.KeyLaw Aq 192:=deep_law_laid tO (m:=3) Aa tL Ac tS
def kdW:Maps.Keyed Aq 192:=Maps.Keyed.of_law wy
def tM:Aq.keyType 192=AQ:=Ac
def jN:Aq.cellsOf 192=2:=Ac
def cM{d:Int}{s:ByteArray}(hd:(Lit.int Ap d).wf=AQ)(h:s.size<=1000):keyOf Aq 192 (Yi d s)=H (pH d s):=by
 have c:(Yi d s).formed Aq 192=AQ:=by simp[Yi,AA.formed,underlying192,jN]
 obtain⟨m,f⟩:∃ m,Aq.types.size+1=m+1+1:=by
  obtain⟨k,a⟩:=Nat.exists_eq_add_of_lt tL;exact⟨_,by rw[a]⟩
 have b:s.size<=maxLen:=by simp only[maxLen];omega
 have a:Aq.keyLits (Aq.types.size+1) 192 [.int Ap d,.string s]=H [.int Ap d,.string s.data.toList]:=by
  rw[f];simp[Program.keyLits,underlying192,jN,hd,b,show Aq.cellsOf 3=1 from Ac,show Aq.cellsOf 9=1 from Ac]
 unfold keyOf;rw[underlying192];simp only[tM,c,Bool.and_self,if_true];show((Aq.keyLits (Aq.types.size+1) 192 [.int Ap d,.string s]).map fun g=>Lit.string (keyBytes g))=_
 rw[a];rfl
def mF{d a:Int}{s f:ByteArray}(hd:(Lit.int Ap d).wf=AQ)(b:(Lit.int Ap a).wf=AQ)(g:s.size<=1000)(c:f.size<=1000)(h:pH d s=pH a f):d=a/\s=f:=by
 have:=kdW.inj (cM hd g) (by rw[h];exact cM b c);unfold Yi at this;simp at this;exact this
def MpK(w:At)(b:Nat)(K:Int->ByteArray->Option Int)(n:Nat):Prop:=
 ∃ D:DataW Unit,w.ownsMap Aq 192 (plainElem Aq 3) b n D/\∀ d s,(Lit.int Ap d).wf=AQ->s.size<=1000->Maps.has D (pH d s)=(K d s).isSome/\D.atKey (pH d s) (.lit (.int Ap 0))=.lit (.int Ap ((K d s).getD 0))
def Jj(K:Int->ByteArray->Option Int)(d:Int)(s:ByteArray)(v:Int):Int->ByteArray->Option Int:=fun a b=>if a=d/\b=s then H v else K a b
def pQ(w:At):(zeroValue 3).run Aq w=.ok (.int Ap 0) w:=by
 have c:(Aq.info? 3).map (fun i=>(i.zero,i.size,i.bytes))=H (H (.int Ap 0),1,8):=Ac;obtain⟨t,a,b,_⟩:=Bs c;simp[zeroValue,typeInfo,a,b,Result.andThen]
section
variable {w:At}{b n:Nat}{K:Int->ByteArray->Option Int}
def MpK.lt(h:MpK w b K n):b<w.heap.size:=by
 obtain⟨D,h,_⟩:=h;exact h.lt
def MpK.keep{w':At}(h:MpK w b K n)(f:w'.heap[b]? =w.heap[b]?):MpK w' b K n:=by
 obtain⟨D,⟨c,a,d,r⟩,g⟩:=h;exact⟨D,⟨c,a,f.trans d,r⟩,g⟩
def MpK.not_cells(h:MpK w b K n){k:Nat}{cs:Array AA}{T:Cn}{z:Nat × Nat}(d:w.heap[k]? =H (Ay cs T z)):b≠k:=fun e=>by
 obtain⟨D,⟨f,a,c,_⟩,_⟩:=h;rw[e,d] at c;cases c
def MpK.made(w:At):MpK (w.alloc (.map #[] 0)) w.heap.size (fun _ _=>Ar) 0:=
 ⟨.map [],At.ownsMap_made w _ _ _,fun d s _ _=>⟨rfl,rfl⟩⟩
def MpK.look(h:MpK w b K n){d:Int}{s:ByteArray}(hd:(Lit.int Ap d).wf=AQ)(f:s.size<=1000):(Instr.lookup 80 (.map (H b)) (Yi d s) AQ).run Aq w=.ok (AT #[.int Ap ((K d s).getD 0),.bool (K d s).isSome]) w:=by
 obtain⟨D,k,l⟩:=h;obtain⟨i,j⟩:=l d s hd f;obtain⟨v,p,g,m⟩:=k.look_ok kdW underlying80 (pQ w) (plainElem_int underlying3 Af) (cM hd f);obtain⟨c,rfl,a,o⟩:=plainElem_int_inv underlying3 m;simp only[Prod.mk.injEq] at a;rw[j] at a;have e:(K d s).getD 0=c:=by have:=a.1;cases this;rfl
 rw[g,i,e]
def MpK.get(h:MpK w b K n){d:Int}{s:ByteArray}(hd:(Lit.int Ap d).wf=AQ)(f:s.size<=1000):(Instr.lookup 80 (.map (H b)) (Yi d s) AN).run Aq w=.ok (.int Ap ((K d s).getD 0)) w:=by
 obtain⟨D,j,k⟩:=h;obtain⟨l,i⟩:=k d s hd f;obtain⟨c,g,a,_⟩:=j.lookup_int kdW underlying80 underlying3 (pQ w) (cM hd f);rw[i] at a;have e:(K d s).getD 0=c:=by cases a;rfl
 rw[g,e]
def MpK.store(h:MpK w b K n){d v:Int}{s:ByteArray}(hd:(Lit.int Ap d).wf=AQ)(j:s.size<=1000)(hv:(Lit.int Ap v).wf=AQ)(t:n<100000):
 ∃ w',(Instr.mapUpdate 80 (.map (H b)) (Yi d s) (.int Ap v)).run Aq w=.ok () w'/\MpK w' b (Jj K d s v) (n+1)/\w.grownBy w' (H b)/\w'.heap.size=w.heap.size:=by
 obtain⟨D,l,q⟩:=h;have o:=l.isMap;have c:WideAt.IsKeyLit (pH d s):=kdW.key (cM hd j);obtain⟨w',p,r,m⟩:=l.store kdW underlying80 (by simp only[maxLen];omega) (cM hd j) (plainElem_int underlying3 hv);refine⟨w',p,⟨_,r,fun i k a g=>?_⟩,m.grown,by obtain⟨_,_,_,_,_,rfl⟩:=m;simp[ChangeMaps.setBlock]⟩;unfold Jj;by_cases e:i=d/\k=s
 . obtain⟨rfl,rfl⟩:=e
   rw[AG ⟨rfl,rfl⟩];exact⟨Maps.has_put_same o c _,Maps.atKey_put_same o c _ _⟩
 . rw[AJ e]
   have f:pH i k≠pH d s:=fun h=>e (mF a hd g j h)
   rw[Maps.has_put_other f,Maps.atKey_put_other f];exact q i k a g
end
def O3(T:Fa)(n d kd:Nat)(s:ByteArray)(tg:Ab):Fa:=fun i=>if i=n then H ⟨kd,[],tg⟩ else if i=d then (T i).map fun x=>{ x with L:=x.L ++ [((n:Int),s)] } else T i
def ZX{T:Fa}{n d kd:Nat}{s:ByteArray}{tg:Ab}:upd (TC T n d kd s) n (H { (⟨kd,[],[]⟩:Nd) with tg:=tg })=O3 T n d kd s tg:=by
 funext i;unfold O3 TC;by_cases e:i=n
 . rw[e,Dy,AG rfl]
 . rw[Cx _ _ e,AJ e,AJ e]
structure OkU (T:Fa) (m:Nat):Prop where
 up:∀ i x,T i=H x->∀ e∈x.L,(i:Int)<e.1/\2<=e.1
 one:∀ i x j y,T i=H x->T j=H y->∀ a b,a<x.L.length->b<y.L.length->(x.L.getD a default).1=(y.L.getD b default).1->i=j/\a=b
 all:∀ n:Nat,2<=n->n<=m->∃ i x,T i=H x/\∃ e∈x.L,e.1=(n:Int)
 nm:∀ i x,T i=H x->(∀ e∈x.L,Ie e.2=AQ)/\∀ a b,a<x.L.length->b<x.L.length->(x.L.getD a default).2=(x.L.getD b default).2->a=b
 ln:∀ i x,T i=H x->x.L.length+1<=m
def tD:OkU T0 1:=by
 have c:∀ i x,T0 i=H x->x.L=[]:=fun i x h=>by
  unfold T0 at h;split at h
  . rw[<- Bc h]
  . cases h
 refine⟨fun i x h e he=>?_,fun i x j y h _ a b d=>?_,fun n f g=>Aa,fun i x h=>⟨fun e he=>?_,fun a b d=>?_⟩,fun i x h=>by rw[c i x h];decide⟩
 . rw[c i x h] at he;cases he
 . rw[c i x h] at d;cases d
 . rw[c i x h] at he;cases he
 . rw[c i x h] at d;cases d
section
variable {T:Fa}{m d kd:Nat}{s:ByteArray}{tg:Ab}{x0:Nd}
def SY(b:Te T m)(hd:(T d).isSome=AQ):Te (O3 T (m+1) d kd s tg) (m+1):=fun i=>by
 unfold O3;by_cases e:i=m+1
 . rw[AG e,e];simp
 . rw[AJ e]
   by_cases a:i=d
   . rw[AG a,Option.isSome_map,b i];omega
   . rw[AJ a,b i];omega
def Gr{n:Nat}(b:T d=H x0){i:Nat}{x:Nd}(h:O3 T n d kd s tg i=H x):(i=n/\x=⟨kd,[],tg⟩)\/(i≠n/\i=d/\x={ x0 with L:=x0.L ++ [((n:Int),s)] })\/(i≠n/\i≠d/\T i=H x):=by
 unfold O3 at h;by_cases e:i=n
 . rw[AG e] at h;exact A4 ⟨e,(Bc h).symm⟩
 . rw[AJ e] at h
   by_cases a:i=d
   . rw[AG a,a,b] at h
     exact A8 (A4 ⟨e,a,(Bc h).symm⟩)
   . rw[AJ a] at h
     exact A8 (A8 ⟨e,a,h⟩)
def pU(h:OkT T)(l:Te T m)(C:m<47)(c:T d=H x0)(t:x0.kd=2)(B:x0.L.length<48)(u:kd=1\/kd=2\/kd=3)(v:tg.length<=200/\Fv tg/\(kd=3 ↔ 1<=tg.length)):OkT (O3 T (m+1) d kd s tg):=by
 have A:=(l d).1 (by rw[c];rfl);have w:=(l 1).2 Aa;have D:d≠m+1:=Aa;have j:∀ (i:Nat) (y:Nd),T i=H y->∃ g,O3 T (m+1) d kd s tg i=H g/\g.kd=y.kd:=fun i y e=>by
  have:=(l i).1 (by rw[e];rfl);unfold O3;rw[AJ Aa];by_cases p:i=d
  . rw[AG p,e];exact⟨_,rfl,rfl⟩
  . rw[AJ p];exact⟨y,e,rfl⟩
 refine⟨?_,fun i x e=>?_,fun i x e=>?_,fun i x e z f=>?_,fun i x e=>?_,fun i x e q=>?_,fun i x e=>?_⟩
 . obtain⟨y,a,b⟩:=h.root
   obtain⟨g,r,o⟩:=j 1 y a;exact⟨g,r,o.trans b⟩
 . have:=(SY (kd:=kd) (s:=s) (tg:=tg) l (by rw[c];rfl) i).1 (by rw[e];rfl)
   omega
 . rcases Gr c e with⟨_,rfl⟩| ⟨_,_,rfl⟩| ⟨_,_,e⟩
   . exact u
   . exact h.kd d x0 c
   . exact h.kd i x e
 . have k:∀ i x,T i=H x->∀ z∈x.L,∃ (n:Nat) (y:Nd),z.1=(n:Int)/\O3 T (m+1) d kd s tg n=H y:=fun i x e z f=>by
    obtain⟨n,y,a,b⟩:=h.ent i x e z f;obtain⟨g,o,_⟩:=j n y b;exact⟨n,g,a,o⟩
   rcases Gr c e with⟨_,rfl⟩| ⟨_,_,rfl⟩| ⟨_,_,e⟩
   . cases f
   . rcases BU.1 f with f|f
     . exact k d x0 c z f
     . rw[BN.1 f]
       exact⟨m+1,⟨kd,[],tg⟩,rfl,by unfold O3;rw[AG rfl]⟩
   . exact k i x e z f
 . rcases Gr c e with⟨_,rfl⟩| ⟨_,_,rfl⟩| ⟨_,_,e⟩
   . exact A7 _
   . show(x0.L ++ [(((m+1:Nat):Int),s)]).length<=48
     rw[AO,List.length_singleton];omega
   . exact h.len i x e
 . rcases Gr c e with⟨_,rfl⟩| ⟨_,_,rfl⟩| ⟨_,_,e⟩
   . rfl
   . exact absurd t q
   . exact h.file i x e q
 . rcases Gr c e with⟨_,rfl⟩| ⟨_,_,rfl⟩| ⟨_,_,e⟩
   . exact v
   . exact h.link d x0 c
   . exact h.link i x e
def li(h:OkU T m)(S:OkT T)(K:Te T m)(o:T d=H x0)(R:Ie s=AQ)(hi:¬ DM x0.L s<x0.L.length):OkU (O3 T (m+1) d kd s tg) (m+1):=by
 have U:=(K d).1 (by rw[o];rfl);have O:∀ i x,T i=H x->∀ e∈x.L,e.1<=(m:Int):=fun i x e z f=>by
  obtain⟨n,y,a,b⟩:=S.ent i x e z f;have:=(K n).1 (by rw[b];rfl);omega
 have p:∀ (l:List Hg) a,a<l.length->l.getD a default∈l:=fun l a k=>by rw[F7 _ k];exact Br _
 have I:∀ (l:List Hg) (z:Hg) a,a<(l ++ [z]).length->(a<l.length/\(l ++ [z]).getD a default=l.getD a default)\/(a=l.length/\(l ++ [z]).getD a default=z):=fun l z a k=>by
  rw[AO,List.length_singleton] at k;by_cases e:a<l.length
  . exact A4 ⟨e,by rw[Az,BT e,<- Az]⟩
  . have g:a=l.length:=by omega
    refine A8 ⟨g,?_⟩;rw[g,Az,B5 (AE _),Nat.sub_self];rfl
 refine⟨fun i x e z f=>?_,fun i x j y Q g a b k D he=>?_,fun n M P=>?_,fun i x e=>?_,fun i x e=>?_⟩
 . rcases Gr o e with⟨_,rfl⟩| ⟨_,g,rfl⟩| ⟨_,_,e⟩
   . cases f
   . rcases BU.1 f with f|f
     . rw[g];exact h.up d x0 o z f
     . rw[BN.1 f,g]
       exact⟨by show(d:Int)<((m+1:Nat):Int);omega,by show(2:Int)<=((m+1:Nat):Int);omega⟩
   . exact h.up i x e z f
 . -- an entry of it: one of before, or the new one
   have t:∀ i x a,O3 T (m+1) d kd s tg i=H x->a<x.L.length->(∃ u,T i=H u/\a<u.L.length/\x.L.getD a default=u.L.getD a default)\/(i=d/\a=x0.L.length/\x.L.getD a default=(((m+1:Nat):Int),s)):=fun i x a e k=>by
    rcases Gr o e with⟨_,rfl⟩| ⟨_,g,rfl⟩| ⟨_,_,e⟩
    . cases k
    . rcases I x0.L _ a k with⟨q,r⟩| ⟨q,r⟩
      . exact A4 ⟨x0,by rw[g];exact o,q,r⟩
      . exact A8 ⟨g,q,r⟩
    . exact A4 ⟨x,e,k,rfl⟩
   rcases t i x a Q k with⟨u,E,F,G⟩| ⟨E,F,G⟩
   . rcases t j y b g D with⟨J,v,w,A⟩| ⟨v,w,A⟩
     . rw[G,A] at he
       exact h.one i u j J E v a b F w he
     . rw[G,A] at he
       have:=O i u E _ (p _ a F);have:(u.L.getD a default).1=((m+1:Nat):Int):=he;omega
   . rcases t j y b g D with⟨J,v,w,A⟩| ⟨v,w,A⟩
     . rw[G,A] at he
       have:=O j J v _ (p _ b w);have:((m+1:Nat):Int)=(J.L.getD b default).1:=he;omega
     . exact⟨E.trans v.symm,F.trans w.symm⟩
 . by_cases e:n=m+1
   . refine⟨d,{ x0 with L:=x0.L ++ [(((m+1:Nat):Int),s)] },?_,(((m+1:Nat):Int),s),Cz _ (BN.2 rfl),by rw[e]⟩
     unfold O3;rw[AJ Aa,AG rfl,o];rfl
   . obtain⟨i,x,a,z,b,c⟩:=h.all n M Aa
     have:=(K i).1 (by rw[a];rfl);by_cases g:i=d
     . rw[g,o] at a
       cases a
       refine⟨d,{ x0 with L:=x0.L ++ [(((m+1:Nat):Int),s)] },?_,z,BA _ b,c⟩;unfold O3;rw[AJ Aa,AG rfl,o];rfl
     . refine⟨i,x,?_,z,b,c⟩
       unfold O3;rw[AJ Aa,AJ g];exact a
 . rcases Gr o e with⟨_,rfl⟩| ⟨_,g,rfl⟩| ⟨_,_,e⟩
   . exact⟨fun z f=>(by cases f),fun a b k=>(by cases k)⟩
   . obtain⟨M,P⟩:=h.nm d x0 o
     have N:∀ a,a<x0.L.length->(x0.L.getD a default).2≠s:=fun a k=>by
      have:DM x0.L s=x0.L.length:=Nat.le_antisymm (oU _ _) Aa;exact idxN_none.1 this _ (p _ a k)
     refine⟨fun z f=>?_,fun a b k D he=>?_⟩
     . rcases BU.1 f with f|f
       . exact M z f
       . rw[BN.1 f];exact R
     . rcases I x0.L _ a k with⟨q,r⟩| ⟨q,r⟩
       . rcases I x0.L _ b D with⟨B,C⟩| ⟨B,C⟩
         . rw[r,C] at he;exact P a b q B he
         . rw[r,C] at he;exact absurd he (N a q)
       . rcases I x0.L _ b D with⟨B,C⟩| ⟨B,C⟩
         . rw[r,C] at he;exact absurd he.symm (N b B)
         . exact q.trans B.symm
   . exact h.nm i x e
 . rcases Gr o e with⟨_,rfl⟩| ⟨_,_,rfl⟩| ⟨_,_,e⟩
   . show 0+1<=m+1
     omega
   . show(x0.L ++ [(((m+1:Nat):Int),s)]).length+1<=m+1
     rw[AO,List.length_singleton];have:=h.ln d x0 o;omega
   . have:=h.ln i x e
     omega
end
end
end Go.Proofs.YtfpdajplfmakhaaGreatDoor
