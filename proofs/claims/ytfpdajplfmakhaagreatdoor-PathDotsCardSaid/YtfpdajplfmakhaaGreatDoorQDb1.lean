/- What the law rests on. -/
import Derived.Test.YtfpdajplfmakhaaGreatDoorQD16
open Go.Value renaming int->J,slice->Aw,pointer->F,tuple->j,bool->M,agg->BS
open Go.IntKind renaming i64->Y
open Go.Proofs.Tryz renaming prog->I
open Option renaming none->X,some->H
open Go renaming World->E,Value->AA,Calls->O,strOfNums->N
open Go.Ending renaming returned->B
open Go.Obj renaming cells->K
open Go.RowKit renaming Below->D
open Bool renaming false->AN,true->Z
open Or renaming inl->P,inr->C
open List renaming length_cons->BJ
open Go.Proofs.Tryz
namespace Go.Proofs.YtfpdajplfmakhaaGreatDoor
set_option linter.defProp false
set_option maxHeartbeats 12000000
set_option linter.unusedVariables false
set_option maxRecDepth 100000
open Go.RowKit BM
def cut_app(r:List UInt8):∀ l c:List UInt8,H9 (l ++ 47 :: r) c=H9 l c ++ H9 r []
 |[],c=>by simp[H9]
 |b :: l,c=>by
  rw[List.cons_append,H9,H9];split
  . rw[cut_app r l []];rfl
  . exact cut_app r l _
def pcs_app(l r:List UInt8):Un (l ++ 47 :: r) []=Un l [] ++ Un r []:=by
 rw[Qn,Qn,Qn,cut_app,List.filter_append]
def dotS:ByteArray:=⟨#[46]⟩
def data_app(a b:ByteArray):(a ++ b).data.toList=a.data.toList ++ b.data.toList:=by rw[ByteArray.data_append,Array.toList_append]
def parts_end(s:ByteArray):BX (s ++ ⟨#[47,46]⟩)=BX s ++ [dotS]:=by
 unfold BX;rw[data_app];show(Un (s.data.toList ++ 47 :: [46]) []).map b_=_
 rw[pcs_app,Cw];rfl
def parts_begin{s:ByteArray}(h:s.data.toList.head? =H 47):BX (⟨#[47,46]⟩ ++ s)=dotS :: BX s:=by
 obtain⟨r,c⟩:∃ r,s.data.toList=47 :: r:=by
  cases a:s.data.toList with
  |nil=>rw[a] at h;cases h
  |cons b r=>rw[a] at h;exact⟨r,by rw[Bc h]⟩
 unfold BX;rw[data_app,c];show(Un ([] ++ 47 :: ([46] ++ 47 :: r)) []).map b_=dotS :: (Un ([] ++ 47 :: r) []).map b_
 rw[pcs_app,pcs_app,pcs_app];rfl
def parts_both_ends(s:ByteArray):BX (⟨#[47,47]⟩ ++ s ++ ⟨#[47,47]⟩)=BX s:=by
 unfold BX;rw[data_app,data_app];show(Un ([] ++ 47 :: ([] ++ 47 :: s.data.toList) ++ 47 :: ([] ++ 47 :: [])) []).map b_=_
 rw[pcs_app,pcs_app,pcs_app,pcs_app];show(([] ++ ([] ++ Un s.data.toList [])) ++ ([] ++ [])).map b_=_
 rw[List.nil_append,List.nil_append,List.nil_append,Cc]
def size_app(a b:ByteArray):(a ++ b).size=a.size+b.size:=ByteArray.size_append
def ok_end{s:ByteArray}(f:s.size<=90):OkP (s ++ ⟨#[47,46]⟩) ↔ OkP s/\(BX s).length<20:=by
 constructor
 . intro h
   refine⟨⟨Aa,fun b a=>h.nz b (by rw[data_app];exact BA _ a),fun p c=>h.ln p (by rw[parts_end];exact BA _ c),?_⟩,?_⟩
   all_goals
    have:=h.ct;rw[parts_end,AO,List.length_singleton] at this;omega
 . rintro⟨h,d⟩
   refine⟨by rw[size_app];show s.size+2<=200;omega,fun b a=>?_,fun p c=>?_,by rw[parts_end,AO,List.length_singleton];omega⟩
   . rw[data_app] at a
     rcases BU.1 a with a|a
     . exact h.nz b a
     . have:b=47\/b=46:=by simpa using a
       rcases this with rfl|rfl <;> decide
   . rw[parts_end] at c
     rcases BU.1 c with c|c
     . exact h.ln p c
     . rw[BN.1 c];decide
def ok_begin{s:ByteArray}(g:s.size<=90)(d:s.data.toList.head? =H 47):OkP (⟨#[47,46]⟩ ++ s) ↔ OkP s/\(BX s).length<20:=by
 constructor
 . intro h
   refine⟨⟨Aa,fun b a=>h.nz b (by rw[data_app];exact Cz _ a),fun p c=>h.ln p (by rw[parts_begin d];exact B9 _ c),?_⟩,?_⟩
   all_goals
    have:=h.ct;rw[parts_begin d,BJ] at this;omega
 . rintro⟨h,f⟩
   refine⟨by rw[size_app];show 2+s.size<=200;omega,fun b a=>?_,fun p c=>?_,by rw[parts_begin d,BJ];omega⟩
   . rw[data_app] at a
     rcases BU.1 a with a|a
     . have:b=47\/b=46:=by simpa using a
       rcases this with rfl|rfl <;> decide
     . exact h.nz b a
   . rw[parts_begin d] at c
     rcases Ez.1 c with e|c
     . rw[e];decide
     . exact h.ln p c
def ok_both_ends{s:ByteArray}(d:s.size<=90):OkP (⟨#[47,47]⟩ ++ s ++ ⟨#[47,47]⟩) ↔ OkP s:=by
 constructor
 . intro h
   exact⟨Aa,fun b a=>h.nz b (by rw[data_app,data_app];exact BA _ (Cz _ a)),fun p c=>h.ln p (by rw[parts_both_ends];exact c),by have:=h.ct;rwa [parts_both_ends] at this⟩
 . intro h
   refine⟨by rw[size_app,size_app];show 2+s.size+2<=200;omega,fun b a=>?_,fun p c=>h.ln p (by rw[parts_both_ends] at c;exact c),by rw[parts_both_ends];exact h.ct⟩;rw[data_app,data_app] at a;rcases BU.1 a with a|a
   . rcases BU.1 a with a|a
     . have:b=47:=by simpa using a
       rw[this];decide
     . exact h.nz b a
   . have:b=47:=by simpa using a
     rw[this];decide
def DotR(T:Fa)(R G:gD):Prop:=(R.2≠0->G.2≠0)/\(R.2=0->(R.1.2.2=0/\G.2≠0)\/∃ (i:Nat) (x:Nd),R.1.2.2=(i:Int)/\T i=H x/\(x.kd≠2->G.2=6\/G.2=10\/G.2=11)/\(x.kd=2->G=(((i:Int),⟨#[]⟩,(i:Int)),0)\/G.2=10\/G.2=11))
def DotR.ten{T:Fa}{R G:gD}(h:DotR T R G):DotR T R (M0 10):=by
 refine⟨fun _=>by show(10:Int)≠0;decide,fun c=>?_⟩;rcases h.2 c with⟨a,_⟩| ⟨i,x,a,b,_⟩
 . exact P ⟨a,by show(10:Int)≠0;decide⟩
 . exact C ⟨i,x,a,b,fun _=>C (P rfl),fun _=>C (P rfl)⟩
def dotR_err{T:Fa}{a b:Int}(c:a≠0)(hb:b≠0):DotR T (M0 a) (M0 b):=⟨fun _=>hb,fun h=>absurd h c⟩
def dot_is:(dotS.toList==[46])=Z:=by
 have:dotS.toList=[46]:=by rw[Cg];rfl
 rw[this];rfl
def wlk_dots{T:Fa}(A:OkT T):∀ (n a f:Nat) (l:List ByteArray),(5-f)*21+l.length<=n->f<=4->(∃ x,T a=H x/\x.kd=2)->DotR T (IE T Z a f l) (IE T Z a f (l ++ [dotS])):=by
 intro n;induction n with
 |zero=>intro a f l F w;omega
 |succ n ih=>
  intro a f l F w S;obtain⟨x,j,D⟩:=S;cases l with
  |nil=>
   rw[List.nil_append,Z5 dot_is,Tc];refine⟨fun h=>absurd rfl h,fun _=>C ⟨a,x,rfl,j,fun h=>absurd D h,fun _=>P rfl⟩⟩
  |cons s r=>
   rw[List.cons_append];rw[BJ] at F;cases b:(s.toList==[46])
   . cases c:(s.toList==[46,46])
     . by_cases u:DM x.L s<x.L.length
       . obtain⟨G,y,he,o⟩:=A.ent a x j _ (by rw[F7 _ u];exact Br _:x.L.getD (DM x.L s) default∈x.L)
         have k:=TL (fo:=Z) (f:=f) (r:=r) b c j u he o;have m:=TL (fo:=Z) (f:=f) (r:=r ++ [dotS]) b c j u he o;have E:r ++ [dotS]≠[]:=Ai;by_cases g:y.kd=3
         . have k:=k.1 ⟨g,C rfl⟩
           have m:=m.1 ⟨g,C rfl⟩;by_cases d:4<f+1
           . rw[k.1 d,m.1 d]
             exact dotR_err Af Af
           . obtain⟨K,M⟩:=k.2 d
             obtain⟨O,Q⟩:=m.2 d;by_cases z:OkP (N y.tg)
             . rw[M z,Q z]
               have i:∃ I,T (if (N y.tg).data.toList.head? =H 47 then 1 else a)=H I/\I.kd=2:=by
                split
                . exact A.root
                . exact⟨x,j,D⟩
               by_cases q:20<(BX (N y.tg) ++ r).length
               . rw[AG q,AG (by rw[<- Bj,AO];omega)]
                 exact dotR_err Af Af
               . rw[AJ q]
                 obtain⟨J,B⟩:=nm (if (N y.tg).data.toList.head? =H 47 then 1 else a);rw[<- B] at i |-
                 have:=ih J (f+1) (BX (N y.tg) ++ r) Aa Aa i;rw[Bj] at this;by_cases t:20<(BX (N y.tg) ++ (r ++ [dotS])).length
                 . rw[AG t]
                   exact this.ten
                 . rw[AJ t]
                   exact this
             . rw[K z,O z]
               exact dotR_err Af Af
         . have k:=k.2 (fun h=>g h.1)
           have m:=m.2 (fun h=>g h.1);rw[k,m,AJ E];by_cases v:r=[]
           . subst v
             rw[AG rfl,List.nil_append];refine⟨fun h=>absurd rfl h,fun _=>C ⟨G,y,rfl,o,fun h=>?_,fun h=>?_⟩⟩
             . rw[AG h];exact P rfl
             . rw[AJ (fun R=>R h),Z5 dot_is,Tc];exact P rfl
           . rw[AJ v]
             by_cases p:y.kd≠2
             . rw[AG p,AG p]
               exact dotR_err Af Af
             . rw[AJ p,AJ p]
               exact ih G f r Aa w ⟨y,o,Decidable.not_not.1 p⟩
       . rw[SP b c j u,SP b c j u,AJ (by simp:¬ r ++ [dotS]=[])]
         by_cases v:r=[]
         . rw[AG v]
           exact⟨fun h=>absurd rfl h,fun _=>P ⟨rfl,by show(4:Int)≠0;decide⟩⟩
         . rw[AJ v]
           exact dotR_err Af Af
     . rw[kb b c,kb b c]
       obtain⟨y,o,U,_⟩:=aF A a;exact ih _ f r Aa w ⟨y,o,U⟩
   . rw[Z5 b,Z5 b]
     exact ih a f r Aa w ⟨x,j,D⟩
open Classical in
def dots_facts{T:Fa}(o:OkT T){s:ByteArray}(q:s.size≠0)(g:s.size<=90):
 DotR T (Nf T s Z) (Nf T (s ++ ⟨#[47,46]⟩) Z)/\((Nf T s Z).2≠0->s.data.toList.head? =H 47->(Nf T (⟨#[47,46]⟩ ++ s) Z).2≠0)/\
 ((Nf T s Z).2=0->OkP s/\s.data.toList.head? =H 47/\((BX s).length<20->Nf T (⟨#[47,46]⟩ ++ s) Z=Nf T s Z)/\Nf T (⟨#[47,47]⟩ ++ s ++ ⟨#[47,47]⟩) Z=Nf T s Z):=by
 have f:(s ++ ⟨#[47,46]⟩).data.toList.head? =s.data.toList.head? :=by
  rw[data_app];cases t:s.data.toList with
  |nil=>exact absurd (p_nil.1 t) q
  |cons b r=>rfl
 have k:((⟨#[47,46]⟩:ByteArray) ++ s).data.toList.head? =H 47:=by rw[data_app];rfl
 have l:((⟨#[47,47]⟩:ByteArray) ++ s ++ ⟨#[47,47]⟩).data.toList.head? =H 47:=by rw[data_app,data_app];rfl
 by_cases d:s.data.toList.head? =H 47
 . have c:Nf T s Z=if OkP s then IE T Z 1 0 (BX s) else M0 10:=by unfold Nf;rw[AG d]
   have i:Nf T (s ++ ⟨#[47,46]⟩) Z=if OkP (s ++ ⟨#[47,46]⟩) then IE T Z 1 0 (BX s ++ [dotS]) else M0 10:=by unfold Nf;rw[AG (f.trans d),parts_end]
   have j:Nf T (⟨#[47,46]⟩ ++ s) Z=if OkP (⟨#[47,46]⟩ ++ s) then IE T Z 1 0 (BX s) else M0 10:=by unfold Nf;rw[AG k,parts_begin d,Z5 dot_is]
   have n:Nf T (⟨#[47,47]⟩ ++ s ++ ⟨#[47,47]⟩) Z=if OkP s then IE T Z 1 0 (BX s) else M0 10:=by
    unfold Nf;rw[AG l,parts_both_ends];by_cases a:OkP s
    . rw[AG a,AG ((ok_both_ends g).2 a)]
    . rw[AJ a,AJ fun h=>a ((ok_both_ends g).1 h)]
   have p:=wlk_dots o ((5-0)*21+(BX s).length) 1 0 (BX s) (AE _) Af o.root;by_cases a:OkP s
   . rw[AG a] at c n
     refine⟨?_,fun m _=>?_,fun v=>⟨a,d,fun u=>?_,by rw[n,c]⟩⟩
     . rw[c,i]
       split
       . exact p
       . exact p.ten
     . rw[j]
       split
       . rw[<- c];exact m
       . show(10:Int)≠0;decide
     . rw[j,c,AG ((ok_begin g d).2 ⟨a,u⟩)]
   . rw[AJ a] at c
     rw[c,i,j,AJ fun h=>a ((ok_end g).1 h).1,AJ fun h=>a ((ok_begin g d).1 h).1];exact⟨dotR_err Af Af,fun _ _=>by show(10:Int)≠0;decide,fun h=>by cases h⟩
 . have c:Nf T s Z=M0 9:=by unfold Nf;rw[AJ d]
   have i:Nf T (s ++ ⟨#[47,46]⟩) Z=M0 9:=(by unfold Nf;rw[AJ (by rw[f];exact d)]);rw[c,i];exact⟨dotR_err Af Af,fun _ h=>absurd h d,fun h=>by cases h⟩
def FsW.low{w V:E}{c:Nat}{T:Fa}(h:FsW w c T)(a:D w.heap.size w V):FsW V c T:=
 ⟨fun U b=>h.get U (a.trans (b.mono a.size)),fun U b=>h.find U (a.trans (b.mono a.size)),fun U b=>h.read U (a.trans (b.mono a.size))⟩
abbrev WkC (w:E) (bf:Nat) (s:ByteArray) (R:gD):Prop:=∀ V,D w.heap.size w V->O I 11 #[F (H ⟨bf,0,X⟩),.string s,M Z] V fun e w'=>e=B (j #[BS #[J Y R.1.1,.string R.1.2.1,J Y R.1.2.2],J Y R.2])/\D V.heap.size V w'
def wkC_of{w:E}{a m:Nat}{T:Fa}(b:FsW w a T)(c:OkT T)(d:OkU T m)(s:ByteArray):WkC w a s (Nf T s Z):=
 fun V f=>Ve (b.low f) c d s Z
def PlC(w:E)(b:Nat)(R:gD):Prop:=w.heap[b]? =H (K #[J Y R.1.1,.string R.1.2.1,J Y R.1.2.2] 35)
def PlC.cells{w:E}{b:Nat}{R:gD}(h:PlC w b R):w.cell? ⟨b,0,X⟩=H (J Y R.1.1)/\w.cell? ⟨b,1,X⟩=H (.string R.1.2.1)/\w.cell? ⟨b,2,X⟩=H (J Y R.1.2.2):=by
 refine⟨?_,?_,?_⟩
 all_goals
  rw[AD _ _ _ _ _ _ h];rfl
def PlC.low{w w':E}{b:Nat}{R:gD}(h:PlC w b R)(hb:D w.heap.size w w'):PlC w' b R:=(hb.block _ (Au.1 h).1).trans h
def lPathDots_few{w:E}{v:AA}{S:List Th}(hv:ThS w v S)(hS:S.length<=60){s:ByteArray}(h0:s.size≠0)(hs:s.size<=90):O I 5 #[v,.string s] w fun e w'=>e=B (M Z)/\D w.heap.size w w':=by
 obtain⟨ao,q,rfl⟩:=p_ hv;obtain⟨n,hn⟩:=nm S.length;rw[<- hn] at hv hS |-
 have KA:=wN (Oa w);have KB:Hid (∀ V,D w.heap.size w V->O I 10 #[Aw ao n q] V fun e w'=>∃ bf bt T A Q m,e=B (j #[F (H ⟨bf,0,X⟩),F (H ⟨bt,0,X⟩)])/\D V.heap.size V w'/\FsW w' bf T/\TreH w' V.heap.size bt T A Q/\OkT T/\OkU T m):=wN fun V hV=>XI (hv.below hV) Aa
 have g:¬ (60:Int)<(n:Int):=Aa;have gs:¬ (90:Int)<(s.size:Int):=Aa;have uB:s.toList.isEmpty=AN:=by
  rw[Cg];cases c:s.data.toList with
  |nil=>exact absurd (p_nil.1 c) h0
  |cons _ _=>rfl
 have H0:=wN h0;have HS:=wN hs;clear hv hS hn h0 hs;go_enter func5,ntmps5
 go_upto_region 6 with(first|(go_at_call 6;(with_reducible refine Ad KA.out ?_);rintro w1 e7;have a0:=wN e7)|(go_at_call 10;(with_reducible refine(KB.out _ a0.out).mono ?_);rintro e w2 ⟨bf,bt,T,A,Q,m,rfl,d7,hF,e6,hT,hU⟩))
 obtain⟨N,a2⟩:=nm (Nf T s Z);obtain⟨P,a3⟩:=nm (Nf T (s ++ ⟨#[47,46]⟩) Z);obtain⟨o,a4⟩:=nm (Nf T (⟨#[47,46]⟩ ++ s) Z);obtain⟨R4,a5⟩:=nm (Nf T (⟨#[47,47]⟩ ++ s ++ ⟨#[47,47]⟩) Z);have HF:=wN hF;have HT:=wN hT;have HD:=dots_facts hT H0.out HS.out;have K1:=wkC_of hF hT hU s;have K2:=wkC_of hF hT hU (s ++ ⟨#[47,46]⟩);have K3:=wkC_of hF hT hU (⟨#[47,46]⟩ ++ s);have K4:=wkC_of hF hT hU (⟨#[47,47]⟩ ++ s ++ ⟨#[47,47]⟩);rw[<- a2,<- a3,<- a4,<- a5] at HD;rw[<- a2] at K1;rw[<- a3] at K2;rw[<- a4] at K3;rw[<- a5] at K4;have K1:=wN K1;have K2:=wN K2;have K3:=wN K3;have K4:=wN K4;have HD:=wN HD;have a:=wN (a0.out.trans (d7.mono a0.out.size));clear KA KB d7 hF e6 hT hU a2 a3 a4 a5
 go_upto_region 10 with(first|(go_at_call 11;(with_reducible refine Ad (K1.out _ (AP _ _)) ?_);rintro w3 a6;have B3:=wN (a6.alloc a6.size (K #[J Y N.1.1,.string N.1.2.1,J Y N.1.2.2] 35));have N3:=wN (AC w3 (K #[J Y N.1.1,.string N.1.2.1,J Y N.1.2.2] 35)))|(go_at_call 11;(with_reducible refine Ad (K2.out _ B3.out) ?_);rintro w4 a7;have B4:=wN (a7.alloc a7.size (K #[J Y P.1.1,.string P.1.2.1,J Y P.1.2.2] 35));have N4:=wN (AC w4 (K #[J Y P.1.1,.string P.1.2.1,J Y P.1.2.2] 35));have C4:=wN (B3.out.trans (B4.out.mono B3.out.size)))|(go_at_call 11;(with_reducible refine Ad (K3.out _ C4.out) ?_);rintro w5 a8;have B5:=wN (a8.alloc a8.size (K #[J Y o.1.1,.string o.1.2.1,J Y o.1.2.2] 35));have N5:=wN (AC w5 (K #[J Y o.1.1,.string o.1.2.1,J Y o.1.2.2] 35));have C5:=wN (C4.out.trans (B5.out.mono C4.out.size)))|(go_at_call 11;(with_reducible refine Ad (K4.out _ C5.out) ?_);rintro w6 a9;have B6:=wN (a9.alloc a9.size (K #[J Y R4.1.1,.string R4.1.2.1,J Y R4.1.2.2] 35));have N6:=wN (AC w6 (K #[J Y R4.1.1,.string R4.1.2.1,J Y R4.1.2.2] 35));have C6:=wN (C5.out.trans (B6.out.mono C5.out.size))))
 obtain⟨z,W,D3⟩:=HD.out;have W3:=N3.out;have s3:=(Au.1 W3).1;have W3:=((B6.out.block _ (by have:=B4.out.size;have:=B5.out.size;have:=B6.out.size;omega)).trans ((B5.out.block _ (by have:=B4.out.size;omega)).trans (B4.out.block _ s3))).trans W3;have W4:=N4.out;have s4:=(Au.1 W4).1;have W4:=((B6.out.block _ (by have:=B5.out.size;omega)).trans (B5.out.block _ s4)).trans W4;have W5:=N5.out;have s5:=(Au.1 W5).1;have W5:=(B6.out.block _ s5).trans W5;have W6:=N6.out;have a1:=C6.out;clear s3 s4 s5 N3 N4 N5 N6 B3 B4 B5 B6 C4 C5 C6 a6 a7 a8 a9 K1 K2 K3 K4;generalize w6.alloc (K #[J Y R4.1.1,.string R4.1.2.1,J Y R4.1.2.2] 35)=w7 at W3 W4 W5 W6 a1 |-
 have G:=wN a1;generalize w3.heap.size=b3 at W3 |-
 generalize w4.heap.size=b4 at W4 |-
 generalize w5.heap.size=b5 at W5 |-
 generalize w6.heap.size=b6 at W6 |-
 clear a1;have b7:=wN W3;have b8:=wN W4;have c0:=wN W5;have d0:=wN W6;clear W3 W4 W5 W6;by_cases he:N.2=0
 . have e1:(N.2 != 0)=AN:=by simpa using he
   obtain⟨ho,lQ,DK,rfl⟩:=D3 he;have z:=z.2 he;have KP:Hid (∀ V,O I 7 #[.string s] V fun e w'=>∃ ao q,e=B (j #[Aw ao (BX s).length q,J Y 0])/\D V.heap.size V w'):=wN fun V=>by
    refine(dX s V).mono ?_;rintro e w' (⟨_,⟨_,v,he,hv⟩| ⟨hn,_⟩,hb⟩| ⟨hn,_⟩)
    . obtain⟨ao,q,e9,_⟩:=id hv.sl
      exact⟨ao,q,by rw[he,e9],hb⟩
    . exact absurd ho hn
    . exact absurd lQ hn
   obtain⟨k,C⟩:=nm ((BX s).length);rw[<- C] at KP DK;have d9:=wN z;clear z W D3 HD ho lQ C he;go_upto_region 13 with(go_at_call 7;(with_reducible refine(KP.out _).mono ?_);rintro e w8 ⟨f2,f1,rfl,l⟩)
   have C3:Hid (PlC w8 b3 R4):=wN (PlC.low b7.out l);have C4:Hid (PlC w8 b4 P):=wN (PlC.low b8.out l);obtain⟨c1,c2,c3⟩:=C3.out.cells;obtain⟨c4,c5,c6⟩:=PlC.cells (PlC.low c0.out l);obtain⟨c7,c8,c9⟩:=PlC.cells (PlC.low d0.out l);have L:=wN (G.out.trans (l.mono G.out.size));clear l b7 b8 c0 d0;have KR:∀ {i:Nat} {x:Nd},R4.1.2.2=(i:Int)->T i=H x->Hid (O I 13 #[F (H ⟨bf,0,X⟩),J Y R4.1.2.2] w8 fun e w'=>∃ x1 x3 x4 x5 x6 x7 x8 x9 r t u y,e=B (j #[BS #[J Y x.kd,J Y x1,J Y x.sz,J Y x3,J Y x4,J Y x5,J Y x6,J Y x7,J Y x8,J Y x9,J Y r,J Y t,J Y u,J Y y],J Y 0])/\D w8.heap.size w8 w'):=fun R hx=>wN (by rw[R];exact HF.out.get w8 L.out _ _ hx)
   have e5:=wN DK;clear DK KP;by_cases hE:o=R4
   case' pos=>
    obtain rfl:=hE.symm
   case' neg=>
    have f3:¬ (k:Int)<20:=fun h=>hE (e5.out Aa)
    by_cases q1:R4.1.1=o.1.1
    case' pos=>
     rw[<- q1] at c4;clear q1;by_cases q2:R4.1.2.1.toList=o.1.2.1.toList
     case' pos=>
      by_cases q3:R4.1.2.2=o.1.2.2
      case' pos=>rw[<- q3] at c6;clear q3
   all_goals
    go_upto_region 15 with(fail)
   all_goals
    rcases d9.out with⟨R,d⟩| ⟨i,x,R,hx,z,W⟩
    . have d8:(R4.1.2.2==0)=Z:=by rw[R];rfl
      have e8:Hid ((P.2 != 0)=Z):=wN (by simpa using d);clear d R;go_wp2
      all_goals
       go_ret;exact⟨BF (fun b=>Ending.returned (M b)) e8.out,a.out.trans (L.out.mono a.out.size)⟩
    . have d8:(R4.1.2.2==0)=AN:=by
       have:=(HT.out.hi i x hx).1;rw[R];simp;omega
      have KG:=KR R hx;have HI:=wN R;have b1:=wN z;have b2:=wN W;clear R hx z W;go_upto_region 18 with(go_at_call 13;(with_reducible refine KG.out.mono ?_);rintro e w9 ⟨x1,x3,x4,x5,x6,x7,x8,x9,r,t,u,y,rfl,b0⟩)
      have U:=AC w9 (K #[J Y x.kd,J Y x1,J Y x.sz,J Y x3,J Y x4,J Y x5,J Y x6,J Y x7,J Y x8,J Y x9,J Y r,J Y t,J Y u,J Y y] 44);have p:=b0.alloc b0.size (K #[J Y x.kd,J Y x1,J Y x.sz,J Y x3,J Y x4,J Y x5,J Y x6,J Y x7,J Y x8,J Y x9,J Y r,J Y t,J Y u,J Y y] 44);generalize w9.alloc (K #[J Y x.kd,J Y x1,J Y x.sz,J Y x3,J Y x4,J Y x5,J Y x6,J Y x7,J Y x8,J Y x9,J Y r,J Y t,J Y u,J Y y] 44)=f0 at U p |-
      generalize w9.heap.size=b9 at U |-
      have m0:f0.cell? ⟨b9,0,X⟩=H (J Y x.kd):=(by rw[AD _ _ _ _ _ _ U];rfl);obtain⟨d1,d2,d3⟩:=(C3.out.low p).cells;obtain⟨d4,d5,d6⟩:=(C4.out.low p).cells;have f:=wN (L.out.trans (p.mono L.out.size));clear U p b0 c1 c2 c3 c4 c5 c6 c7 c8 c9 KG d8;by_cases C:x.kd=2
      . rw[C] at m0
        rcases b2.out C with d|d|d
        . rw[HI.out] at d3
          rw[d] at d4 d5 d6 |-
          clear C d;go_wp2;go_ret;exact⟨Ai,a.out.trans (f.out.mono a.out.size)⟩
        . rw[d]
          clear C d;go_wp2;go_ret;exact⟨rfl,a.out.trans (f.out.mono a.out.size)⟩
        . rw[d]
          clear C d;go_wp2;go_ret;exact⟨rfl,a.out.trans (f.out.mono a.out.size)⟩
      . have f4:((x.kd:Int) != 2)=Z:=by simp;omega
        rcases b1.out C with d|d|d
        all_goals
         rw[d];clear C d;go_wp2;go_ret;exact⟨rfl,a.out.trans (f.out.mono a.out.size)⟩
 . have e1:(N.2 != 0)=Z:=by simpa using he
   have e2:(P.2 != 0)=Z:=by simpa using z.1 he
   have e0:(0:Int)<(s.size:Int):=(by have:=H0.out;omega);cases e3:(o.2 != 0)
   . have h3:o.2=0:=by simpa using e3
     have e4:Hid ((((s[0]'(by have:=H0.out;omega)).toNat:Int) != 47)=Z):=by
      refine wN ?_;cases c:(((s[0]'(by have:=H0.out;omega)).toNat:Int)==47)
      . simpa using c
      . exact absurd h3 (W he (by rw[Kw (by have:=H0.out;omega),b47.1 c]))
     clear z W D3 h3 he;go_wp2;go_ret;exact⟨BF (fun b=>Ending.returned (M b)) e4.out,a.out.trans (G.out.mono a.out.size)⟩
   . clear z W D3 he
     go_wp2;go_ret;exact⟨rfl,a.out.trans (G.out.mono a.out.size)⟩
def lPathDots_many{w:E}{h:Option Addr}{n cap:Nat}{s:ByteArray}(l:60<n\/90<s.size\/s.size=0):O I 5 #[Aw h n cap,.string s] w fun e w'=>e=B (M Z)/\D w.heap.size w w':=by
 have f:=wN (fun V=>Oa V);by_cases j:60<n
 case' pos=>have g:(60:Int)<(n:Int):=Aa
 case' neg=>
  have g:¬ (60:Int)<(n:Int):=Aa;by_cases k:90<s.size
  case' pos=>have i:(90:Int)<(s.size:Int):=Aa
  case' neg=>
   have i:¬ (90:Int)<(s.size:Int):=Aa;have m:s.toList.isEmpty=Z:=by rw[Cg,p_nil.2 Aa];rfl
 all_goals
  go_enter func5,ntmps5
  go_wp2_with (first|(go_at_call 6;(with_reducible refine Ad (f.out w) ?_);rintro o c;have a:=wN c)|(go_at_call 6;(with_reducible refine Ad (f.out _) ?_);rintro p d;have b:=wN (a.out.trans (d.mono a.out.size))))
  go_ret;exact⟨rfl,b.out⟩
def lPathDots_any{W:E}{v:AA}{S:List Th}(hv:ThS W v S)(s:ByteArray):O I 5 #[v,.string s] W fun e w'=>e=B (M Z)/\D W.heap.size W w':=by
 by_cases h:S.length<=60/\s.size≠0/\s.size<=90
 . exact lPathDots_few hv h.1 h.2.1 h.2.2
 . obtain⟨b,a,rfl⟩:=p_ hv
   exact lPathDots_many Aa
end Go.Proofs.YtfpdajplfmakhaaGreatDoor
