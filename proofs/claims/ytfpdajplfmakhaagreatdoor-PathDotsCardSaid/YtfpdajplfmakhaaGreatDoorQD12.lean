/- What the law rests on. -/
import Derived.Lib.Bytealg
import Derived.Lib.AppendStr
import Derived.RangeFuncFrom
import Derived.Laws.Externs
import Derived.Deep.RegionWith
import Derived.Test.YtfpdajplfmakhaaGreatDoorQD11
open Go.Value renaming int->J,slice->F,pointer->Ax,tuple->AT,bool->AY,agg->BS
open Go.IntKind renaming i64->Z
open Go.Proofs.Tryz renaming prog->X
open Option renaming none->H,some->G
open Go renaming World->U,Value->I,Calls->AH,Oper->BK,strOfNums->B7,wpList->Cj,TypeId->Cn
open Go.Ending renaming returned->Av
open Go.Obj renaming cells->Ay
open Go.RowKit renaming Below->AB
open List renaming replicate->AI,range->BE,length_cons->BJ
open Bool renaming false->AN,true->AQ
open Array renaming replicate->AW
open Or renaming inl->A4,inr->A8
open Int renaming toNat_natCast->Cf
open Go.Proofs.Tryz
namespace Go.Proofs.YtfpdajplfmakhaaGreatDoor
set_option linter.defProp false
set_option maxHeartbeats 12000000
set_option linter.unusedVariables false
set_option maxRecDepth 100000
theorem GR:type_of% @List.drop_of_length_le:=@List.drop_of_length_le
section
open Go.RowKit
def wH{i:Nat}(h:i<138):(Lit.int Z (i:Int)).wf=AQ:=Ls Aa
structure NodeB (kl:I × I × (I->Prop)) (w:U) (bn bp sz:Nat) (M:Nat->Option Ab):Prop where
 row:∃ v,kl.2.2 v/\w.heap[bn]? =G (Ay #[kl.1,kl.2.1,.int Z sz,.map (G bp),v] 63 (0,0))
 map:∃ (K:Ab) (g:Int->I),MpC w bp K g/\(∀ x∈K,0<=x/\x<138)/\(∀ i:Nat,(i:Int)∈K ↔ (M i).isSome=AQ)/\∀ (i:Nat) l,M i=G l->g i=.string (B7 l)
 ok:OkB M
 sb:sz<=35328
section
variable {kl:I × I × (I->Prop)}{w:U}{bn bp sz:Nat}{M:Nat->Option Ab}
def NodeB.lt(h:NodeB kl w bn bp sz M):bn<w.heap.size/\bp<w.heap.size:=by
 obtain⟨d,a,b⟩:=h.row;obtain⟨K,g,c,_⟩:=h.map;exact⟨(Au.1 b).1,c.lt⟩
def NodeB.keep{w':U}(h:NodeB kl w bn bp sz M)(i:w'.heap[bn]? =w.heap[bn]?)(j:w'.heap[bp]? =w.heap[bp]?):NodeB kl w' bn bp sz M:=by
 obtain⟨f,d,a⟩:=h.row;obtain⟨K,g,b,c⟩:=h.map;exact⟨⟨f,d,i.trans a⟩,⟨K,g,b.keep j,c⟩,h.ok,h.sb⟩
def NodeB.low{w':U}(h:NodeB kl w bn bp sz M)(hb:AB w.heap.size w w'):NodeB kl w' bn bp sz M:=h.keep (hb.block _ h.lt.1) (hb.block _ h.lt.2)
def NodeB.c2(h:NodeB kl w bn bp sz M):w.cell? ⟨bn,2,H⟩=G (.int Z sz):=by
 obtain⟨c,b,a⟩:=h.row;rw[AD _ _ _ _ _ _ a];rfl
def NodeB.c3(h:NodeB kl w bn bp sz M):w.cell? ⟨bn,3,H⟩=G (.map (G bp)):=by
 obtain⟨c,b,a⟩:=h.row;rw[AD _ _ _ _ _ _ a];rfl
def NodeB.fr(h:NodeB kl w bn bp sz M)(j:Nat):w.frozen? ⟨bn,j,H⟩=AN:=by
 obtain⟨c,b,a⟩:=h.row;simp[U.frozen?,a]
def NodeB.ne(h:NodeB kl w bn bp sz M):bp≠bn:=by
 obtain⟨d,c,a⟩:=h.row;obtain⟨K,g,b,_⟩:=h.map;exact b.not_cells a
def NodeB.look(h:NodeB kl w bn bp sz M){i:Nat}(hi:i<138):(Instr.lookup 60 (.map (G bp)) (.int Z i) AQ).run X w=.ok (AT #[.string (B7 ((M i).getD [])),.bool (M i).isSome]) w:=by
 obtain⟨K,g,b,c,e,f⟩:=h.map;have d:=b.look_ok (wH hi);cases j:M i
 . have a:¬ (i:Int)∈K:=fun x=>by have:=(e i).1 x;rw[j] at this;cases this
   rw[AJ a,AM a] at d;exact d
 . next l=>
   have a:(i:Int)∈K:=(e i).2 (by rw[j];rfl);rw[AG a,AK a,f i l j] at d;exact d
def jH{K:Ab}(c:K.Nodup)(hb:∀ x∈K,0<=x/\x<138):K.length<=138:=by
 have:=QR K ((BE 138).map (fun i:Nat=>(i:Int))) c fun a b=>Ce.2 ⟨a.toNat,Bq.2 (by have:=hb a b;omega),by have:=hb a b;omega⟩
 rwa [Bn,List.length_range] at this
def addS_in{K:Ab}{n y:Int}:y∈D9 K n ↔ y∈K\/y=n:=by
 unfold D9;split
 . exact⟨A4,fun h=>h.elim id fun e=>by rw[e];assumption⟩
 . simp
def NodeB.put(h:NodeB kl w bn bp sz M){i:Nat}(hi:i<138){l:Ab}(s:l.length=256)(hb:Fv l):
 ∃ w',(Instr.mapUpdate 60 (.map (G bp)) (.int Z i) (.string (B7 l))).run X w=.ok () w'/\NodeB kl w' bn bp sz (EQ M i l)/\w.grownBy w' (G bp)/\w'.heap.size=w.heap.size:=by
 have o:=h.ne;obtain⟨r,n,a⟩:=h.row;obtain⟨K,g,b,c,e,f⟩:=h.map;obtain⟨w',u,t,q,v⟩:=b.store (wH hi) (kr (B7 l)) (by have:=jH b.nodup c;omega);refine⟨w',u,⟨⟨r,n,(q.block bn (Au.1 a).1 (by intro e;exact o (Bc e).symm)).trans a⟩,⟨_,_,t,fun x p=>?_,fun j=>?_,fun j m k=>?_⟩,h.ok.upd i s hb,h.sb⟩,q,v⟩
 . rcases addS_in.1 p with p|rfl
   . exact c x p
   . omega
 . rw[addS_in]
   by_cases d:j=i
   . subst d;rw[Fj];exact⟨fun _=>rfl,fun _=>A8 rfl⟩
   . rw[Ej _ d,e j];exact⟨fun h=>h.resolve_right Aa,A4⟩
 . show(if (j:Int)=i then _ else g j)=_
   by_cases d:j=i
   . subst d;rw[Fj] at k;cases k;rw[AG rfl]
   . rw[Ej _ d] at k;rw[AJ Aa];exact f j m k
def V4{w:U}{b:Nat}{a c g d f:I}{T:Cn}(h:w.heap[b]? =G (Ay #[a,c,g,d,f] T (0,0)))(x:I):(w.setCell ⟨b,2,H⟩ x).heap[b]? =G (Ay #[a,c,x,d,f] T (0,0)):=by
 rw[Bk w b 2 _ _ x h];rfl
def NodeB.size(h:NodeB kl w bn bp sz M){s:Nat}(k:s<=35328):NodeB kl (w.setCell ⟨bn,2,H⟩ (.int Z s)) bn bp s M/\Wrote w (w.setCell ⟨bn,2,H⟩ (.int Z s)) bn:=by
 have f:=h.ne;have i:=Wrote.setCell w bn 2 (.int Z s);obtain⟨j,d,a⟩:=h.row;obtain⟨K,g,b,c⟩:=h.map;exact⟨⟨⟨j,d,V4 a _⟩,⟨K,g,b.keep (i.2.2.2.2 bp f),c⟩,h.ok,k⟩,i⟩
end
def Ey(s:ByteArray):Ab:=s.data.toList.map fun c=>(c.toNat:Int)
def DG(s:ByteArray):(Ey s).length=s.size:=by
 rw[Ey,Bn,Array.length_toList];rfl
def Mr(s:ByteArray):Fv (Ey s):=CV fun x a=>by
 obtain⟨c,_,rfl⟩:=Ce.1 a;have:=c.toNat_lt;omega
def Xm(s:ByteArray):B7 (Ey s)=s:=by
 obtain⟨⟨l⟩⟩:=s;unfold B7 Ey;congr 2;simp only[List.map_map]
 conv=>rhs;rw[<- List.map_id l]
 apply Cr;intro c _;simp
def Xs(s:ByteArray):Lib.strCells s=(Ey s).map (J .u8):=by
 unfold Lib.strCells Ey;rw[List.map_map];rfl
def UW(s:ByteArray)(k:Nat)(h:k<s.size):(Ey s).getD k 0=((s[k]).toNat:Int):=by
 have a:k<s.data.toList.length:=by rw[Array.length_toList];exact h
 unfold Ey;rw[Az,List.getElem?_map,AX a];rfl
def jI(x:Int):Bool:=!(x==0 || x==47)
def LU(s:ByteArray):Bool:=(Ey s).all jI
def JM(s:ByteArray)(k:Nat):Bool:=((Ey s).take k).all jI
def Vc(s:ByteArray):JM s 0=AQ:=by simp[JM]
def Zn(s:ByteArray):JM s s.size=LU s:=by
 unfold JM LU;rw[<- DG,BZ]
def Wj(s:ByteArray)(k:Nat)(h:k<s.size):JM s (k+1)=(JM s k && jI ((Ey s).getD k 0)):=by
 have a:k<(Ey s).length:=by rw[DG];exact h
 unfold JM;rw[BI a,List.all_append];simp[a]
def cY(s:ByteArray)(k:Nat)(h:k<s.size)(hb:jI ((Ey s).getD k 0)=AN):LU s=AN:=by
 have a:k<(Ey s).length:=by rw[DG];exact h
 unfold LU;rw[List.all_eq_false];refine⟨(Ey s)[k],Br a,?_⟩;rw[Az,AX a] at hb
 simpa using hb
def SU(l:List UInt8)(c:UInt8):decide (Lib.indexByte l c<0)=l.all (fun b=>!(b==c)):=by
 induction l with
 |nil=>rfl
 |cons b l ih=>
  have d:=Lib.indexByte_ge l c;unfold Lib.indexByte;rw[List.all_cons,<- ih];cases a:b==c
  . rw[AJ Ai]
    by_cases e:Lib.indexByte l c= -1
    . rw[e];rfl
    . rw[AJ (by simpa using e),AM Aa,AM Aa];rfl
  . rw[AG rfl];rfl
def dZ(s:ByteArray):LU s=(decide (Lib.indexByte s.data.toList 0<0) && decide (Lib.indexByte s.data.toList 47<0)):=by
 rw[SU,SU];unfold LU Ey;rw[List.all_map];induction s.data.toList with
 |nil=>rfl
 |cons b l ih=>
  rw[List.all_cons,List.all_cons,List.all_cons,ih];have e:(jI ∘ fun c:UInt8=>(c.toNat:Int)) b=(!(b==0) && !(b==47)):=by
   have a:((b.toNat:Int)==0)=(b==0):=by
    rw[Bool.eq_iff_iff,beq_iff_eq,beq_iff_eq];constructor
    . intro h;apply UInt8.toNat_inj.1;have:(0:UInt8).toNat=0:=rfl;omega
    . intro h;rw[h];rfl
   have d:((b.toNat:Int)==47)=(b==47):=by
    rw[Bool.eq_iff_iff,beq_iff_eq,beq_iff_eq];constructor
    . intro h;apply UInt8.toNat_inj.1;have:(47:UInt8).toNat=47:=rfl;omega
    . intro h;rw[h];rfl
   show(!((b.toNat:Int)==0 || (b.toNat:Int)==47))=_
   rw[a,d,Bool.not_or]
  rw[e];cases (!(b==0)) <;> cases (!(b==47)) <;> simp
def dot1:ByteArray:=⟨#[46]⟩
def dot2:ByteArray:=⟨#[46,46]⟩
def Ie(s:ByteArray):Bool:=decide (1<=s.size) && (decide (s.size<=13) && (!(s.toList==dot1.toList) && (!(s.toList==dot2.toList) && LU s)))
def Ff(e:Int × ByteArray):Bool:=decide (1<=e.1) && (decide (e.1<48) && Ie e.2)
def e_{s:ByteArray}(h:Ie s=AQ):1<=s.size/\s.size<=13:=by
 unfold Ie at h;rw[A0,A0,Bh,Bh] at h;exact⟨h.1,h.2.1⟩
def Qk{e:Int × ByteArray}(h:Ff e=AQ):1<=e.1/\e.1<48/\Ie e.2=AQ:=by
 unfold Ff at h;rw[A0,A0,Bh,Bh] at h;exact⟨h.1,h.2.1,h.2.2⟩
def DP{e:Int × ByteArray}(h:Ff e=AQ):1<=e.2.size/\e.2.size<=13:=e_ (Qk h).2.2
def WW(e:Int × ByteArray):Ab:=B8 e.1 2 ++ ((e.2.size:Int) :: Ey e.2)
def Ek(e:Int × ByteArray):Ab:=WW e ++ AI (13-e.2.size) 0
def LS(e:Int × ByteArray):(WW e).length=3+e.2.size:=by
 rw[WW,AO,Bp,BJ,DG];omega
def D5{e:Int × ByteArray}(h:e.2.size<=13):(Ek e).length=16:=by
 rw[Ek,AO,LS,Bg];omega
def oM{e:Int × ByteArray}(h:e.2.size<=13):Fv (WW e):=
 DQ (CV (iY _ _)) (CV fun x a=>by
  rcases Ez.1 a with rfl|a
  . omega
  . exact Da (Mr _) x a)
def Wp{e:Int × ByteArray}(h:e.2.size<=13):Fv (Ek e):=DQ (oM h) (Db _)
def kR(n:Nat)(h:n<=13):B8 (n:Int) 1=[(n:Int)]:=by
 rw[Hl,Hn,List.nil_append,Nat.mul_zero,Int.pow_zero,Int.ediv_one,DV Aa Aa]
def fW(e:Int × ByteArray)(h:e.2.size<=13):WW e=(([] ++ B8 e.1 2) ++ B8 (e.2.size:Int) 1) ++ Ey e.2:=by
 rw[kR _ h,WW,List.nil_append];simp
def mO(c:Ab):Int × ByteArray:=(Cs c 0 2,B7 ((c.drop 3).take (c.getD 2 0).toNat))
def T6(c:Ab):Prop:=1<=c.getD 2 0/\c.getD 2 0<=13
def Wa(e:Int × ByteArray):(Ek e).getD 2 0=e.2.size:=by
 have a:=Bp e.1 2;rw[Ek,WW,Bj,Az,B5 Aa,a];rfl
def TX{e:Int × ByteArray}(h:Ff e=AQ):mO (Ek e)=e:=by
 obtain⟨f,g,_⟩:=Qk h;have i:=Bp e.1 2;have a:Cs (Ek e) 0 2=e.1:=by
  unfold Cs;rw[CX,Ek,WW,Bj,Dr Aa,A2 Aa,Ke _ _ Aa];exact DV Aa Aa
 have b:((Ek e).drop 3).take ((Ek e).getD 2 0).toNat=Ey e.2:=by
  rw[Wa,Cf];have c:Ek e=(B8 e.1 2 ++ [(e.2.size:Int)]) ++ (Ey e.2 ++ AI (13-e.2.size) 0):=by
   rw[Ek,WW];simp
  have d:(B8 e.1 2 ++ [(e.2.size:Int)]).length=3:=by simp[Bp]
  rw[c,List.drop_left' d,DC (DG _)]
 rw[mO,a,b,Xm]
def Mo{e:Int × ByteArray}(h:Ff e=AQ):T6 (Ek e):=by
 have:=DP h;unfold T6;rw[Wa];omega
def JW:¬ T6 (AI 16 0):=by
 intro h;have e:(AI 16 (0:Int)).getD 2 0=0:=rfl;rw[T6,e] at h;omega
def IV{α β:Type}{f:α->List β}{s:Nat}:∀ {L:List α},(∀ x∈L,(f x).length=s)->(L.flatMap f).length=L.length*s
 |[],_=>Ai
 |x :: L,h=>by
  rw[CL,AO,IV (fun z a=>h z (B9 _ a)),h x Ai,BJ,Nat.succ_mul];omega
def Y6{α β:Type}{f:α->List β}{s:Nat}(R:List β):∀ {L:List α},(∀ x∈L,(f x).length=s)->∀ (i:Nat) (hi:i<L.length),(((L.flatMap f) ++ R).drop (i*s)).take s=f L[i]
 |[],_,i,hi=>by simp at hi
 |x :: L,h,0,_=>by
  rw[CL,Nat.zero_mul,CX,Bj,Dr (by rw[h x Ai];exact AE _),<- h x Ai,BZ];rfl
 |x :: L,h,i+1,hi=>by
  have a:=h x Ai;rw[CL,show(i+1)*s=(f x).length+i*s by rw[a,Nat.succ_mul];omega,Bj,List.drop_length_add_append];exact Y6 R (fun z b=>h z (B9 _ b)) i (by simpa using hi)
def Ka(O:List (Int × ByteArray)):Bool:=decide (O.length<=16) && O.all Ff
def Hu{O:List (Int × ByteArray)}(h:Ka O=AQ):O.length<=16/\∀ x∈O,Ff x=AQ:=by
 unfold Ka at h;rw[A0,Bh,Dn] at h;exact h
def Pa{O:List (Int × ByteArray)}(a:O.length<=16)(h:∀ x∈O,Ff x=AQ):Ka O=AQ:=by
 unfold Ka;rw[A0,Bh,Dn];exact⟨a,h⟩
def fZ{O:List (Int × ByteArray)}(a:16<O.length):Ka O=AN:=by
 unfold Ka;rw[AM Aa];rfl
def m8{O:List (Int × ByteArray)}(k:Nat)(a:k<O.length)(h:Ff (O.getD k default)=AN):Ka O=AN:=by
 cases e:Ka O
 . rfl
 . have:=(Hu e).2 O[k] (Br a)
   have b:O.getD k default=O[k]:=(by simp[a]);rw[b,this] at h;cases h
def J3(O:List (Int × ByteArray))(k:Nat):Ab:=(O.take k).flatMap Ek
def JC(O:List (Int × ByteArray)):Ab:=O.flatMap Ek ++ AI (256-16*O.length) 0
def Yk{O:List (Int × ByteArray)}(k:Nat)(h:k<O.length):J3 O (k+1)=J3 O k ++ Ek (O.getD k default):=by
 unfold J3;rw[BI h,DY];simp[h]
def Xq(O:List (Int × ByteArray)):J3 O O.length=O.flatMap Ek:=by unfold J3;rw[BZ]
def L7{O:List (Int × ByteArray)}(k:Nat)(d:k<=O.length)(h:∀ j,j<k->Ff (O.getD j default)=AQ):(J3 O k).length=16*k:=by
 unfold J3;rw[IV (s:=16),AV,FL d,Nat.mul_comm];intro x f;obtain⟨j,c,rfl⟩:=CC f;rw[AV] at c;have a:=h j Aa;rw[Uo];have b:O.getD j default=O[j]:=by simp[show j<O.length from Aa]
 rw[b] at a;exact D5 (DP a).2
def N4{O:List (Int × ByteArray)}(h:Ka O=AQ):(JC O).length=256:=by
 obtain⟨c,a⟩:=Hu h;rw[JC,AO,IV (s:=16) (fun x b=>D5 (DP (a x b)).2),Bg];omega
def c7{O:List (Int × ByteArray)}(k:Nat)(h:∀ j,j<k->Ff (O.getD j default)=AQ):Fv (J3 O k):=CV fun x a=>by
 unfold J3 at a;obtain⟨e,he,a⟩:=List.mem_flatMap.1 a;obtain⟨j,d,rfl⟩:=CC he;rw[AV] at d;have b:=h j Aa;rw[Uo] at a;have c:O.getD j default=O[j]:=by simp[show j<O.length from Aa]
 rw[c] at b;exact Da (Wp (DP b).2) x a
def Ev(b:Ab)(k:Nat):Ab:=(b.drop (k*16)).take 16
def LW{O:List (Int × ByteArray)}(h:Ka O=AQ)(i:Nat)(hi:i<O.length):Ev (JC O) i=Ek O[i]:=
 Y6 _ (fun x a=>D5 (DP ((Hu h).2 x a)).2) i hi
def Qj{O:List (Int × ByteArray)}(h:Ka O=AQ)(d:O.length<16):Ev (JC O) O.length=AI 16 0:=by
 obtain⟨g,a⟩:=Hu h;have b:=IV (f:=Ek) (s:=16) (fun x c=>D5 (DP (a x c)).2);unfold Ev JC;rw[<- b,List.drop_left,List.take_replicate];congr 1;omega
def MH(O:List (Int × ByteArray))(b:Ab):Prop:=Ka O=AQ/\JC O=b
def Ge(b:Ab)(k:Nat):List (Int × ByteArray):=(BE k).map fun i=>mO (Ev b i)
def ML(b:Ab)(k:Nat):(Ge b k).length=k:=by simp[Ge]
def Xt(b:Ab)(k:Nat):Ge b (k+1)=Ge b k ++ [mO (Ev b k)]:=by
 unfold Ge;rw[GW,Cw];rfl
def Ky(P:Ab->Prop)(n:∀ e,Ff e=AQ->P (Ek e))(g:¬ P (AI 16 0)){b:Ab}{k:Nat}(p:k<=16)(j:∀ i,i<k->P (Ev b i))(l:k<16->¬ P (Ev b k)){O:List (Int × ByteArray)}(m:MH O b):Ge b k=O:=by
 obtain⟨a,rfl⟩:=m;obtain⟨q,f⟩:=Hu a;have c:k=O.length:=by
  rcases Nat.lt_trichotomy k O.length with h|h|h
  . refine absurd ?_ (l Aa)
    rw[LW a k h];exact n _ (f _ (Br h))
  . exact h
  . refine absurd (j O.length h) ?_
    rw[Qj a Aa];exact g
 subst c;apply Bt (ML _ _);intro i o d;have e:(Ge (JC O) O.length)[i]=mO (Ev (JC O) i):=by simp[Ge]
 rw[e,LW a i d,TX (f _ (Br d))]
def fH{O c:List (Int × ByteArray)}{b:Ab}(h:MH O b)(n:MH c b):O=c:=by
 have j:=h.2;have g:=h.1;obtain⟨l,o⟩:=Hu h.1;have d:∀ i,i<O.length->T6 (Ev b i):=fun i k=>by
  rw[<- j,LW g i k];exact Mo (o _ (Br k))
 have f:O.length<16->¬ T6 (Ev b O.length):=fun m=>by
  rw[<- j,Qj g m];exact JW
 have a:=Ky T6 (fun e=>Mo) JW l d f h;have b:=Ky T6 (fun e=>Mo) JW l d f n;rw[<- a,b]
def ESl(w:U)(v:I)(O:List (Int × ByteArray)):Prop:=
 (v=F H 0 0/\O=[])\/∃ a b,v=F (G a) O.length b/\∀ j,j<O.length->a.block<w.heap.size/\a.spot=H/\
   w.cell? ⟨a.block,a.off+j*2,H⟩=G (J Z (O.getD j default).1)/\w.cell? ⟨a.block,a.off+j*2+1,H⟩=G (.string (O.getD j default).2)
def ESl.below{w w':U}{v:I}{O:List (Int × ByteArray)}(h:ESl w v O)(hb:AB w.heap.size w w'):ESl w' v O:=by
 rcases h with h| ⟨a,b,l,i⟩
 . exact A4 h
 . refine A8 ⟨a,b,l,fun j k=>?_⟩
   obtain⟨c,d,f,g⟩:=i j k;exact⟨AL c hb.size,d,by rw[hb.cell (p:=⟨a.block,a.off+j*2,H⟩) c,f],by rw[hb.cell (p:=⟨a.block,a.off+j*2+1,H⟩) c,g]⟩
def ESl.open'{w:U}{v:I}{O:List (Int × ByteArray)}(h:ESl w v O):∃ d cap,v=F d O.length cap/\(0<O.length->∃ b off,d=G ⟨b,off,H⟩/\b<w.heap.size/\
 ∀ j,j<O.length->w.cell? ⟨b,off+j*2,H⟩=G (J Z (O.getD j default).1)/\w.cell? ⟨b,off+j*2+1,H⟩=G (.string (O.getD j default).2)):=by
 rcases h with⟨c,g⟩| ⟨⟨b,off,a⟩,cap,c,f⟩
 . exact⟨H,0,by rw[c,g];rfl,fun h=>by rw[g] at h;simp at h⟩
 . refine⟨_,cap,c,fun i=>?_⟩
   obtain⟨k,l,_⟩:=f 0 i;obtain rfl:a=H:=l;exact⟨b,off,rfl,k,fun j m=>(f j m).2.2⟩
def ESl.shape{w:U}{v:I}{O:List (Int × ByteArray)}(h:ESl w v O):∃ a cap,v=F a O.length cap:=by
 obtain⟨a,cap,b,_⟩:=h.open';exact⟨a,cap,b⟩
def cE(x:Int × ByteArray):List I:=[J Z x.1,.string x.2]
def JB(O:List (Int × ByteArray)):List I:=O.flatMap cE
def iN:∀ x:Int × ByteArray,(cE x).length=2:=fun _=>rfl
def Fb(O:List (Int × ByteArray)):(JB O).length=O.length*2:=CR fun x _=>iN x
def Il(O P:List (Int × ByteArray)):JB (O ++ P)=JB O ++ JB P:=DY
def JS(O:List (Int × ByteArray))(j:Nat)(h:j<O.length):(JB O)[j*2]? =G (J Z (O.getD j default).1)/\(JB O)[j*2+1]? =G (.string (O.getD j default).2):=by
 have c:=Gi (f:=cE) (s:=2) (L:=O) (fun x _=>iN x) j h;have e:O.getD j default=O[j]:=by simp[h]
 rw[e];have a:=BF (fun z=>z[0]?) c;have b:=BF (fun z=>z[1]?) c;simp only[Bb,Bv,Nat.add_zero] at a b;rw[AG Aa] at a b;exact⟨a,b⟩
def ER(w:U)(B:Nat)(T:Cn)(v:I)(O:List (Int × ByteArray)):Prop:=w.ownsRow B T 2 v O.length (JB O)
def Zh(w:U)(B:Nat)(T:Cn):ER w B T (F H 0 0) []:=Dt w B _ _
def ER.sl{w:U}{B:Nat}{T:Cn}{v:I}{O:List (Int × ByteArray)}(h:ER w B T v O):ESl w v O:=by
 rcases h.2 with⟨f,l⟩| ⟨g,a,i,f,q,d,n,o,p,m⟩
 . exact A4 ⟨f,A3 l⟩
 . refine A8 ⟨_,a,f,fun j k=>⟨(Au.1 d).1,rfl,?_⟩⟩
   obtain⟨b,c⟩:=JS O j k;rw[<- m,Bb] at b c;rw[AG Aa] at b c;rw[BC,AD _ _ _ _ _ _ d,AD _ _ _ _ _ _ d];exact⟨by simpa using b,by simpa using c⟩
def ER.below{w w':U}{B:Nat}{T:Cn}{v:I}{O:List (Int × ByteArray)}(h:ER w B T v O)(hb:AB w.heap.size w w'):ER w' B T v O:=by
 refine⟨h.1,?_⟩;rcases h.2 with h| ⟨g,a,b,f,d,c,r⟩
 . exact A4 h
 . exact A8 ⟨g,a,b,f,d,by rw[hb.block g (Au.1 c).1];exact c,r⟩
def pV:(X.info? 75).map (fun i=>(i.zero,i.size,i.bytes))=G (G (BS #[J Z 0,.string ByteArray.empty]),2,24):=Ac
def XL:(X.info? 86).map (fun i=>(i.zero,i.size,i.bytes))=G (G (BS #[J Z 0,.string ByteArray.empty]),2,24):=Ac
def Mg(w1:U)(i:Int)(n:ByteArray){d:Array BK}{rest:List BK}{o:BK}{a:Act}{Q:Exit->Act->U->Prop}(j:o.guard=H)(S T:Cn)(s y:Operand)
 (E:o.op=.call { callee:=.builtin .append,args:=#[s,y],argTypes:=#[S,S] })
 (hu:X.underlying S=G (.slice T)) (hi:(X.info? T).map (fun i=>(i.zero,i.size,i.bytes))=G (G (BS #[J Z 0,.string ByteArray.empty]),2,24))
 (B:Nat) (v:I) (O:List (Int × ByteArray)) (K:a.eval s=v) (c:ER w1 B T v O) (M:O.length<=1000000) (L:a.eval y=F (G ⟨w1.heap.size,0,H⟩) 1 1) (A:B<=w1.heap.size)
 (h:∀ v' w',ER w' B T v' (O ++ [(i,n)])->AB B w1 w'->Cj X d Q rest (a.put o.dst v') w'):Cj X d Q (o :: rest) a (w1.alloc (Ay #[J Z i,.string n] T)):=by
 obtain⟨t,p,q,r,w⟩:=Bs hi;have b:AB w1.heap.size w1 (w1.alloc (Ay #[J Z i,.string n] T)):=AF _ _;have l:(w1.alloc (Ay #[J Z i,.string n] T)).heap[w1.heap.size]? =G (Ay #[J Z i,.string n] T (0,0)):=AC w1 _;have f:=c.below b;refine FU _ j s y S E B T t _ 2 24 hu p q r w rfl Af v O.length _ K f ⟨w1.heap.size,0,H⟩ 1 1 [J Z i,.string n] L rfl ?_ ?_ (by simp only[maxLen];omega) Aa Ak fun v' w' x z _=>?_
 . intro m u g
   have D:m<2:=by simpa using (Bo.1 g).1
   rw[Cd,BC,AD _ _ _ _ _ _ l,<- g];have:m=0\/m=1:=Aa;rcases this with rfl|rfl <;> rfl
 . intro u hu
   simp at hu;rcases hu with rfl|rfl <;> rfl
 . refine h v' w' ?_ ((b.mono A).trans ((AP _ _).grown z Ak fun k C=>(BY f k C).1))
   show w'.ownsRow B T 2 v' (O ++ [(i,n)]).length (JB (O ++ [(i,n)]))
   rw[AO,Il];exact x
def Iv(w:U){c:Array BK}{rest:List BK}{o:BK}{a:Act}{Q:Exit->Act->U->Prop}(g:o.guard=H)(s x:Operand)
 (y:o.op=.call { callee:=.builtin .append,args:=#[s,x],argTypes:=#[77,9] })
 (B:Nat) (v:I) (l:Ab) (z:a.eval s=v) (b:OB w B v l) (n:ByteArray) (A:a.eval x=.string n) (f:l.length+n.size<=1000000) (d:B<=w.heap.size)
 (h:∀ v' w',OB w' B v' (l ++ Ey n)->AB B w w'->Cj X c Q rest (a.put o.dst v') w'):Cj X c Q (o :: rest) a w:=by
 obtain⟨i,j,m,p,q⟩:=Bs IA;refine Lib.wpList_append_own_string w g s x 77 9 y B 5 i underlying77 underlying9 j m p q v l.length _ z b.2 n A (by simp only[maxLen];omega) Aa d fun v' w' r t _=>?_
 refine h v' w' ⟨DQ b.1 (Mr n),?_⟩ ((AP _ _).grown t d fun k u=>(b.2.lt k u).1);rw[AO,Cw,DG,<- Xs];exact r
end
section
open Go.RowKit BM
def M7(a b:Ab):B7 a ++ B7 b=B7 (a ++ b):=by
 apply ByteArray.ext;rw[ByteArray.data_append];apply Array.ext';rw[Array.toList_append,strOfNums_data,strOfNums_data,strOfNums_data,Cw]
def Hf(l:Ab)(i j:Nat):(B7 l).extract i j=B7 ((l.drop i).take (j-i)):=by
 apply ByteArray.ext;apply Array.ext';rw[Lib.extract_data,strOfNums_data,strOfNums_data,List.map_take,List.map_drop]
def dq(n:Nat):Fv (AI n 0):=Db n
def eY(w:U)(n:Nat)(b:n<=100000):BSl (w.alloc (Ay (AW n (J .u8 0)) 5)) (F (G ⟨w.heap.size,0,H⟩) n n) (AI n 0):=by
 have h:(w.alloc (Ay (AW n (J .u8 0)) 5)).heap[w.heap.size]? =G (Ay (((AI n (0:Int)).map (J .u8)) ++ []).toArray 5 (0,0)):=by
  rw[AC,Cc,List.map_replicate];simp
 have:=OB.of_heap (B:=w.heap.size) (cap:=n) (dq n) (AE _) h Ai (by simp only[maxLen];omega);have a:=OB.bsl this;rw[Bg] at a;exact a
def Xn(w:U)(n:Nat)(c:n<=100000):AH X 102 #[J Z n] w fun e w'=>e=Av (.string (B7 (AI n 0)))/\AB w.heap.size w w':=by
 have b:=Hw (eY w n c);have a:=AF w (Ay (AW n (J .u8 0)) 5);generalize B7 (AI n 0)=d at b |-
 go_enter func102,ntmps102;go_wp2_with (refine CT w rfl _ _ Aj (n:Int) n Aj Aj rfl Aa ?_)
 go_ret;exact⟨rfl,a⟩
section
variable {kl:I × I × (I->Prop)}{w:U}{bn bp sz:Nat}{M:Nat->Option Ab}
def N6(h:NodeB kl w bn bp sz M){i:Nat}(hi:i<138):AH X 55 #[Ax (G ⟨bn,0,H⟩),J Z i] w fun e w'=>e=Av (.string (B7 (Fz M i)))/\AB w.heap.size w w':=by
 have j:=h.c3;have g:=h.look hi;have d:=wN (Xn w 256 Af);obtain⟨S,b⟩:=nm (B7 (Fz M i));rw[<- b];cases a:M i
 . have f:Hid (AH X 102 #[J Z 256] w fun e w'=>e=Av (.string S)/\AB w.heap.size w w'):=wN (by
    rw[b];unfold Fz;rw[a];exact d.out)
   rw[a] at g;clear d b a h;go_enter func55,ntmps55
   go_wp2_with (
    go_at_call 102;(with_reducible refine Ad f.out ?_);rintro k c)
   go_ret;exact⟨rfl,c⟩
 . next l=>
   have e:B7 ((G l).getD [])=S:=(by rw[b];unfold Fz;rw[a];rfl);rw[a,e] at g;clear d b a h e;go_enter func55,ntmps55;go_wp2;go_ret;exact⟨rfl,AP _ _⟩
end
def below_alB{w V:U}(hb:AB w.heap.size w V)(o:Obj):AB w.heap.size w (V.alloc o):=hb.trans ((AF V o).mono hb.size)
def NP(bn bp:Nat):Nat->Prop:=fun j=>j=bn\/j=bp
def al(sz a j:Nat):Nat:=if j=0 then sz else max sz (a+j)
def lj(sz a j:Nat):al sz a (j+1)=max (al sz a j) (a+j+1):=by
 unfold al;rw[AJ Aa];split <;> omega
def j_{M:Nat->Option Ab}{a:Nat}{l:Ab}{j:Nat}(h:j<l.length):wrL M a (l.take (j+1))=wr1 (wrL M a (l.take j)) (a+j) (l.getD j 0):=by
 rw[BI h,Jh,AV,FL Aa,Az,AX h];rfl
def og{B:Ab}(a:B.length=256){k:Nat}(b:k<256)(x:Int):((B7 B).extract 0 k ++ B7 [x]) ++ (B7 B).extract (k+1) (B7 B).size=B7 (B.set k x):=by
 rw[Hf,Hf,M7,M7,strOfNums_size];congr 1;rw[CX,Nat.sub_zero,List.set_eq_take_append_cons_drop,AG Aa,Bj,A2 (l:=B.drop (k+1)) Ai];rfl
def f9{w:U}{v:I}{l:Ab}(hv:BSl w v l){j:Nat}(h:j<l.length):∃ u,(∀ W,(Instr.slice 77 v (G (J Z (j:Int))) (G (J Z ((j+1:Nat):Int))) H).run X W=.ok u W)/\∀ W,BSl W v l->(convert 77 9 u).run X W=.ok (.string (B7 [l.getD j 0])) W:=by
 obtain⟨b,d,a,rfl,s,_⟩:=hv.open' Aa;refine⟨F (G ⟨b,d+j,H⟩) 1 (a-j),fun W=>?_,fun W o=>?_⟩
 . obtain⟨i,m,q,n,r⟩:=Bs IA
   have f:X.elem 77=5:=Ac;have p:(sizeOf 5).run X W=.ok 1 W:=(by simp[sizeOf,typeInfo,m,n]);rw[run_slice_lh W 77 _ l.length a (by rw[f];exact underlying77) Z Z (j:Int) ((j+1:Nat):Int) Aa Aa Aa,f,p];have c:a≠j:=Aa;have k:((j:Int)+1).toNat-j=1:=Aa;simp[sliced,c,Cd]
 . have g:=o.mid j 1 Aa
   have e:(l.drop j).take 1=[l.getD j 0]:=by
    rw[Az,AX h,IJ h];rfl
   rw[e] at g;exact Hw g
section
variable {kl:I × I × (I->Prop)}{w:U}{bn bp sz:Nat}{M:Nat->Option Ab}
def NodeB.chg_put{w w':U}(a:w.grownBy w' (G bp)):Chg (NP bn bp) (NP bn bp) w w':=
 ⟨a.os,a.tape,a.output,a.size,fun k c b=>⟨a.block k c (fun e=>b (A8 (Bc e))),b⟩⟩
end
def BSl.cut{w:U}{f:Option Addr}{cap C:Nat}{l:Ab}(hv:BSl w (F f l.length cap) l)(o:C<=l.length):BSl w (F f C cap) (l.take C):=by
 have h:(l.take C).length=C:=by rw[AV];omega
 rcases hv.2 with⟨e,n⟩| ⟨a,c,e,p,d⟩
 . have b:=Be e
   refine⟨En hv.1 C,A4 ⟨?_,?_⟩⟩
   . rw[b.1,b.2.2,show C=0 from Aa]
   . rw[show C=0 from Aa];rfl
 . have b:=Be e
   refine⟨En hv.1 C,A8 ⟨a,c,by rw[b.1,b.2.2,h],Aa,fun j g=>?_⟩⟩;rw[h] at g;obtain⟨i,k,m⟩:=d j Aa;refine⟨i,k,?_⟩;rw[m];simp[g]
def Apt.cut{P:Nat->Prop}{a:Option Addr}{n cap C:Nat}(h:Apt P (F a n cap))(f:C<=n):Apt P (F a C cap):=fun b m c e g=>by
 have d:=Be e;exact h b n cap (by rw[d.1]) Aa
section
variable {kl:I × I × (I->Prop)}{w:U}{bn bp sz:Nat}{M:Nat->Option Ab}
def VA(h:NodeB kl w bn bp sz M){v:I}{l:Ab}(hv:BSl w v l)(a0:Apt (NP bn bp) v){a C:Nat}(hC:C=min l.length 1024)(hl:(l.length:Int)<=9223372036854775807)(hx:a+C<=35328):
 AH X 28 #[Ax (G ⟨bn,0,H⟩),J Z a,v] w fun e w'=>e=Av (AT #[J Z C,J Z 0])/\NodeB kl w' bn bp (al sz a C) (wrL M a (l.take C))/\Chg (NP bn bp) (NP bn bp) w w':=by
 obtain⟨ao,d,rfl,CD⟩:=hv.shape;have O:=hv.cut (C:=C) Aa;have vF:=a0.cut (C:=C) Aa;have a7:(l.take C).length=C:=by rw[AV];omega
 generalize l.take C=L at*
 have KB:=wN (fun(V:U) (s:Nat) (M:Nat->Option Ab) (hV:NodeB kl V bn bp s M) i (hi:i<138)=>N6 hV hi);have KP:Hid (∀ j,j<C->∃ u,(∀ W,(Instr.slice 77 (F ao C d) (G (J Z (j:Int))) (G (J Z ((j+1:Nat):Int))) H).run X W=.ok u W)/\∀ W,BSl W (F ao C d) L->(convert 77 9 u).run X W=.ok (.string (B7 [L.getD j 0])) W):=wN (fun(j:Nat) (hj:j<C)=>f9 O (j:=j) Aa);have E:(C:Int)<=(d:Int):=Aa;have vG:C<=d:=Aa;have r:∀ (W:U) ts tt,(Builtin.min_ ts tt #[J Z (l.length:Int),J Z 1024]).run X W=.ok (J Z (C:Int)) W:=fun W ts tt=>by
  rw[run_min_int2];congr 2;rw[hC];split <;> omega
 have g0:¬ (a:Int)<0:=Aa;obtain⟨D,hD⟩:=nm (35328-C);have g1:Z.wrap (35328-(C:Int))=(D:Int):=by rw[Bz _ Aa];omega
 have g2:¬ (D:Int)<(a:Int):=Aa;have HB:Hid (a+C<=35328/\C<=1024):=wN Aa;have HN:=wN h;have c6:=wN h.sb;have HV:=wN O;have b1:=wN vF;have S:=wN a7;obtain⟨n0,K⟩:=nm l.length;rw[<- K] at r;rw[<- K];clear h hv a0 hC hl hx O a7 vF K CD hD;go_enter func28,ntmps28;go_wp2;clear r g0 g1 g2;go_loopw [27] (fun i wr=>∃ j:Nat,j<=C/\i=J Z j/\NodeB kl wr bn bp (al sz a j) (wrL M a (L.take j))/\Chg (NP bn bp) (NP bn bp) w wr) (fun i _=>C-(intOf i).toNat)
 case atStart=>exact⟨0,A7 _,rfl,HN.out,Chg.refl _ _⟩
 case round=>
  obtain⟨j,hj,rfl,o,hc⟩:=hrel;have hB:=HB.out;have hv:=(HV.out.chg b1.out hc).1;by_cases a8:j<C
  . obtain⟨s,hs⟩:=nm (a+j)
    obtain⟨q,hq⟩:=nm (s / 256);obtain⟨f,hf⟩:=nm (s%256);have e1:(j:Int)<(C:Int):=Aa;have q0:Z.wrap ((a:Int)+(j:Int))=(s:Int):=(by rw[Bz _ Aa];omega);have q1:((s:Int)).tdiv 256=q:=(by rw[Int.tdiv_eq_ediv_of_nonneg Aa,hq];omega);have q2:((s:Int)).tmod 256=f:=(by rw[DW Aa,hf];omega);have q3:Z.wrap ((j:Int)+1)=((j+1:Nat):Int):=(by rw[Bz _ Aa];omega);have q4:Z.wrap ((f:Int)+1)=((f+1:Nat):Int):=(by rw[Bz _ Aa];omega);have c4:Hid (Z.wrap (q:Int)=(q:Int)):=wN (by rw[Bz _ Aa]);have c1:Hid (wrap64 (q:Int)=(q:Int)):=wN (by unfold wrap64;omega);have qD:q<138:=Aa;have c8:=wN (KB.out wr _ _ o q qD);have a5:f<256:=Aa;have b0:=o.ok;have b:=b0.blk q;have t:=wN (fun(W:U) (hW:NodeB kl W bn bp (al sz a j) (wrL M a (L.take j)))=>hW.put qD (l:=(Fz (wrL M a (L.take j)) q).set f (L.getD j 0)) (by rw[AR];exact b.1) (Z4 b.2 _ (HV.out.1 j)));have A:Hid (EQ (wrL M a (L.take j)) q ((Fz (wrL M a (L.take j)) q).set f (L.getD j 0))=wrL M a (L.take (j+1))):=wN (by rw[j_ (by have:=S.out;omega),<- hs,hq,hf];rfl);have x:Hid (∃ Y P S3 SF,(B7 (Fz (wrL M a (L.take j)) q)).extract 0 f=Y/\Y ++ B7 [L.getD j 0]=P/\(B7 (Fz (wrL M a (L.take j)) q)).extract (f+1) (B7 (Fz (wrL M a (L.take j)) q)).size=S3/\P ++ S3=SF/\SF=B7 ((Fz (wrL M a (L.take j)) q).set f (L.getD j 0))/\(Y.size:Int)<=256/\(P.size:Int)<=256/\(S3.size:Int)<=256/\(f:Int)<=((B7 (Fz (wrL M a (L.take j)) q)).size:Int)/\((f+1:Nat):Int)<=((B7 (Fz (wrL M a (L.take j)) q)).size:Int)):=wN (by
     refine⟨_,_,_,_,rfl,rfl,rfl,rfl,og b.1 a5 _,?_,?_,?_,?_,?_⟩
     . rw[Hf,strOfNums_size,AV,By];omega
     . rw[Hf,M7,strOfNums_size,AO,AV,By,List.length_singleton];omega
     . rw[Hf,strOfNums_size,AV,By];omega
     . rw[strOfNums_size];omega
     . rw[strOfNums_size];omega)
    obtain⟨g,hg⟩:=nm (f+1);obtain⟨j1,n⟩:=nm (j+1);rw[<- n] at q3;have y:=wN n;have T:=wN (KP.out j a8);rw[<- n] at T;rw[<- hg] at x q4;obtain⟨s1,IK⟩:=nm (s+1);have b9:Hid (Z.wrap ((s:Int)+1)=(s1:Int)):=wN (by rw[Bz _ Aa];omega);have c0:Hid (∀ (W:U) ts tt,(Builtin.max_ ts tt #[J Z (al sz a j:Nat),J Z (s1:Int)]).run X W=.ok (J Z (al sz a (j+1):Nat)) W):=wN fun W ts tt=>by
     rw[run_max_int2,lj,IK,hs];congr 2;generalize al sz a j=z;split <;> omega
    have Q:=b.1;generalize Fz (wrL M a (L.take j)) q=B at*
    have HF:Hid (f<256):=wN a5;have HJ:Hid (j<C):=wN a8;have R:=wN E;have b7:=wN q3;have b8:=wN q4;clear IK b b0 Q hf hq hs hB hg n KP E vG q3 q4;have q8:=c1.out
    go_upto_region 11 with(
     (go_at_call 55;(with_reducible refine Ad c8.out ?_)
      rintro w3 m;have N:=o.low m;have Um:=hv.below m))
    obtain⟨u,pb,sI⟩:=T.out;have WQ:=sI w3.drew Um;clear sI;have c3:w3.drew.cell? ⟨bn,3,H⟩=G (.map (G bp)):=N.c3;have q9:Z.wrap (q:Int)=(q:Int):=c4.out;have q3:=b7.out;have q4:=b8.out;have b2:Hid (Chg (NP bn bp) (NP bn bp) w w3.drew):=wN (hc.trans (Chg.of_below (Bd m 1)));have a9:NodeB kl w3.drew bn bp (al sz a j) (wrL M a (L.take j)):=N.keep rfl rfl;obtain⟨w4,p,c,a6,d2⟩:=t.out _ a9;have c5:=wN p;have b3:=wN (b2.out.trans (NodeB.chg_put (bn:=bn) a6));rw[A.out] at c;have b5:=wN c;have c2:=c.c2;have Up:=c.fr 2;clear a9 c a6 d2 p t N Um;clear hv o m hc;obtain⟨Y,P,S3,SF,d0,pp,d1,a3,a4,SC,d3,I8,M6,ZI⟩:=x.out;have b4:=wN a4;have d4:((B7 [L.getD j 0]).size:Int)<=256:=(by rw[strOfNums_size];simp);generalize B7 [L.getD j 0]=c9 at*
    generalize B7 B=SB at*
    have a1:∀ W,(Op.stringOp .add Y c9).run X W=.ok (.string P) W:=fun W=>by rw[run_string_add W _ _ Aa Aa,pp]
    have a2:∀ W,(Op.stringOp .add P S3).run X W=.ok (.string SF) W:=fun W=>by rw[run_string_add W _ _ Aa Aa,a3]
    clear a4 SC d3 I8 d4;go_still_tail 23,Ac
    change Cj _ _ _ _ _ w3.drew;have p:=c5.out;rw[<- b4.out] at p;clear c3 d0 pp d1 a3 M6 ZI a1 a2 pb WQ q4 q9;have q5:=b9.out;have q6:=c0.out;go_wp2;go_roundw
    case rel=>
     obtain⟨h5,h6⟩:=b5.out.size (s:=al sz a (j+1)) (by have:=HB.out;have:=HJ.out;unfold al;have:=c6.out;clear q3 q5 q6;split <;> omega);refine⟨j1,by have:=HJ.out;have:=y.out;omega,rfl,?_,?_⟩
     . rw[y.out];exact h5
     . exact b3.out.trans ⟨h6.1,h6.2.1,h6.2.2.1,Nat.le_of_eq h6.2.2.2.1.symm,fun k hk o=>⟨h6.2.2.2.2 k (fun e=>o (A4 e)),o⟩⟩
    case measure=>clear q3 q5 q6;have:=HJ.out;have:=y.out;simp[intOf];omega
  . obtain rfl:j=C:=by omega
    have e1:¬ (j:Int)<(j:Int):=Aa;have b6:=wN o;have R:=wN hc;have c7:Hid (L.take j=L):=wN (A2 (by have:=S.out;omega));clear o hc hv hB KB KP E vG;go_wp2;go_ret2;exact⟨rfl,by have:=b6.out;rw[c7.out] at this;exact this,R.out⟩
end
end
section
open Go.RowKit
def TSl(w:U)(v:I)(O:List ByteArray):Prop:=
 ∃ d a,v=F d O.length a/\O.length<=a/\(0<O.length->∃ b c,d=G ⟨b,c,H⟩/\b<w.heap.size/\∀ j,j<O.length->w.cell? ⟨b,c+j,H⟩=G (.string (O.getD j ⟨#[]⟩)))
def TSl.below{w w':U}{v:I}{O:List ByteArray}(h:TSl w v O)(hb:AB w.heap.size w w'):TSl w' v O:=by
 obtain⟨f,d,m,l,i⟩:=h;refine⟨f,d,m,l,fun g=>?_⟩;obtain⟨b,c,e,a,k⟩:=i g;exact⟨b,c,e,AL a hb.size,fun j h=>(hb.cell (p:=⟨b,c+j,H⟩) a).trans (k j h)⟩
def oT(w:U):TSl w (F H 0 0) []:=⟨H,0,rfl,AE _,fun h=>absurd h Af⟩
def TSl.tail{w:U}{b off cap n:Nat}{O:List ByteArray}(h:TSl w (F (G ⟨b,off,H⟩) n cap) O)(f:0<O.length):TSl w (.slice (if cap=1 then G ⟨b,off,H⟩ else G ⟨b,off+1,H⟩) (n-1) (cap-1)) (O.drop 1):=by
 obtain⟨m,c,l,p,i⟩:=h;cases l
 obtain⟨o,d,e,a,k⟩:=i f;cases e
 refine⟨_,_,by rw[By],by rw[By];omega,fun g=>?_⟩;rw[By] at g;rw[AJ Aa];refine⟨b,off+1,rfl,a,fun j h=>?_⟩;rw[By] at h;have:=k (j+1) Aa;rw[Az,Bv,Nat.add_comm 1 j,<- Az,<- this,Dw,Nat.add_comm 1 j]
def TR(w:U)(B:Nat)(v:I)(O:List ByteArray):Prop:=w.ownsRow B 9 1 v O.length (O.map I.string)
def XH(w:U)(B:Nat):TR w B (F H 0 0) []:=Dt w B _ _
def TR.below{w w':U}{B:Nat}{v:I}{O:List ByteArray}(h:TR w B v O)(hb:AB w.heap.size w w'):TR w' B v O:=by
 refine⟨h.1,?_⟩;rcases h.2 with h| ⟨g,a,b,f,d,c,r⟩
 . exact A4 h
 . exact A8 ⟨g,a,b,f,d,by rw[hb.block g (Au.1 c).1];exact c,r⟩
def TR.sl{w:U}{B:Nat}{v:I}{O:List ByteArray}(h:TR w B v O):TSl w v O:=by
 rcases h.2 with⟨c,l⟩| ⟨g,a,i,c,q,d,f,n,o,m⟩
 . have:=A3 l
   subst this c;exact oT w
 . refine⟨_,a,c,f,fun p=>⟨g,0,rfl,(Au.1 d).1,fun j k=>?_⟩⟩
   have b:(O.map I.string)[j]? =G (.string (O.getD j ⟨#[]⟩)):=by
    rw[List.getElem?_map,Az,AX k];rfl
   rw[<- m,Bb] at b;rw[AG Aa] at b;rw[BC,AD _ _ _ _ _ _ d]
   simpa using b
def Im:(X.info? 9).map (fun i=>(i.zero,i.size,i.bytes))=G (G (.string ByteArray.empty),1,16):=Ac
def Nh(w:U){f:Array BK}{rest:List BK}{o:BK}{a:Act}{Q:Exit->Act->U->Prop}(n:o.guard=H)(s y:Operand)
 (K:o.op=.call { callee:=.builtin .append,args:=#[s,y],argTypes:=#[23,23] })
 (B:Nat) (v u:I) (O R:List ByteArray) (L:a.eval s=v) (c:TR w B v O) (S:O.length+R.length<=1000000) (D:0<R.length) (N:a.eval y=u) (hu:TSl w u R) (j:B<=w.heap.size)
 (h:∀ v' w',TR w' B v' (O ++ R)->AB B w w'->Cj X f Q rest (a.put o.dst v') w'):Cj X f Q (o :: rest) a w:=by
 obtain⟨t,p,q,r,z⟩:=Bs Im;obtain⟨P,g,rfl,_,E⟩:=hu;obtain⟨b,i,rfl,J,F⟩:=E D;refine FU _ n s y 23 K B 9 t _ 1 16 underlying23 p q r z rfl Af v O.length _ L c ⟨b,i,H⟩ R.length g (R.map .string) N (by rw[Bn,Nat.mul_one]) ?_ ?_ (by simp only[maxLen];omega) Aa j fun v' w' A C _=>?_
 . intro m x l
   have d:m<R.length:=by simpa using (Bo.1 l).1
   rw[Cd,F m d,<- l,List.getElem?_map,Az,AX d];rfl
 . intro x M
   obtain⟨y,_,rfl⟩:=Ce.1 M;rfl
 . refine h v' w' ?_ ((AP _ _).grown C j fun k G=>(BY c k G).1)
   show w'.ownsRow B 9 1 v' (O ++ R).length ((O ++ R).map .string)
   rw[AO,Cw];exact A
def Q6(W:U)(g a:Option Addr)(n c cap:Nat)(i:Cn)(h:n<=c):(Builtin.append_ #[23,23] i #[F g n c,F a 0 cap]).run X W=.ok (F g n c) W:=by
 obtain⟨t,b,d,j,f⟩:=Bs Im;cases a <;> cases g <;> simp[Builtin.lenOf,Builtin.firstCells,storeCells,loadCells,loadCellsFrom,Builtin.append_,Ck underlying23,sizeOf,typeInfo,zeroValue,b,d,f,h]
def C9(w:U){d:Array BK}{rest:List BK}{o:BK}{a:Act}{Q:Exit->Act->U->Prop}(k:o.guard=H)(s y:Operand)
 (l:o.op=.call { callee:=.builtin .append,args:=#[s,y],argTypes:=#[23,23] })
 (B:Nat) (v u:I) (O R:List ByteArray) (m:a.eval s=v) (b:TR w B v O) (z:O.length+R.length<=1000000) (j:a.eval y=u) (hu:TSl w u R) (t:B<=w.heap.size)
 (h:∀ v' w',TR w' B v' (O ++ R)->AB B w w'->Cj X d Q rest (a.put o.dst v') w'):Cj X d Q (o :: rest) a w:=by
 by_cases r:0<R.length
 . exact Nh w k s y l B v u O R m b z r j hu t h
 . obtain rfl:R=[]:=A3 Aa
   rw[Cc] at h;obtain⟨p,f,rfl,_⟩:=hu;rw[List.length_nil] at j;have C:∃ g n c,v=F g n c/\n<=c:=by
    rcases b.2 with⟨e,_⟩| ⟨g,c,q,e,_,_,i,_⟩
    . exact⟨H,0,0,e,AE _⟩
    . exact⟨_,_,c,e,i⟩
   obtain⟨g,n,c,rfl,i⟩:=C;have A:=Q6 w g p n c f o.type i;refine CH k fun _ x=>?_
   unfold BK.wp execOp;simp only[l,resolve,invoke,builtin,Dm,Sem.run_pure,Result.andThen_ok,Fe,DT,II,m,j,A];exact x _ _ (h _ w b (AP _ _))
def Un:List UInt8->List UInt8->List (List UInt8)
 |[],c=>if c=[] then [] else [c]
 |b :: r,c=>if b=47 then (if c=[] then Un r [] else c :: Un r []) else Un r (c ++ [b])
def b_(l:List UInt8):ByteArray:=⟨l.toArray⟩
def QT(p:ByteArray):b_ p.data.toList=p:=by unfold b_;rw[Array.toArray_toList]
def BX(s:ByteArray):List ByteArray:=(Un s.data.toList []).map b_
structure OkP (s:ByteArray):Prop where
 sz:s.size<=200
 nz:∀ b∈s.data.toList,b≠0
 ln:∀ p∈BX s,p.size<=13
 ct:(BX s).length<=20
section
variable {s p:ByteArray}{k:Nat}{O:List ByteArray}
def GH(s:ByteArray):s.data.toList.length=s.size:=Array.length_toList
def Pr(a:k<s.size):s.data.toList.drop k=s[k] :: s.data.toList.drop (k+1):=by
 rw[IJ (by rw[GH];exact a)];rfl
def p_nil:p.data.toList=[] ↔ p.size=0:=by rw[<- GH,List.length_eq_zero_iff]
end
def b47{b:UInt8}:((b.toNat:Int)==47)=AQ ↔ b=47:=by
 rw[beq_iff_eq];exact⟨fun h=>UInt8.toNat_inj.1 (by show b.toNat=47;omega),fun h=>by rw[h];rfl⟩
def b0{b:UInt8}:((b.toNat:Int)==0)=AQ ↔ b=0:=by
 rw[beq_iff_eq];exact⟨fun h=>UInt8.toNat_inj.1 (by show b.toNat=0;omega),fun h=>by rw[h];rfl⟩
def Yl(s:ByteArray)(w:U)(e:Ending)(w':U):Prop:=
 ((OkP s/\∃ v,e=Av (AT #[v,J Z 0])/\TR w' w.heap.size v (BX s))\/(¬ OkP s/\e=Av (AT #[F H 0 0,J Z 10])))/\AB w.heap.size w w'
end
section
open Go.RowKit BM
def Fl(l:List (Int × ByteArray)):Ab:=l.flatMap Ek
def FrmL(l:List (Int × ByteArray)):Prop:=∀ e∈l,Ff e=AQ
def FrmL.len{l:List (Int × ByteArray)}(h:FrmL l):∀ e∈l,(Ek e).length=16:=fun e he=>D5 (DP (h e he)).2
def E8{l:List (Int × ByteArray)}(h:FrmL l):(Fl l).length=16*l.length:=by
 unfold Fl;rw[IV h.len];omega
def Ir(l m:List (Int × ByteArray)):Fl (l ++ m)=Fl l ++ Fl m:=DY
def jj(e:Int × ByteArray):Fl [e]=Ek e:=by unfold Fl;simp
def VS{l:List (Int × ByteArray)}(h:FrmL l){i:Nat}(hi:i<l.length):((Fl l).drop (16*i)).take 16=Ek l[i]:=by
 have:=Y6 [] h.len i hi;rw[Cc,Nat.mul_comm i 16] at this;exact this
def eH(l:List (Int × ByteArray))(h:FrmL l)(i:Nat)(hi:i<=l.length):(Fl l).take (16*i)=Fl (l.take i):=by
 have e:l=l.take i ++ l.drop i:=(Fw i l).symm;have a:(Fl (l.take i)).length=16*i:=by
  rw[E8 fun e he=>h e (DE he),AV];omega
 conv=>lhs;rw[e,Ir]
 rw[DC a]
def FrmL.append{l:List (Int × ByteArray)}(h:FrmL l){e:Int × ByteArray}(he:Ff e=AQ):FrmL (l ++ [e]):=fun x b=>by
 rcases BU.1 b with a|a
 . exact h x a
 . rw[BN.1 a];exact he
def FrmL.take{l:List (Int × ByteArray)}(h:FrmL l)(k:Nat):FrmL (l.take k):=fun x a=>h x (DE a)
def ea(l:List (Int × ByteArray))(h:FrmL l)(i:Nat)(hi:i<=l.length):(Fl l).drop (16*i)=Fl (l.drop i):=by
 have e:l=l.take i ++ l.drop i:=(Fw i l).symm;have a:(Fl (l.take i)).length=16*i:=by
  rw[E8 fun e he=>h e (DE he),AV];omega
 conv=>lhs;rw[e,Ir]
 rw[List.drop_left' a]
section
variable {M:Nat->Option Ab}
def nJ{l:Ab}{a n:Nat}(g:l.length=n)(h:∀ i,i<n->bZ M (a+i)=l.getD i 0):JI M a n=l:=by
 apply Bt
 . rw[FJ,g]
 . intro i b f
   rw[FJ] at b;have c:=O4 M a b;rw[Az,AX (by rw[FJ];exact b)] at c;have d:=h i b;rw[Az,AX f] at d;exact c.trans d
def aK(g:OkB M){l:Ab}(hb:Fv l){a n:Nat}(h:a<=n):JI (wrL M a l) 0 (max n (a+l.length))=splice (JI M 0 n) a l:=by
 have b:=FJ M 0 n;refine nJ (by unfold splice;rw[AO,AO,AV,By,b];omega) fun i j=>?_
 rw[BC,ZV l M a g hb];unfold splice;by_cases d:i<a
 . rw[AJ Aa,Az,BT (by rw[AV,b];omega),Bb,AG d,<- Az,O4 M 0 Aa,BC]
 . have c:((JI M 0 n).take a).length=a:=by rw[AV,b];omega
   by_cases f:i<a+l.length
   . rw[AG ⟨Aa,f⟩,Az,Az,B5 Aa,c,BT Aa]
   . rw[AJ Aa,Az,B5 Aa,c,B5 Aa,Bv,<- Az,show a+l.length+(i-a-l.length)=i from Aa,O4 M 0 Aa,BC]
end
structure DirF (sz:Nat) (M:Nat->Option Ab) (l:List (Int × ByteArray)):Prop where
 ok:OkB M
 frm:FrmL l
 zs:sz=16*l.length
 by_:JI M 0 sz=Fl l
section
variable {sz:Nat}{M:Nat->Option Ab}{l:List (Int × ByteArray)}
def DirF.nil{M:Nat->Option Ab}(h:OkB M):DirF 0 M []:=⟨h,fun x a=>(by cases a),rfl,rfl⟩
def DirF.add(h:DirF sz M l){e:Int × ByteArray}(he:Ff e=AQ):DirF (16*(l.length+1)) (wrL M sz (Ek e)) (l ++ [e]):=by
 have c:=D5 (DP he).2;have b:=Wp (DP he).2;have f:=h.zs;refine⟨h.ok.wrL _ _ b,h.frm.append he,by rw[AO,List.length_singleton],?_⟩;have:=aK h.ok b (a:=sz) (n:=sz) (AE _);rw[c,show max sz (sz+16)=16*(l.length+1) from Aa,h.by_] at this;rw[this,Ir,jj];have d:=E8 h.frm;unfold splice;rw[A2 Aa,GR Aa,Cc]
end
end
section
open Go.RowKit
def VK(s:ByteArray)(c:Int)(w:U):AH X 82 #[.string s,J .u8 c] w fun e w'=>e=Av (J Z (Lib.indexByte s.data.toList c.toNat.toUInt8))/\w=w':=by
 go_enter func82,ntmps82;go_wp2;rw[run_callFunc_extern func128 Ac Ac Ac (e:=Extern.BytealgIndexByte.indexByte) Ac,Lib.run_indexByteString];simp only[Result.andThen];rw[BK.upon_value];go_wp2;go_ret;exact⟨rfl,rfl⟩
def Tx(s:ByteArray)(c:Int)(w:U):AH X 41 #[.string s,J .u8 c] w fun e w'=>e=Av (J Z (Lib.indexByte s.data.toList c.toNat.toUInt8))/\w=w':=by
 go_enter func41,ntmps41;go_wp2_with (go_at_call 82;refine Ad (VK s c _) ?_;rintro w' rfl)
 go_ret;exact⟨rfl,rfl⟩
def dots_is:dot1.toList=[46]/\dot2.toList=[46,46]:=by
 rw[Cg,Cg];exact⟨rfl,rfl⟩
def jO(s:ByteArray)(B:Bool)(h:Ie s=B)(w:U):AH X 98 #[.string s] w fun e w'=>e=Av (AY B)/\w=w':=by
 have l:=wN (fun W=>Tx s 0 W);have m:=wN (fun W=>Tx s 47 W);unfold Ie at h;rw[dZ,dots_is.1,dots_is.2] at h;by_cases g:1<=s.size
 . by_cases p:s.size<=13
   . rw[AK g,AK p] at h
     have o:¬ (s.size:Int)<1:=Aa;have r:¬ 13<(s.size:Int):=Aa;cases f:s.toList==[46]
     . cases n:s.toList==[46,46]
       . rw[f,n] at h
         obtain⟨j,i⟩:=nm (Lib.indexByte s.data.toList 0);obtain⟨k,b⟩:=nm (Lib.indexByte s.data.toList 47);rw[<- i,<- b] at h;have c:Hid (∀ W,AH X 41 #[.string s,J .u8 0] W fun e w'=>e=Av (J Z j)/\W=w'):=wN (fun W=>by rw[i];exact l.out W);have d:Hid (∀ W,AH X 41 #[.string s,J .u8 47] W fun e w'=>e=Av (J Z k)/\W=w'):=wN (fun W=>by rw[b];exact m.out W);clear l m i b;by_cases q:j<0
         . cases t:decide (k<0)
           all_goals
            rw[AK q,t] at h;have a:=wN h;clear h;go_enter func98,ntmps98;go_wp2_with (go_at_call 41;first|((with_reducible refine Ad (c.out _) ?_);rintro w' rfl)|((with_reducible refine Ad (d.out _) ?_);rintro w' rfl))
            go_ret;exact⟨Dl a.out,rfl⟩
         . rw[AM q] at h
           have a:=wN h;clear h;go_enter func98,ntmps98;go_wp2_with (go_at_call 41;(with_reducible refine Ad (c.out _) ?_);rintro w' rfl)
           go_ret;exact⟨Dl a.out,rfl⟩
       . rw[f,n] at h
         have a:=wN h;clear h;go_enter func98,ntmps98;go_wp2;go_ret;exact⟨Dl a.out,rfl⟩
     . rw[f] at h
       have a:=wN h;clear h;go_enter func98,ntmps98;go_wp2;go_ret;exact⟨Dl a.out,rfl⟩
   . rw[AK g,AM p] at h
     have a:=wN h;clear h;have o:¬ (s.size:Int)<1:=Aa;have r:13<(s.size:Int):=Aa;go_enter func98,ntmps98;go_wp2;go_ret;exact⟨Dl a.out,rfl⟩
 . rw[AM g] at h
   have a:=wN h;clear h;have o:(s.size:Int)<1:=Aa;go_enter func98,ntmps98;go_wp2;go_ret;exact⟨Dl a.out,rfl⟩
def Vh(s:ByteArray)(B:Bool)(h:Ie s=B)(w:U):AH X 20 #[.string s] w fun e w'=>e=Av (AY B)/\w=w':=by
 unfold Ie at h;rw[dots_is.1,dots_is.2] at h;by_cases u:1<=s.size
 . by_cases A:s.size<=13
   . rw[AK u,AK A] at h
     have z:¬ (s.size:Int)<1:=Aa;have D:¬ 13<(s.size:Int):=Aa;cases r:s.toList==[46]
     . cases x:s.toList==[46,46]
       . rw[r,x] at h
         have p:=wN (fun k f E=>cY s k f E);have q:=wN (fun k f=>Wj s k f);have n:=wN (fun k f=>UW s k f);have j:=wN (Zn s);have b:=wN h;have C:=wN (Vc s);clear h;go_enter func20,ntmps20;go_wp2
         go_loop [22] (fun i=>∃ k:Nat,k<=s.size/\i=J Z k/\Hid (JM s k=AQ)) (fun i=>s.size-(intOf i).toNat)
         case atStart=>exact⟨0,Aa,rfl,C.out⟩
         case round=>
          obtain⟨k,f,rfl,v⟩:=hrel;by_cases c:k<s.size
          . have m:=n.out k c
            have g:=q.out k c;have d:=p.out k c;rw[m] at g d;have F:(k:Int)<(s.size:Int):=Aa;cases t:(((s[k]).toNat:Int)==0)
            . cases y:(((s[k]).toNat:Int)==47)
              . have a:jI ((s[k]).toNat:Int)=AQ:=by unfold jI;rw[t,y];rfl
                rw[v.out,a] at g;have l:=wN g;clear d g m a;go_wp2
                go_round
                case rel=>exact⟨k+1,Aa,by go_num,l.out⟩
                case measure=>simp[intOf];omega
              . have a:jI ((s[k]).toNat:Int)=AN:=by unfold jI;rw[t,y];rfl
                have o:=wN (d a);clear d g m a;go_wp2;go_ret;exact⟨Dl (by rw[<- b.out,o.out];rfl),rfl⟩
            . have a:jI ((s[k]).toNat:Int)=AN:=by unfold jI;rw[t];rfl
              have o:=wN (d a);clear d g m a;go_wp2;go_ret;exact⟨Dl (by rw[<- b.out,o.out];rfl),rfl⟩
          . obtain rfl:k=s.size:=by omega
            go_wp2;go_ret;exact⟨Dl (by rw[<- b.out,<- j.out,v.out];rfl),rfl⟩
       . rw[r,x] at h
         have b:=wN h;clear h;go_enter func20,ntmps20;go_wp2;go_ret;exact⟨Dl b.out,rfl⟩
     . rw[r] at h
       have b:=wN h;clear h;go_enter func20,ntmps20;go_wp2;go_ret;exact⟨Dl b.out,rfl⟩
   . rw[AK u,AM A] at h
     have b:=wN h;clear h;have z:¬ (s.size:Int)<1:=Aa;have D:13<(s.size:Int):=Aa;go_enter func20,ntmps20;go_wp2;go_ret;exact⟨Dl b.out,rfl⟩
 . rw[AM u] at h
   have b:=wN h;clear h;have z:(s.size:Int)<1:=Aa;go_enter func20,ntmps20;go_wp2;go_ret;exact⟨Dl b.out,rfl⟩
def L6(i:Int)(s:ByteArray)(B:Bool)(h:Ff (i,s)=B)(w:U):AH X 52 #[BS #[J Z i,.string s]] w fun e w'=>e=Av (AY B)/\AB w.heap.size w w':=by
 have a:=AF w (Ay #[J Z i,.string s] 75);unfold Ff at h;by_cases c:1<=i
 . by_cases d:i<48
   . have f:Ie s=B:=by
      rw[<- h];show _=(decide (1<=i) && (decide (i<48) && Ie s));rw[AK c,AK d];rfl
     have K:=wN (fun W=>jO s B f W);clear h f;go_enter func52,ntmps52;go_wp2_with (go_at_call 98;refine Ad (K.out _) ?_;rintro w' rfl)
     go_ret;exact⟨rfl,a⟩
   . have b:Hid (AN=B):=wN (by rw[<- h];show _=(decide (1<=i) && (decide (i<48) && Ie s));rw[AK c,AM d];rfl)
     clear h;go_enter func52,ntmps52;go_wp2;go_ret;exact⟨Dl b.out,a⟩
 . have b:Hid (AN=B):=wN (by rw[<- h];show _=(decide (1<=i) && (decide (i<48) && Ie s));rw[AM c];rfl)
   clear h;go_enter func52,ntmps52;go_wp2;go_ret;exact⟨Dl b.out,a⟩
def eV(i:Int)(s:ByteArray)(h:Ff (i,s)=AQ)(w:U):AH X 138 #[BS #[J Z i,.string s]] w (J8 w (WW (i,s))):=by
 have x:=Qk h;have I:s.size<=13:=(DP h).2;have E:1<=i:=x.1;have F:i<48:=x.2.1;have z:=wN (fW (i,s) I);have N:IntKind.u64.wrap i=i:=Ln _ Aa;have O:IntKind.u64.wrap (s.size:Int)=(s.size:Int):=Ln _ Aa;have A:=wN (fun W=>FK (Le W) Ai i 2 2 Aa Aa rfl Aa Aa);have B:=wN (fun W v (K:BSl W v ([] ++ B8 i 2))=>FK K (by simp[Bp]) (s.size:Int) 1 1 Aa Aa rfl Aa Aa);have q:Hid ((([] ++ B8 i 2) ++ B8 (s.size:Int) 1).length+s.size<=1000000):=wN (by simp[Bp];omega);have c:=AF w (Ay #[J Z i,.string s] 75);have r:=AC w (Ay #[J Z i,.string s] 75);obtain⟨t,a⟩:=nm (w.alloc (Ay #[J Z i,.string s] 75));rw[<- a] at c r;have y:Hid (w.alloc (Ay #[J Z i,.string s] 75)=t):=wN a.symm;have m:w.heap.size<t.heap.size:=by rw[a];simp
 have o:Hid (t.cell? ⟨w.heap.size,1,H⟩=G (.string s)):=wN (by rw[AD _ _ _ _ _ _ r];rfl);have n:=wN c;clear x h a r c;go_enter func138,ntmps138
 go_wp2_with (first
  |(go_at_call 133;rw[y.out];(with_reducible refine(A.out _).mono ?_);rintro e S ⟨P,rfl,j,d⟩
    have D:=(d.cell (p:=⟨w.heap.size,1,H⟩) m).trans o.out;have b:=wN (n.out.trans (d.mono (Cy m)));have C:=AL m d.size)
  |(go_at_call 133;(with_reducible refine(B.out _ _ j.bsl).mono ?_);rintro e L ⟨Q,rfl,k,g⟩
    have M:=(g.cell (p:=⟨w.heap.size,1,H⟩) C).trans D;have f:=wN (b.out.trans (g.mono b.out.size)))
  |(at_builtin;refine Iv L rfl (.tmp 14) (.tmp 16) rfl w.heap.size _ (([] ++ B8 i 2) ++ B8 (s.size:Int) 1) rfl (k.more b.out.size) s rfl q.out f.out.size ?_
    intro R T l u))
 go_ret;exact⟨_,rfl,by rw[z.out];exact l,f.out.trans u⟩
def Q7{f:Array BK}{o:BK}{a:Act}{w:U}{K:Act->U->Prop}{Q:Exit->Act->U->Prop}{E:Prop}(x:o.guard=H)(d s:Operand)
 (D:o.op=.call { callee:=.builtin .copy,args:=#[d,s],argTypes:=#[77,77] })
 (g off b c:Nat) (hd:a.eval d=F (G ⟨g,off,H⟩) b c) (u:I) (m:Ab) (L:a.eval s=u) (l:BSl w u m) (q:0<m.length)
 (cur:Ab) (n:w.heap[g]? =G (Ay (cur.map (J .u8)).toArray 5 (0,0))) (z:m.length<=b) (y:off+m.length<=cur.length)
 (h:∀ w',w'.heap[g]? =G (Ay ((splice cur off m).map (J .u8)).toArray 5 (0,0))->Wrote w w' g->K (a.put o.dst (goInt m.length)) w'):
 if Region.wanted o (yielded f a.tmps)=AQ then BK.wp X o a w K Q else E:=by
 have N:Region.wanted o (yielded f a.tmps)=AQ:=by simp[Region.wanted,x]
 rw[AG N];obtain⟨A,k,rfl,O⟩:=l.shape;cases A with
 |none=>
  rcases l.2 with⟨_,C⟩| ⟨_,_,M,_⟩
  . rw[C] at q;simp at q
  . simp at M
 |some ad=>
  have t:∀ j v,(m.map (J .u8))[j]? =G v->w.cell? (ad.add j)=G v:=by
   intro j v p;have R:j<m.length:=by simpa using (Bo.1 p).1
   obtain⟨i,he,B⟩:=Fm l (fun _ _=>rfl) m.length Ak;obtain rfl:ad=i:=by simpa using he
   exact B j v (by simpa using p)
  have r:=run_copy_row (P:=X) w 77 77 o.type 5 g off b c ad m.length k (cur.map (J .u8)).toArray 5 (m.map (J .u8)) underlying77 Ac n (by rw[Bn];exact(FL z).symm) t (by simpa using y) (ints_oneCell _ _);unfold BK.wp;simp[execOp,D,resolve,invoke,builtin,hd,L,r,Result.andThen];have e:(List.take off (cur.map (J .u8)) ++ ((m.map (J .u8)) ++ List.drop (off+m.length) (cur.map (J .u8))))=(splice cur off m).map (J .u8):=by
   simp[splice]
  refine h _ ?_ (Wrote.setRow _ _ _);rw[CJ w g _ _ 5 _ n,<- e]
def LI(O:List (Int × ByteArray))(k:Nat):Ab:=J3 O k ++ AI (256-16*k) 0
def cy(O:List (Int × ByteArray)):LI O 0=AI 256 0:=by
 show([]:Ab) ++ AI (256-16*0) 0=_
 rw[List.nil_append]
def eA(O:List (Int × ByteArray)):LI O O.length=JC O:=by unfold LI JC;rw[Xq]
def Ux{O:List (Int × ByteArray)}(k:Nat)(a:k<=O.length)(b:k<=16)(h:∀ j,j<k->Ff (O.getD j default)=AQ):(LI O k).length=256:=by
 unfold LI;rw[AO,L7 k a h,Bg];omega
def jz{O:List (Int × ByteArray)}(k:Nat)(a:k<O.length)(c:k<16)(h:∀ j,j<k->Ff (O.getD j default)=AQ)(x:Int × ByteArray)(b:x=O.getD k default)(hf:Ff x=AQ):
 splice (LI O k) (k*16) (WW x)=LI O (k+1):=by
 have f:=L7 k (Cy a) h;have g:=DP hf;have d:=LS x;unfold LI;rw[Yk k a,<- b];simp only[splice];rw[show k*16=(J3 O k).length from Aa,List.take_left,Bj];congr 1;rw[List.drop_length_add_append,List.drop_replicate,Ek,Bj];congr 1;rw[List.replicate_append_replicate];congr 1;omega
def ku{O:List (Int × ByteArray)}(k:Nat)(h:∀ j,j<k->Ff (O.getD j default)=AQ):Fv (LI O k):=DQ (c7 k h) (Db _)
def pO(O:List (Int × ByteArray))(w:U)(e:Ending)(w':U):Prop:=
 (Ka O=AQ/\∃ u,e=Av (AT #[u,J Z 0])/\OB w' w.heap.size u (JC O)/\AB w.heap.size w w')\/
 (Ka O=AN/\e=Av (AT #[F H 0 0,J Z 1])/\AB w.heap.size w w')
def dx{w:U}(a:Option Addr)(len cap:Nat)(h:16<len):AH X 101 #[F a len cap] w fun e w'=>e=Av (AT #[F H 0 0,J Z 1])/\w=w':=by
 have b:16<(len:Int):=Aa;go_enter func101,ntmps101;go_wp2;go_ret2;exact⟨rfl,rfl⟩
def ib{O:List (Int × ByteArray)}(c:O.length<=16)(h:∀ j,j<O.length->Ff (O.getD j default)=AQ):Ka O=AQ:=
 Pa c fun x d=>by
  obtain⟨j,a,rfl⟩:=CC d;have:=h j a;have b:O.getD j default=O[j]:=by simp[a]
  rw[<- b];exact this
def ro(w:U)(M:Nat)(a:M=256)(O:List (Int × ByteArray)):(w.alloc (Ay (AW M (J .u8 0)) 5)).heap[w.heap.size]? =G (Ay ((LI O 0).map (J .u8)).toArray 5 (0,0)):=by
 have e:LI O 0=AI M 0:=by rw[a];exact cy O
 rw[AC,e,List.map_replicate];simp
def nk{w:U}{B g M:Nat}{l:Ab}(hb:Fv l)(b:l.length=M)(c:M<=1000)(a:B<=g)(h:w.heap[g]? =G (Ay (l.map (J .u8)).toArray 5 (0,0))):OB w B (F (G ⟨g,0,H⟩) M M) l:=by
 subst b;exact OB.of_heap (rest:=[]) hb a (by rw[Cc];exact h) rfl (by unfold maxLen;omega)
def ix{w:U}{v:I}{O:List (Int × ByteArray)}(hs:ESl w v O)(NU:O.length<=16):AH X 101 #[v] w (pO O w):=by
 obtain⟨ao,c8,rfl,hc⟩:=hs.open';obtain⟨M,M5⟩:∃ M:Nat,M=256:=⟨_,rfl⟩;have a0:Hid ((256:Int)=(M:Int)):=wN Aa;have E:Hid (M=256):=wN M5;have Sz:M<=1000:=Aa;have a5:=wN (fun h=>ib NU h);have a1:=wN (fun k A h=>m8 (O:=O) k A h);have a4:=wN (fun k A h1 h x P o=>jz (O:=O) k A h1 h x P o);have D:=wN (fun k A h1 h=>Ux (O:=O) k A h1 h);have b3:=wN (fun k h=>ku (O:=O) k h);have Y:=wN (eA O);have a2:=wN (ro w M M5 O);obtain⟨n,hn⟩:=nm O.length;rw[<- hn] at hc NU a5 a1 a4 D Y |-
 have HC:=wN hc;have c5:¬ 16<(n:Int):=Aa;clear hs hc M5 hn;go_enter func101,ntmps101;go_wp2_with (at_make;refine DA _ rfl _ _ rfl 256 256 M M rfl rfl a0.out a0.out (AE _) Aa ?_)
 have NL:AB w.heap.size w (w.alloc (Ay (AW M (J .u8 0)) 5)):=AF _ _;have t:=a2.out;have I8:w.heap.size<(w.alloc (Ay (AW M (J .u8 0)) 5)).heap.size:=Ai;obtain⟨g,hg⟩:=nm w.heap.size;rw[<- hg] at t I8 |-
 have HG:=wN hg;have sL:AB g w (w.alloc (Ay (AW M (J .u8 0)) 5)):=by rw[hg];exact NL
 clear a2 hg NL;generalize w.alloc (Ay (AW M (J .u8 0)) 5)=w3 at t I8 sL |-
 have a3:=wN t;clear t;go_loopw [13] (fun i wr=>∃ k:Nat,k<=n/\i=J Z k/\Hid (wr.heap[g]? =G (Ay ((LI O k).map (J .u8)).toArray 5 (0,0)))/\Hid (∀ j,j<k->Ff (O.getD j default)=AQ)/\AB g w wr/\g<wr.heap.size) (fun i _=>n-(intOf i).toNat)
 case atStart=>exact⟨0,Aa,rfl,a3,fun j hj=>absurd hj (Bm _),sL,I8⟩
 case round=>
  obtain⟨k,A,rfl,z,Q,f,Uu⟩:=hrel;clear a3 sL I8;by_cases N:k<n
  . obtain⟨b,b0,rfl,hb,L⟩:=HC.out Aa
    have l:=L k N;have C3:=a1.out k N;have qp:=a4.out k N Aa Q.out;have a:=D.out k A Aa Q.out;obtain⟨⟨x,y⟩,P⟩:∃ x,x=O.getD k default:=⟨_,rfl⟩;rw[<- P] at l C3;have sM:=qp _ P;rw[<- HG.out] at hb;have c1:=(f.cell (p:=⟨b,b0+k*2,H⟩) hb).trans l.1;have c2:=(f.cell (p:=⟨b,b0+k*2+1,H⟩) hb).trans l.2;have ek:(k:Int)<(n:Int):=Aa;have HX:=wN P;have b6:=wN C3;have c0:=wN sM;have b4:=wN a;cases o:Ff (x,y)
    . have HF:=wN o
      have KF:=wN (fun W=>L6 x y AN o W);clear P L l C3 qp sM a o;go_wp2_with (go_at_call 52;refine Ad (KF.out _) ?_;rintro w5 c3)
      go_ret2;have HB:=(f.trans ((AF wr (Ay #[J Z x,.string y] 75)).mono (Cy Uu))).trans (c3.mono Ak);exact A8 ⟨b6.out HF.out,rfl,by rw[<- HG.out];exact HB⟩
    . have HF:=wN o
      have KF:=wN (fun W=>L6 x y AQ o W);have KW:=wN (fun W=>eV x y o W);have C:Hid ((WW (x,y)).length<=16/\0<(WW (x,y)).length):=wN (by have:=DP o;rw[LS];omega);have c6:k*16+16<=M:=(by have:=E.out;omega);have c9:∀ W:U,(Instr.slice 77 (F (G ⟨g,0,H⟩) M M) (G (J Z ((k:Int)*16))) H H).run X W=.ok (F (G ⟨g,k*16,H⟩) (M-k*16) (M-k*16)) W:=fun W=>by
       have:=F9 W g 0 M M (k*16) M H (A4 ⟨rfl,rfl⟩) Aa (AE _) Aa;have ee:X.elem 77=5:=Ac;rw[BC,Int.natCast_mul,run_sliceAt_slice W 77 _ _ _ _ (by rw[ee];exact underlying77)] at this;exact this
      clear P L l C3 qp sM a o
      go_wp2_with (first|(go_at_call 52
                          have s:=AF wr (Ay #[J Z x,.string y] 75);have Q0:=AC wr (Ay #[J Z x,.string y] 75);have vH:wr.heap.size<(wr.alloc (Ay #[J Z x,.string y] 75)).heap.size:=Ai;generalize wr.alloc (Ay #[J Z x,.string y] 75)=W5 at s Q0 vH |-
                          refine Ad (KF.out _) ?_;rintro R d))
      have a6:W5.cell? ⟨wr.heap.size,0,H⟩=G (J Z x):=(by rw[AD _ _ _ _ _ _ Q0];rfl);have a7:W5.cell? ⟨wr.heap.size,1,H⟩=G (.string y):=(by rw[AD _ _ _ _ _ _ Q0];rfl);have d0:R.drew.cell? ⟨wr.heap.size,0,H⟩=G (J Z x):=(d.cell (p:=⟨wr.heap.size,0,H⟩) vH).trans a6;have d1:R.drew.cell? ⟨wr.heap.size,1,H⟩=G (.string y):=(d.cell (p:=⟨wr.heap.size,1,H⟩) vH).trans a7;have c:AB wr.heap.size wr R.drew:=Bd (s.trans (d.mono s.size)) 1;have S:=wN c;have b8:Hid (R.drew.heap[g]? =G (Ay ((LI O k).map (J .u8)).toArray 5 (0,0))):=wN ((c.block g Uu).trans z.out);have c4:g<R.drew.heap.size:=AL Uu c.size;have qs:wr.heap.size<R.drew.heap.size:=AL vH d.size;obtain⟨q,hq⟩:=nm wr.heap.size;rw[<- hq] at d0 d1 qs |-
      have a8:q≠g:=Aa;have GY:k*16+(WW (x,y)).length<=(LI O k).length:=(by have:=C.out.1;have:=E.out;rw[b4.out];omega);have Lk:(WW (x,y)).length<=M-k*16:=(by have:=C.out.1;omega);have V:=wN GY;have c7:Z.wrap ((k:Int)*16)=(k:Int)*16:=Bz _ Aa;have b5:=wN Lk;clear a6 a7 Q0 s vH d c hq GY Lk c1 c2
      go_region_held3 (fun W=>W.cell? ⟨q,0,H⟩=G (J Z x)/\W.cell? ⟨q,1,H⟩=G (.string y)) (first|exact⟨f0,f1⟩|exact⟨e0,e1⟩|exact⟨d0,d1⟩) (first
       |(go_at_call 138;(with_reducible refine(KW.out _).mono ?_);rintro e w7 ⟨v7,rfl,a9,r⟩
         have T:=wN (S.out.trans (r.mono S.out.size));have NS:=(r.block g c4).trans b8.out;have b9:=wN NS;have e0:=(r.cell (p:=⟨q,0,H⟩) qs).trans d0;have e1:=(r.cell (p:=⟨q,1,H⟩) qs).trans d1;clear NS)
       |(refine Q7 rfl (.tmp 24) (.tmp 26) rfl g (k*16) (M-k*16) (M-k*16) rfl v7 (WW (x,y)) rfl a9.bsl C.out.2 (LI O k) b9.out b5.out V.out ?_
         intro w8 gn u;have f0:w8.cell? ⟨q,0,H⟩=G (J Z x):=(by simp only[U.cell?];rw[u.2.2.2.2 q a8];exact e0);have f1:w8.cell? ⟨q,1,H⟩=G (.string y):=by simp only[U.cell?];rw[u.2.2.2.2 q a8];exact e1))
      go_wp2;go_roundw
      case rel=>
       have b1:=(f.trans (T.out.mono (Cy Uu))).trans (u.below (AE g));refine⟨k+1,Aa,by go_num,?_,fun j hj=>?_,b1,?_⟩
       . show w8.heap[g]? =_
         rw[<- c0.out HF.out];exact gn
       . by_cases e:j=k
         . subst e;rw[<- HX.out];exact HF.out
         . exact Q.out j Aa
       . exact AL Uu (AU T.out.size (by rw[u.2.2.2.1];exact AE _))
      case measure=>simp[intOf];omega
  . obtain rfl:k=n:=by omega
    have a:=D.out k A Aa Q.out;have m:=z.out;have K:=b3.out k Q.out;rw[Y.out] at m a K;have b7:=wN (nk (B:=w.heap.size) K (a.trans E.out.symm) Sz (by rw[HG.out];exact AE _) m);have b2:=wN (show AB w.heap.size w wr by rw[<- HG.out];exact f);clear a m K;go_wp2;go_ret2;exact A4 ⟨a5.out Q.out,_,rfl,b7.out,b2.out⟩
def Mj{w:U}{v:I}{O:List (Int × ByteArray)}(b:ESl w v O):AH X 101 #[v] w (pO O w):=by
 by_cases h:O.length<=16
 . exact ix b h
 . obtain⟨c,a,rfl⟩:=b.shape
   exact(dx c _ a Aa).mono fun e f ⟨he,d⟩=>A8 ⟨fZ Aa,he,by rw[<- d];exact AP _ _⟩
def Sb:(X.info? 75).map (·.size)=G 2:=Ac
def GU{b:Array BK}{rest:List BK}{o:BK}{a:Act}{w:U}{Q:Exit->Act->U->Prop}(f:o.guard=H)(c:Cn)(hi:(X.info? c).map (·.size)=G 2)(x y:Operand)(i:o.op=.store c x y)
 (g:Nat) (k:a.eval x=Ax (G ⟨g,0,H⟩)) (p q m n:I) (l:a.eval y=BS #[p,q]) (hp:p.oneCell'=AQ) (j:q.oneCell'=AQ) (T:Cn) (d:w.heap[g]? =G (Ay #[m,n] T (0,0)))
 (h:∀ w',Wrote w w' g->w'.heap[g]? =G (Ay #[p,q] T (0,0))->Cj X b Q rest (a.put o.dst undef) w'):Cj X b Q (o :: rest) a w:=
 C8 f c x y i g #[p,q] k l T _ d hi rfl (by simp[hp,j]) (h _ (Wrote.setRow _ _ _) (CJ _ _ _ _ _ _ d))
def J0{fn:Func}{p u:Tmp}{c:Cn}{fs}(h:fn.results=#[.cell p c,.tmp u])(hu:X.underlying c=G (.struct fs))(hi:(X.info? c).map (·.size)=G 2)
 (tmps:Array I) (w:U) (g:Nat) (T:Cn) (a b x:I) (hp:tmps.getD p undef=Ax (G ⟨g,0,H⟩)) (d:w.heap[g]? =G (Ay #[a,b] T (0,0))) (f:tmps.getD u undef=x):
 (results fn tmps).run X w=.ok (AT #[BS #[a,b],x]) w:=by
 rw[results_cell_tmp h,hp,f];simp only[asAddr,Sem.run_pure,Result.andThen_ok];rw[run_loadVar_row w g T c _ (0,0) _ d hu rfl (by rw[hi];rfl)];rfl
def kw{w:U}{v:I}{c:Ab}(i:BSl w v c)(n:c.length<=100000)(a k:Nat)(A K:Int)(d:A=a)(f:K=k)(l:1<=k)(o:k<=8)(m:a+k<=c.length)(y:Int)(j:y=Cs c a k):
 AH X 183 #[v,J Z A,J Z K] w fun e w'=>e=Av (AT #[J .u64 y,AY AQ])/\w=w':=by
 subst d f;have b:=Mu i Aa (a:Int) k Aa Aa;have h:QU c (a:Int) k=y:=by unfold QU;rw[AG Aa,j];rfl
 have g:cp c (a:Int) k=AQ:=AK Aa;rw[h,g] at b;exact b
def dC{c:Ab}(a:3<=c.length):c.getD 2 0=Cs c 2 1:=by
 rw[Sy c 2 0 Aa,RH];omega
def nH{W:U}{b off cap n:Nat}{c:Ab}(d:BSl W (F (G ⟨b,off,H⟩) c.length cap) c)(a:3+n<=c.length):
 (convert 77 9 (F (G ⟨b,off+3,H⟩) n (cap-3))).run X W=.ok (.string (B7 ((c.drop 3).take n))) W:=Hw (d.mid 3 n a)
def je{w:U}{v:I}{c:Ab}(m:BSl w v c)(T:c.length=16):
 (¬ T6 c->AH X 200 #[v] w fun e w'=>(∃ i s,e=Av (AT #[BS #[J Z i,.string s],AY AN]))/\AB w.heap.size w w')/\
 (T6 c->AH X 200 #[v] w fun e w'=>e=Av (AT #[BS #[J Z (mO c).1,.string (mO c).2],AY AQ])/\AB w.heap.size w w'):=by
 obtain⟨b,L,j,rfl,P,hb⟩:=m.open' Aa;have f:=AF w (Ay #[J Z 0,.string ⟨#[]⟩] 75);have u:=AC w (Ay #[J Z 0,.string ⟨#[]⟩] 75);obtain⟨R,k⟩:=nm (w.alloc (Ay #[J Z 0,.string ⟨#[]⟩] 75));rw[<- k] at f u;have A:Hid (w.alloc (Ay #[J Z 0,.string ⟨#[]⟩] 75)=R):=wN k.symm;have t:=m.below f;have o:=EI (Da m.1) 0 2;have Y:=m.1 2;have z:=fun n=>nH (n:=n) t
 have l:(256:Int) ^ 2=65536:=rfl;unfold T6 mO;rw[l] at o;obtain⟨x,H⟩:=nm (Cs c 0 2);obtain⟨y,K⟩:=nm (c.getD 2 0);have q:=wN (kw t Aa 0 2 0 2 rfl rfl Aa Aa Aa x H);have r:=wN (kw t Aa 2 1 2 1 rfl rfl Aa Aa Aa y (by rw[K];exact dC Aa));have u1:=underlying75;have g:=wN f;rw[<- H] at o |-
 rw[<- K] at Y |-
 dsimp only
 rw[T] at q r P z |-
 clear m t k H K f l;refine⟨fun O=>?_,fun V=>?_⟩
 . have G:y<1\/13<y:=by omega
   clear O z;rcases G with h|h
   . go_enter func200,ntmps200
     go_wp2_with (first|(go_at_call 183;rw[A.out];(with_reducible refine Ad q.out ?_);rintro p rfl)|(go_at_call 183;(with_reducible refine Ad r.out ?_);rintro p rfl)|(with_reducible refine GU rfl 75 Sb (.tmp 2) (.tmp 24) rfl w.heap.size rfl _ _ _ _ rfl rfl rfl _ u ?_;intro N d a))
     exact A9 (J0 rfl underlying75 Sb _ _ w.heap.size _ _ _ _ rfl a rfl) rfl ⟨⟨_,_,rfl⟩,g.out.trans (d.below (AE _))⟩
   . have Q:¬ y<1:=by omega
     go_enter func200,ntmps200
     go_wp2_with (first|(go_at_call 183;rw[A.out];(with_reducible refine Ad q.out ?_);rintro p rfl)|(go_at_call 183;(with_reducible refine Ad r.out ?_);rintro p rfl)|(with_reducible refine GU rfl 75 Sb (.tmp 2) (.tmp 24) rfl w.heap.size rfl _ _ _ _ rfl rfl rfl _ u ?_;intro N d a))
     exact A9 (J0 rfl underlying75 Sb _ _ w.heap.size _ _ _ _ rfl a rfl) rfl ⟨⟨_,_,rfl⟩,g.out.trans (d.below (AE _))⟩
 . obtain⟨n,rfl⟩:∃ n:Nat,y=(n:Int):=⟨y.toNat,Aa⟩
   have Q:¬ (n:Int)<1:=Aa;have L0:¬ 13<(n:Int):=Aa;have F:=z n Aa;have sZ:Z.wrap x=x:=Bz _ Aa;have W:Z.wrap (n:Int)=(n:Int):=Bz _ Aa;rw[Cf];obtain⟨S,M⟩:=nm (B7 ((c.drop 3).take n));rw[<- M] at F |-
   have B:Hid (3+n-3=n):=wN Aa;have C:Hid ((3:Int)+(n:Int)=((3+n:Nat):Int)):=wN Aa;have D:3+n<=j:=Aa;have E:3<j:=Aa;clear z M;go_enter func200,ntmps200
   go_wp2_with (first|(go_at_call 183;rw[A.out];(with_reducible refine Ad q.out ?_);rintro p rfl)|(go_at_call 183;(with_reducible refine Ad r.out ?_);rintro p rfl)|(with_reducible refine D0 rfl (.tmp 27) (.const (J Z 3)) (.tmp 30) rfl b L 16 j rfl 3 (3+(n:Int)) rfl rfl 3 (3+n) n B.out rfl C.out (Nat.le_add_right 3 n) D E ?_)|(with_reducible refine GU rfl 75 Sb (.tmp 2) (.tmp 33) rfl w.heap.size rfl _ _ _ _ rfl rfl rfl _ u ?_;intro N d a))
   exact A9 (J0 rfl underlying75 Sb _ _ w.heap.size _ _ _ _ rfl a rfl) rfl ⟨rfl,g.out.trans (d.below (AE _))⟩
def JY(w1:U)(i:Int)(n:ByteArray){c:Array BK}{rest:List BK}{o:BK}{a:Act}{Q:Exit->Act->U->Prop}(d:o.guard=H)(S T:Cn)(s y:Operand)
 (j:o.op=.call { callee:=.builtin .append,args:=#[s,y],argTypes:=#[S,S] })
 (hu:X.underlying S=G (.slice T)) (hi:(X.info? T).map (fun i=>(i.zero,i.size,i.bytes))=G (G (BS #[J Z 0,.string ByteArray.empty]),2,24))
 (B:Nat) (v:I) (O:List (Int × ByteArray)) (l:a.eval s=v) (b:ER w1 B T v O) (g:O.length<=1000000) (q:Nat) (m:a.eval y=F (G ⟨q,0,H⟩) 1 1) (k:q=w1.heap.size) (f:B<=w1.heap.size)
 (h:∀ v' w',ER w' B T v' (O ++ [(i,n)])->AB B w1 w'->Cj X c Q rest (a.put o.dst v') w'):Cj X c Q (o :: rest) a (w1.alloc (Ay #[J Z i,.string n] T)):=by
 subst k;exact Mg w1 i n d S T s y j hu hi B v O l b g m f h
def rb(b:Ab)(w:U)(e:Ending)(w':U):Prop:=
 ∃ (k:Nat) (u:I),e=Av u/\k<=16/\(∀ j,j<k->T6 (Ev b j))/\(k<16->¬ T6 (Ev b k))/\ESl w' u (Ge b k)/\AB w.heap.size w w'
def Q9{b:Ab}(c:b.length=256)(k:Nat)(a:k<16):(Ev b k).length=16:=by
 unfold Ev;rw[AV,By];omega
def UV{w:U}{v:I}{l:Ab}(hs:BSl w v l)(hl:l.length=256):AH X 177 #[v] w (rb l w):=by
 obtain⟨b,z,g,rfl,CD,hb⟩:=hs.open' Aa;have HS:=wN hs;have N:=wN (fun k hk=>Q9 hl k hk);have p:=wN (fun W (h:BSl W (F (G ⟨b,z,H⟩) l.length g) l) lo (hm:lo+16<=l.length)=>h.mid lo 16 hm);have S:=wN (fun k=>Xt l k);have R:=wN (fun k=>ML l k);rw[hl] at HS p CD |-
 have u2:=underlying116;have H0:Hid (ER w w.heap.size 75 (F H 0 0) (Ge l 0)):=wN (Zh _ _ _);clear hs hl;go_enter func177,ntmps177;go_wp2;go_loopw [3,7] (fun u i wr=>∃ k:Nat,k<=16/\i=J Z k/\Hid (ER wr w.heap.size 75 u (Ge l k))/\Hid (∀ j,j<k->T6 (Ev l j))/\AB w.heap.size w wr) (fun _ i _=>16-(intOf i).toNat)
 case atStart=>exact⟨0,Aa,rfl,H0,fun j hj=>absurd hj (Bm _),AP _ _⟩
 case round=>
  obtain⟨k,hk,rfl,T,O,c⟩:=hrel;clear H0;by_cases a0:k<16
  . have ek:(k:Int)<16:=by omega
    have n:=p.out _ (HS.out.below c) (k*16) Aa;have V:(l.drop (k*16)).take 16=Ev l k:=rfl;rw[V] at n;have KR:=je n (N.out k a0);have L:=S.out k;obtain⟨⟨x,y⟩,hx⟩:∃ x,x=mO (Ev l k):=⟨_,rfl⟩;rw[<- hx] at KR L;have s:(k:Int)*16=((k*16:Nat):Int):=(by push_cast;omega);have t:((k:Int)+1)*16=((k*16+16:Nat):Int):=(by push_cast;omega);have o:Hid (k*16+16-k*16=16):=wN Aa;have A:=wN s;have B:=wN t;have C:k*16+16<=g:=Aa;have D:k*16<=k*16+16:=Aa;have E:k*16<g:=Aa;have Q:=wN L;have P:Hid ((Ge l k).length<=1000000):=wN (by rw[R.out];omega);by_cases d:T6 (Ev l k)
    . have KY:=wN (KR.2 d)
      have r:=wN d;clear hx n V s t KR L d
      go_wp2_with (first
       |(with_reducible refine D0 rfl (.tmp 11) (.tmp 13) (.tmp 16) rfl b z 256 g rfl ((k:Int)*16) (((k:Int)+1)*16) rfl rfl (k*16) (k*16+16) 16 o.out A.out B.out D C E ?_)
       |(go_at_call 200;refine Ad KY.out ?_;rintro M m
         have f:=wN (m.trans ((AF M (Ay #[J Z x,.string y] 75)).mono m.size));have q:=wN (T.out.below f.out);have a:=wN (c.trans (f.out.mono c.size)))
       |(at_builtin;refine JY _ x y rfl 116 75 (.tmp 23) (.tmp 25) rfl u2 pV w.heap.size _ (Ge l k) rfl q.out P.out (M.heap.size+1) rfl Ai a.out.size ?_
         intro v7 w7 K Y))
      go_roundw
      case rel=>
       refine⟨k+1,Aa,by go_num,by show ER _ _ _ _ (Ge l (k+1));rw[Q.out];exact K,fun j hj=>?_,a.out.trans Y⟩;by_cases e:j=k
       . subst e;exact r.out
       . exact O.out j Aa
      case measure=>simp[intOf];omega
    . have KN:=wN (KR.1 d)
      have r:=wN d;clear hx n V s t KR L d
      go_wp2_with (first
       |(with_reducible refine D0 rfl (.tmp 11) (.tmp 13) (.tmp 16) rfl b z 256 g rfl ((k:Int)*16) (((k:Int)+1)*16) rfl rfl (k*16) (k*16+16) 16 o.out A.out B.out D C E ?_)
       |(go_at_call 200;refine KN.out.mono ?_;rintro e M ⟨⟨i3,s3,rfl⟩,m⟩
         have f:=wN (m.trans ((AF M (Ay #[J Z i3,.string s3] 75)).mono m.size));have q:=wN (T.out.below f.out);have a:=wN (c.trans (f.out.mono c.size))))
      go_ret;exact⟨k,_,rfl,hk,O.out,fun _=>r.out,q.out.sl,a.out⟩
  . obtain rfl:k=16:=by omega
    go_wp2;go_ret;exact⟨16,_,rfl,AE _,O.out,fun h=>absurd h (Nat.lt_irrefl _),T.out.sl,c⟩
def qa(b:Ab)(w:U)(e:Ending)(w':U):Prop:=
 (∃ O,MH O b/\∃ u,e=Av (AT #[u,J Z 0])/\ESl w' u O/\AB w.heap.size w w')\/
 ((∀ O,¬ MH O b)/\e=Av (AT #[F H 0 0,J Z 18])/\AB w.heap.size w w')
def jf{w:U}(a:Option Addr)(len cap:Nat)(h:len≠256):AH X 137 #[F a len cap] w fun e w'=>e=Av (AT #[F H 0 0,J Z 18])/\w=w':=by
 have b:((len:Int) != 256)=AQ:=Ak;go_enter func137,ntmps137;go_wp2;go_ret2;exact⟨rfl,rfl⟩
def bz{O:List (Int × ByteArray)}{b:Ab}(h:MH O b):b.length=256:=by
 rw[<- h.2];exact N4 h.1
def kL{w:U}{v:I}{l:Ab}(L:BSl w v l)(R:l.length=256):AH X 137 #[v] w (qa l w):=by
 have KR:=wN (UV L R);obtain⟨b,a1,a0,rfl,CD,r⟩:=L.open' Aa;have V:=wN L;rw[R] at V KR |-
 have K:=(KR.out)
 have F:∀ (k:Nat) (u:I) (W:U),k<=16->(∀ j,j<k->T6 (Ev l j))->(k<16->¬ T6 (Ev l k))->ESl W u (Ge l k)->AB w.heap.size w W->
  ((∃ O,O=Ge l k/\MH O l/\AH X 101 #[u] W fun e p=>∃ h,e=Av (AT #[h,J Z 0])/\BSl p h l/\AB W.heap.size W p)\/
   ((∀ O,¬ MH O l)/\∃ (m:Ab) (E:Int),(E=1\/E=0/\m≠l)/\AH X 101 #[u] W fun e p=>∃ h,e=Av (AT #[h,J Z E])/\BSl p h m/\AB W.heap.size W p)):=by
  intro k u W C A B s r;cases t:Ka (Ge l k)
  . refine A8 ⟨fun O i=>?_,[],1,A4 rfl,(Mj s).mono ?_⟩
    . have:=Ky T6 (fun e=>Mo) JW C A B i
      rw[this,i.1] at t;cases t
    . rintro e p (⟨o,_⟩| ⟨_,he,r⟩)
      . rw[t] at o;cases o
      . exact⟨_,he,Le _,r⟩
  . by_cases he:JC (Ge l k)=l
    . refine A4 ⟨_,rfl,⟨t,he⟩,(Mj s).mono ?_⟩
      rintro e p (⟨_,h,Q,H,r⟩| ⟨o,_⟩)
      . refine⟨h,Q,?_,r⟩
        rw[he] at H;exact H.bsl
      . rw[t] at o;cases o
    . refine A8 ⟨fun O i=>?_,JC (Ge l k),0,A8 ⟨rfl,he⟩,(Mj s).mono ?_⟩
      . have:=Ky T6 (fun e=>Mo) JW C A B i
        rw[this] at he;exact he i.2
      . rintro e p (⟨_,h,Q,H,r⟩| ⟨o,_⟩)
        . exact⟨h,Q,H.bsl,r⟩
        . rw[t] at o;cases o
 have q:=wN F;clear L R K F;go_enter func137,ntmps137
 go_wp2_with (go_at_call 177;refine KR.out.mono ?_;rintro e w2 ⟨k,u,rfl,C,A,B,s,d⟩
              have P:=wN (q.out k u w2 C A B s d);have HU:=wN s;clear A B s C)
 have c:=wN d;have x:=wN (V.out.below d);rcases P.out with⟨O,i,n,y⟩| ⟨S,m,E,hE,y⟩
 . have M:=wN n
   have G:=wN y;have HO:=wN i;clear i n y d P q KR
   go_wp2_with (first
    |(go_at_call 101;refine G.out.mono ?_;rintro e Y ⟨u3,rfl,g,a⟩
      have z:=Ep g (x.out.below a);rw[AK (rfl:l=l)] at z;have f:=wN a)|(go_at_call 152;refine Ad z ?_;rintro w4 rfl))
   go_ret2;exact A4 ⟨O,M.out,_,rfl,by rw[HO.out];exact HU.out.below f.out,c.out.trans (f.out.mono c.out.size)⟩
 . have T:=wN S
   have G:=wN y;clear S y d P q KR;rcases hE with rfl| ⟨rfl,D⟩
   . go_wp2_with (go_at_call 101;refine G.out.mono ?_;rintro e Y ⟨u3,rfl,g,a⟩)
     go_ret2;exact A8 ⟨T.out,rfl,c.out.trans (a.mono c.out.size)⟩
   . have N:=wN D
     clear D
     go_wp2_with (first
      |(go_at_call 101;refine G.out.mono ?_;rintro e Y ⟨u3,rfl,g,a⟩
        have z:=Ep g (x.out.below a);rw[AM N.out] at z;have f:=wN a)|(go_at_call 152;refine Ad z ?_;rintro w4 rfl))
     go_ret2;exact A8 ⟨T.out,rfl,c.out.trans (f.out.mono c.out.size)⟩
def jR{w:U}{v:I}{l:Ab}(b:BSl w v l):AH X 137 #[v] w (qa l w):=by
 by_cases h:l.length=256
 . exact kL b h
 . obtain⟨c,a,rfl,_⟩:=b.shape
   exact(jf c _ a h).mono fun e g ⟨he,f⟩=>A8 ⟨fun O d=>h (bz d),he,by rw[<- f];exact AP _ _⟩
end
section
open Go.RowKit BM
def El(l:Ab)(j:Nat):Ab:=(l.drop (256*j)).take 256
def I3(l:Ab)(j:Nat):(El l j).length=min 256 (l.length-256*j):=by unfold El;rw[AV,By]
def WE(l:Ab)(j:Nat):Ab:=El l j ++ AI (256-(El l j).length) 0
def My(l:Ab)(j:Nat):(WE l j).length=256:=by
 unfold WE;rw[AO,Bg,I3];omega
def GoodB(l:Ab)(j:Nat)(O:List (Int × ByteArray)):Prop:=MH O (WE l j)/\O.length=(El l j).length / 16
def Sa(l:Ab):∀ k,(BE k).flatMap (El l)=l.take (256*k)
 |0=>Ai
 |k+1=>by
  rw[GW,DY,Sa l k,List.flatMap_singleton,show 256*(k+1)=256*k+256 from Aa,List.take_add];rfl
def GoodB.dir{l:Ab}{j:Nat}{O:List (Int × ByteArray)}(h:GoodB l j O)(f:(El l j).length%16=0):FrmL O/\Fl O=El l j:=by
 obtain⟨⟨a,b⟩,c⟩:=h;have d:=(Hu a).2;refine⟨d,?_⟩;have g:=E8 d;have e:Fl O ++ AI (256-16*O.length) 0=El l j ++ AI (256-(El l j).length) 0:=b;exact(List.append_inj e Aa).1
def mM{l:Ab}{O:List (Int × ByteArray)}(hf:FrmL O)(h:Fl O=l)(j:Nat):GoodB l j ((O.drop (16*j)).take 16):=by
 have f:=E8 hf;have a:FrmL (O.drop (16*j)):=fun e he=>hf e (List.mem_of_mem_drop he)
 have d:Fl ((O.drop (16*j)).take 16)=El l j:=by
  unfold El;rw[<- h];by_cases c:16*j<=O.length
  . rw[show 256*j=16*(16*j) from Aa,ea O hf _ c]
    by_cases g:16<=(O.drop (16*j)).length
    . rw[show(256:Nat)=16*16 from rfl,eH _ a 16 g]
    . have:=E8 a
      rw[A2 (l:=O.drop (16*j)) Aa,A2 Aa]
  . rw[GR (l:=O) Aa,GR (l:=Fl O) Aa];rfl
 have b:(El l j).length=16*((O.drop (16*j)).take 16).length:=by rw[<- d];exact E8 (a.take 16)
 refine⟨⟨Pa (by rw[AV];omega) (a.take 16),?_⟩,by rw[b];omega⟩;unfold WE;rw[b,<- d];rfl
def PartsD(l:Ab)(a:List Nat)(E:List (Int × ByteArray)):Prop:=FrmL E/\Fl E=a.flatMap (El l)
def PartsD.nil(l:Ab):PartsD l [] []:=⟨fun x a=>(by cases a),rfl⟩
def PartsD.more{l:Ab}{c:List Nat}{E O:List (Int × ByteArray)}{j:Nat}(h:PartsD l c E)(k:GoodB l j O)(d:(El l j).length%16=0):PartsD l (c ++ [j]) (E ++ O):=by
 obtain⟨a,b⟩:=k.dir d;refine⟨fun e he=>(BU.1 he).elim (h.1 e) (a e),?_⟩;rw[Ir,h.2,b,DY,List.flatMap_singleton]
def PartsD.all{l:Ab}{k:Nat}{E:List (Int × ByteArray)}(h:PartsD l (BE k) E)(a:l.length<=256*k):FrmL E/\Fl E=l:=by
 refine⟨h.1,?_⟩;rw[h.2,Sa,A2 a]
def LO(w:U){n:Array BK}{rest:List BK}{o:BK}{a:Act}{Q:Exit->Act->U->Prop}(R:o.guard=H)(S T:Cn)(s y:Operand)
 (F:o.op=.call { callee:=.builtin .append,args:=#[s,y],argTypes:=#[S,S] })
 (hu:X.underlying S=G (.slice T)) (hi:(X.info? T).map (fun i=>(i.zero,i.size,i.bytes))=G (G (BS #[J Z 0,.string ByteArray.empty]),2,24))
 (B:Nat) (v u:I) (E O:List (Int × ByteArray)) (hs:a.eval s=v) (c:ER w B T v E) (hE:E.length<=1000000) (hO:O.length<=1000000) (C:0<O.length) (hy:a.eval y=u) (K:ESl w u O) (hB:B<=w.heap.size)
 (h:∀ v' w',ER w' B T v' (E ++ O)->AB B w w'->KeepsOthers w w'->Cj X n Q rest (a.put o.dst v') w'):Cj X n Q (o :: rest) a w:=by
 obtain⟨t,Y,h3,h4,h5⟩:=Bs hi;obtain⟨ao,q,rfl,hc⟩:=K.open';obtain⟨b,f,rfl,a0,P⟩:=hc C;refine FU _ R s y S F B T t _ 2 24 hu Y h3 h4 h5 rfl Af v E.length _ hs c ⟨b,f,H⟩ O.length q (JB O) hy (Fb O) ?_ ?_ (by simp only[maxLen];omega) Aa Aa fun v' w' h6 A _=>?_
 . intro m x D
   have a1:m<O.length*2:=(by rw[<- Fb];exact(Bo.1 D).1);have p:=JS O (m / 2) Aa;have d:=P (m / 2) Aa;rw[Cd];rcases Fu m with e|e
   . have l:m / 2*2=m:=by omega
     rw[l] at p d;rw[d.1,<- p.1,D]
   . have l:m / 2*2+1=m:=by omega
     have W:f+m / 2*2+1=f+m:=Aa;rw[l] at p;rw[W] at d;rw[d.2,<- p.2,D]
 . intro x M
   unfold JB at M;obtain⟨z,_,N⟩:=List.mem_flatMap.1 M;simp[cE] at N;rcases N with rfl|rfl <;> rfl
 . refine h v' w' ?_ ((AP _ _).grown A hB fun k j=>(BY c k j).1) ⟨A.size,fun k o j F=>(A.block k (Au.1 j).1 fun e=>?_).trans j⟩
   rotate_left
   . rcases c.2 with⟨l,_⟩| ⟨g,L,V,hv,W8,hh,r⟩
     . rw[l] at e;cases e
     . rw[hv] at e
       cases e
       rw[hh] at j;cases j
       cases F
   show w'.ownsRow B T 2 v' (E ++ O).length (JB (E ++ O))
   rw[AO,Il];exact h6
def wD(a b:ByteArray):Prop:=a.data.toList<b.data.toList
instance (a b:ByteArray):Decidable (wD a b):=by unfold wD;infer_instance
abbrev Hg:=Int × ByteArray
def wG(x y:Hg):Prop:=¬ wD y.2 x.2
instance (x y:Hg):Decidable (wG x y):=by unfold wG;infer_instance
def RwE(w:U)(g C:Nat)(D:List Hg):Prop:=∃ a:Array I,w.heap[g]? =G (Ay a 75 (0,0))/\a.size=C/\a.toList.take (D.length*2)=JB D/\D.length*2<=C
section
variable {w w':U}{g C:Nat}{D:List Hg}
def RwE.keep(h:RwE w g C D)(e:w'.heap[g]? =w.heap[g]?):RwE w' g C D:=by
 obtain⟨b,a,r⟩:=h;exact⟨b,e.trans a,r⟩
def RwE.lt(h:RwE w g C D):g<w.heap.size:=by
 obtain⟨b,a,r⟩:=h;exact(Au.1 a).1
def RwE.below(h:RwE w g C D)(hb:AB w.heap.size w w'):RwE w' g C D:=h.keep (hb.block g h.lt)
def RwE.cells(h:RwE w g C D){j:Nat}(l:j<D.length):w.cell? ⟨g,j*2,H⟩=G (J Z (D.getD j default).1)/\w.cell? ⟨g,j*2+1,H⟩=G (.string (D.getD j default).2):=by
 obtain⟨k,a,b,c,d⟩:=h;obtain⟨f,i⟩:=JS D j l;rw[<- c,Bb] at f i;rw[AG Aa] at f i;rw[AD _ _ _ _ _ _ a,AD _ _ _ _ _ _ a];exact⟨by simpa using f,by simpa using i⟩
end
def F7(Y:List Hg){k:Nat}(h:k<Y.length):Y.getD k default=Y[k]:=by rw[Az,AX h];rfl
end
section
open Go.RowKit
def UZ(b off N cap:Nat)(h:16<=cap)(W:U):(Instr.slice 77 (F (G ⟨b,off,H⟩) N cap) H (G (J Z 16)) H).run X W=.ok (F (G ⟨b,off,H⟩) 16 cap) W:=by
 obtain⟨i,d,j,f,k⟩:=Bs IA;have c:X.elem 77=5:=Ac;have g:(sizeOf 5).run X W=.ok 1 W:=by simp[sizeOf,typeInfo,d,f]
 rw[run_slice_h W 77 _ N cap (by rw[c];exact underlying77) Z 16 Aa Aa,c,g];have a:cap≠0:=Aa;simp[sliced,a,Cd]
def Rh(m:Nat):Builtin.zeroCells (I.string ByteArray.empty).cells m=AW m (.string ByteArray.empty):=by
 apply Array.ext
 . simp[Builtin.zeroCells,I.cells]
 . intro j a b
   simp[Builtin.zeroCells,I.cells,Nat.mod_one]
def SZ(w:U)(p:Cn)(m:Nat)(q:1<=m)(r:m<=1000):∃ C w',(Builtin.append_ #[23,3] p #[F H 0 0,J Z m]).run X w=.ok (F (G ⟨w.heap.size,0,H⟩) m C) w'/\TR w' w.heap.size (F (G ⟨w.heap.size,0,H⟩) 0 C) []/\m<=C/\AB w.heap.size w w':=by
 obtain⟨i,h,j,k,l⟩:=Bs Im;have c:Z.wrap (m:Int)=m:=by rw[IntKind.wrap_i64];omega
 have d:¬ (m:Int)<0:=Aa;have o:¬ 281474976710656<(m:Int)*16:=Aa;have n:m≠0:=Aa;have b:=grownCap_ge w m 0 9;have g:grownCap w m 0 9<=maxLen:=grownCap_le_maxLen w m 0 9 (by simp only[maxLen];omega);have f:¬ (281474976710656<Builtin.nextslicecap m 0*16):=by rw[nextslicecap_zero Aa];omega
 have a:¬ 9223372036854775807<(m:Int):=Aa;refine⟨grownCap w m 0 9,w.drew.alloc (Ay (AW m (.string ByteArray.empty) ++ AW (grownCap w m 0 9-m) (.string ByteArray.empty)) 9),?_,⟨rfl,A8 ⟨w.heap.size,_,_,rfl,AE _,AC w.drew _,A7 _,g,?_,Ai⟩⟩,b,?_⟩
 . simp[Builtin.append_,Ck underlying23,Ck underlying3,sizeOf,typeInfo,zeroValue,h,j,k,l,asInt,asIntOf,c,d,o,n,a,f,Question.forced,run_firstCells_none,newRow,grownCap]
   simp[Rh]
 . simp;omega
 . exact(Bd (AP _ w) 1).trans (AF w.drew _)
def iD(W:U)(b m C:Nat)(j:1<=C):(Instr.slice 23 (F (G ⟨b,0,H⟩) m C) H (G (J Z 0)) H).run X W=.ok (F (G ⟨b,0,H⟩) 0 C) W:=by
 obtain⟨t,d,h,f,i⟩:=Bs Im;have c:X.elem 23=9:=Ac;have g:(sizeOf 9).run X W=.ok 1 W:=by simp[sizeOf,typeInfo,d,f]
 rw[run_slice_h W 23 _ m C (by rw[c];exact underlying23) Z 0 Aa Aa,c,g];have a:C≠0:=Aa;simp[sliced,a,Cd]
def iF(W:U):(Instr.slice 23 (F H 0 0) H (G (J Z 0)) H).run X W=.ok (F H 0 0) W:=by
 obtain⟨t,b,f,c,g⟩:=Bs Im;have a:X.elem 23=9:=Ac;have d:(sizeOf 9).run X W=.ok 1 W:=by simp[sizeOf,typeInfo,b,c]
 rw[run_slice_h W 23 _ 0 0 (by rw[a];exact underlying23) Z 0 Aa Aa,a,d];simp[sliced]
def OL(w:U){b:Array BK}{rest:List BK}{o:BK}{a:Act}{Q:Exit->Act->U->Prop}(c:o.guard=H)(s y:Operand)(l:o.op=.call { callee:=.builtin .append,args:=#[s,y],argTypes:=#[23,3] })
 (p:a.eval s=F H 0 0) (m:Nat) (q:a.eval y=J Z m) (i:1<=m) (j:m<=1000)
 (h:∀ C w',TR w' w.heap.size (F (G ⟨w.heap.size,0,H⟩) 0 C) []->m<=C->AB w.heap.size w w'->Cj X b Q rest (a.put o.dst (F (G ⟨w.heap.size,0,H⟩) m C)) w'):Cj X b Q (o :: rest) a w:=by
 obtain⟨C,w',n,d,f,g⟩:=SZ w o.type m i j;refine CH c fun K k=>?_
 unfold BK.wp execOp;simp only[l,resolve,invoke,builtin,Dm,Sem.run_pure,Result.andThen_ok,Fe,DT,II,p,q,n];exact k _ _ (h C w' d f g)
def XT(w:U)(n:Nat)(k:n<=1000):AH X 204 #[F H 0 0,J Z n] w fun e w'=>∃ v,e=Av v/\TR w' w.heap.size v []/\AB w.heap.size w w':=by
 have o:=fun W=>iF W
 by_cases d:n=0
 . subst d
   go_enter func204,ntmps204;go_wp2;go_ret;exact⟨_,rfl,XH _ _,AP _ _⟩
 . have p:(0:Int)<(n:Int):=by omega
   have m:(n:Int)<=1000:=Aa;have g:1<=n:=Aa;have h:=wN k;have c:=fun W C (f:1<=C)=>iD W w.heap.size n C f
   have a:=wN c;clear d c;go_enter func204,ntmps204;go_wp2_with (refine OL w rfl _ _ rfl rfl n rfl g h.out ?_;intro C q b f j;have l:=fun W=>a.out W C Aa;have i:=wN b)
   go_ret;exact⟨_,rfl,i.out,j⟩
def TF{w:U}{g:Nat}{vA vB:I}{A B:List ByteArray}(s:w.cell? ⟨g,0,H⟩=G vA)(y:w.cell? ⟨g,1,H⟩=G vB)(z:TSl w vA A)(D:TSl w vB B)(C:A.length<=100)(E:B.length<=100):
 AH X 182 #[F (G ⟨g,0,H⟩) 2 2] w fun e w'=>∃ v,e=Av v/\TR w' w.heap.size v (A ++ B)/\AB w.heap.size w w':=by
 obtain⟨T,Y,rfl,_⟩:=id z;obtain⟨V,cb,rfl,_⟩:=id D;obtain⟨f,l⟩:=nm A.length;obtain⟨m,x⟩:=nm B.length;have S:Hid (∀ W,AH X 204 #[F H 0 0,J Z ((f:Int)+(m:Int))] W fun e w'=>∃ v,e=Av v/\TR w' W.heap.size v []/\AB W.heap.size W w'):=wN (fun W=>by have:=XT W (f+m) Aa;rwa [Int.natCast_add] at this);have O:=wN z;have P:=wN D;have R:=wN (And.intro l x);rw[<- l] at s O C;rw[<- x] at y P E;have t:g<w.heap.size:=U.block_lt_of_cell? w ⟨g,0,H⟩ s;clear z D l x;have e1:Z.wrap ((f:Int)+(m:Int))=(f:Int)+(m:Int):=Bz _ Aa;have e2:Z.wrap ((f:Int))=(f:Int):=Bz _ Aa;go_enter func182,ntmps182;go_wp2;go_loopw [3,11] (fun M c wr=>w=wr/\((c=J Z 0/\M=J Z 0)\/(c=J Z 1/\M=J Z f)\/(c=J Z 2/\M=J Z ((f:Int)+(m:Int))))) (fun _ c _=>2-(intOf c).toNat)
 case atStart=>exact⟨rfl,A4 ⟨rfl,rfl⟩⟩
 case round=>
  obtain⟨rfl,⟨rfl,rfl⟩| ⟨rfl,rfl⟩| ⟨rfl,rfl⟩⟩:=hrel
  . go_wp2
    go_roundw
    case rel=>exact⟨by trivial,A8 (A4 ⟨by go_num,by go_num⟩)⟩
    case measure=>simp[intOf]
  . have hp:¬ (f:Int)+(m:Int)<0:=by omega
    go_wp2;go_roundw
    case rel=>exact⟨by trivial,A8 (A8 ⟨by go_num,by go_num⟩)⟩
    case measure=>simp[intOf]
  . go_wp2_with (go_at_call 204;(with_reducible refine(S.out _).mono ?_);rintro e w2 ⟨v0,rfl,r,i⟩)
    have h:=wN i;have o:=wN r;have K:=(i.cell (p:=⟨g,0,H⟩) t).trans s;have L:=(i.cell (p:=⟨g,1,H⟩) t).trans y;have Q:=wN (And.intro K L);clear r i S K L;go_loopw [6,27] (fun N d wr=>Hid (AB w.heap.size w wr)/\((d=J Z 0/\Hid (TR wr w.heap.size N []))\/(d=J Z 1/\Hid (TR wr w.heap.size N A))\/(d=J Z 2/\Hid (TR wr w.heap.size N (A ++ B))))) (fun _ d _=>2-(intOf d).toNat)
    case atStart=>exact⟨h,A4 ⟨rfl,o⟩⟩
    case round=>
     obtain⟨a,⟨rfl,n⟩| ⟨rfl,n⟩| ⟨rfl,n⟩⟩:=hrel
     . have K:=(a.out.cell (p:=⟨g,0,H⟩) t).trans s
       have u:Hid (TSl wr (F T f Y) A):=wN (O.out.below a.out);clear Q h o;go_wp2_with (refine C9 wr rfl _ _ rfl w.heap.size _ _ [] A rfl n.out (by have:=R.out;simp;omega) rfl u.out a.out.size ?_;intro v3 w3 q b;have k:=wN q;have j:=wN b;clear q b)
       go_roundw
       case rel=>exact⟨wN (a.out.trans j.out),A8 (A4 ⟨by go_num,k⟩)⟩
       case measure=>simp[intOf]
     . have L:=(a.out.cell (p:=⟨g,1,H⟩) t).trans y
       have h:Hid (TSl wr (F V m cb) B):=wN (P.out.below a.out);clear Q;go_wp2_with (refine C9 wr rfl _ _ rfl w.heap.size _ _ A B rfl n.out (by have:=R.out;omega) rfl h.out a.out.size ?_;intro v3 w3 q b;have k:=wN q;have j:=wN b;clear q b)
       go_roundw
       case rel=>exact⟨wN (a.out.trans j.out),A8 (A8 ⟨by go_num,k⟩)⟩
       case measure=>simp[intOf]
     . go_wp2
       go_ret;exact⟨_,rfl,n.out,a.out⟩
end
section
open Go.RowKit Go.ChangeShapes Go.WideShapes
def RA:X.cellsOf 3=1:=Ac
def So:X.cellsOf 9=1:=Ac
end
end Go.Proofs.YtfpdajplfmakhaaGreatDoor
