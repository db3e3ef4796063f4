/- What the law rests on. -/
import Derived.Test.YtfpdajplfmakhaaGreatDoorQD12
open Go.Value renaming int->Y,slice->Aw,pointer->Ax,tuple->AT
open Go.IntKind renaming i64->J
open Go.Proofs.Tryz renaming prog->U
open Option renaming none->E,some->D
open Go renaming World->H,Value->I,Calls->AH,Oper->BK,strOfNums->Z,wpList->Cj
open Go.Ending renaming returned->Av
open Go.Obj renaming cells->X
open Go.RowKit renaming Below->G
open Bool renaming false->S,true->AQ
open Or renaming inl->A4,inr->R
open Go.Proofs.Tryz
namespace Go.Proofs.YtfpdajplfmakhaaGreatDoor
set_option linter.defProp false
set_option maxHeartbeats 12000000
set_option linter.unusedVariables false
set_option maxRecDepth 100000
section
open Go.RowKit
def YV{l:Ab}(h:Fv l):Ey (Z l)=l:=by
 unfold Ey;rw[strOfNums_data,List.map_map]
 conv=>rhs;rw[<- List.map_id l]
 apply Cr;intro x a;have:=Da h x a;simp;omega
end
section
open Go.RowKit BM
section
variable {kl:I × I × (I->Prop)}{w:H}{bn bp sz:Nat}{M:Nat->Option Ab}
def YT(h:NodeB kl w bn bp sz M){a m:Nat}(ha:(a:Int)<=9223372036854775807)(hm:(m:Int)<=9223372036854775807):
 AH U 62 #[Ax (D ⟨bn,0,E⟩),Y J a,Y J m] w fun e w'=>∃ v,e=Av (AT #[v,Y J 0])/\OB w' w.heap.size v (JI M a (min m (sz-a)))/\G w.heap.size w w':=by
 have lM:=h.sb;have C:=wN h.ok;obtain⟨K,z⟩:=nm (min m (sz-a));rw[<- z];have KB:=wN (fun(V:H) (R:G w.heap.size w V) i (hi:i<138)=>N6 (h.low R) hi);have P:=wN (fun(V:H) (R:G w.heap.size w V)=>(h.low R).c2);have e1:(0:Int)<=(a:Int):=Aa;have e2:(0:Int)<=(m:Int):=Aa;have HK:=wN z;have HA:=wN ha;have HM:=wN hm;clear h z ha hm;go_enter func62,ntmps62;go_wp2;go_loopw [1,2,8] (fun x y o wr=>G w.heap.size w wr/\∃ d:Nat,d<=K/\x=Y J ((a+d:Nat):Int)/\y=Y J ((m-d:Nat):Int)/\OB wr w.heap.size o (JI M a d)) (fun _ y _ _=>(intOf y).toNat)
 case atStart=>exact⟨AP _ _,0,A7 _,by go_num,by go_num,EX,Dt _ _ _ _⟩
 case round=>
  obtain⟨A,d,hd,rfl,rfl,ho⟩:=hrel;have z:=HK.out;have c2:=P.out wr A;by_cases a0:d<K
  . obtain⟨s,hs⟩:=nm (a+d)
    obtain⟨r,hr⟩:=nm (m-d);obtain⟨t,ht⟩:=nm (sz-s);obtain⟨q,hq⟩:=nm (s / 256);obtain⟨f,hf⟩:=nm (s%256);have a7:f<256:=Aa;obtain⟨c,hc⟩:=nm (256-f);obtain⟨p,hp⟩:=nm (min c (min t r));have a4:∀ (W:H) ts tt,(Builtin.min_ ts tt #[Y J (c:Int),Y J (t:Int),Y J (r:Int)]).run U W=.ok (Y J (p:Int)) W:=fun W ts tt=>by
     rw[run_min_int3];congr 2;rw[hp];split <;> split at* <;> omega
    have a3:(r:Int)<=9223372036854775807:=(by have:=HM.out;omega);have g1:(s:Int)<sz:=Aa;have g2:(0:Int)<(r:Int):=Aa;have q1:((s:Int)).tdiv 256=q:=(by rw[Int.tdiv_eq_ediv_of_nonneg Aa,hq];omega);have q2:((s:Int)).tmod 256=f:=(by rw[DW Aa,hf];omega);have q3:J.wrap (256-(f:Int))=(c:Int):=(by rw[Bz _ Aa];omega);have q4:J.wrap ((sz:Int)-(s:Int))=(t:Int):=(by rw[Bz _ Aa];omega);have q5:J.wrap ((f:Int)+(p:Int))=((f+p:Nat):Int):=(by rw[Bz _ Aa];omega);have q6:J.wrap ((s:Int)+(p:Int))=((s+p:Nat):Int):=(by rw[Bz _ Aa];omega);have q7:J.wrap ((r:Int)-(p:Int))=((r-p:Nat):Int):=(by rw[Bz _ Aa];omega);have N:Hid (wrap64 (q:Int)=(q:Int)):=wN (by unfold wrap64;omega);have O:=wN (KB.out wr A q Aa);have j:=(C.out).blk q;have a2:f+p<=(Fz M q).length:=(by rw[j.1];omega);have l:(Z (Fz M q)).extract f (f+p)=Z (((Fz M q).drop f).take p):=(by rw[Hf,show f+p-f=p from Aa]);have qE:JI M a (d+p)=JI M a d ++ ((Fz M q).drop f).take p:=(by rw[Uy,<- hs,Rx C.out (n:=p) (a:=s) (i:=q) (o:=f) Aa Aa]);have k:Fv (((Fz M q).drop f).take p):=En (L8 j.2 f) p;have mi:(((Fz M q).drop f).take p).length=p:=Ak;have HB:=wN k;have b:=wN qE;have qk:(JI M a d).length=d:=FJ M a d;have a5:=wN qk;have a6:=wN mi;generalize Fz M q=B at*
    generalize ((B.drop f).take p)=T at*
    have HP:=wN hp;have u:Hid (d+p<=K/\0<p/\p<=256/\s=a+d/\r=m-d/\d<K/\K<=35328/\p<=r):=wN Aa;have HT:=wN ht;have L:Hid ((JI M a d).length+((Z B).extract f (f+p)).size<=1000000):=wN (by rw[l,strOfNums_size,qk,mi];omega);have I:Hid (Ey ((Z B).extract f (f+p))=T):=wN (by rw[l,YV k]);have g3:f+p<=(Z B).size:=(by rw[strOfNums_size];omega);have g4:((f+p:Nat):Int)<=((Z B).size:Int):=Aa;have g5:(f:Int)<=((f+p:Nat):Int):=Aa;have g6:(f:Int)+(p:Int)<=((Z B).size:Int):=Aa;clear l a3 hc hs hr ht hq hf hp z j a2 qE k mi a0 qk hd;rw[<- (show s=a+d from u.out.2.2.2.1),<- (show r=m-d from u.out.2.2.2.2.1)];have q8:=N.out
    go_wp2_with (first
     |(go_at_call 55;(with_reducible refine Ad O.out ?_)
       rintro w3 F;have a1:=ho.below F;have g:=A.trans (F.mono A.size);replace c2:=P.out w3 g)
     |(at_builtin
       refine Iv w3 rfl (.tmp 42) (.tmp 50) rfl w.heap.size _ (JI M a d) rfl a1 ((Z B).extract f (f+p)) rfl L.out g.size ?_;intro v5 w5 vy S;rw[I.out,<- b.out] at vy;have X:=g.trans S))
    go_roundw
    case rel=>exact⟨X,d+p,u.out.1,by clear q8;have:=u.out;go_num,by clear q8;have:=u.out;go_num,vy⟩
    case measure=>clear q8;have:=u.out;simp[intOf];omega
  . obtain rfl:d=K:=by omega
    have Q:((a+d:Nat):Int)<sz->((m-d:Nat):Int)<=0:=fun _=>Aa
    clear z HK HA HM KB P;by_cases hc:((a+d:Nat):Int)<sz
    . have h1:¬ ((0:Int)<((m-d:Nat):Int)):=by have:=Q hc;omega
      clear Q;generalize ((a+d:Nat):Int)=s at*
      generalize ((m-d:Nat):Int)=r at*
      go_wp2;go_ret2;exact⟨_,rfl,ho,A⟩
    . clear Q
      generalize ((a+d:Nat):Int)=s at*
      generalize ((m-d:Nat):Int)=r at*
      go_wp2;go_ret2;exact⟨_,rfl,ho,A⟩
end
end
section
open Go.RowKit
def IS(w1:H)(n:ByteArray){d:Array BK}{rest:List BK}{o:BK}{a:Act}{Q:Exit->Act->H->Prop}(j:o.guard=E)(s y:Operand)
 (J:o.op=.call { callee:=.builtin .append,args:=#[s,y],argTypes:=#[23,23] })
 (B:Nat) (v:I) (O:List ByteArray) (K:a.eval s=v) (c:TR w1 B v O) (M:O.length<=1000000) (L:a.eval y=Aw (D ⟨w1.heap.size,0,E⟩) 1 1) (A:B<=w1.heap.size)
 (h:∀ v' w',TR w' B v' (O ++ [n])->G B w1 w'->Cj U d Q rest (a.put o.dst v') w'):Cj U d Q (o :: rest) a (w1.alloc (X #[.string n] 9)):=by
 obtain⟨t,p,q,r,w⟩:=Bs Im;have b:G w1.heap.size w1 (w1.alloc (X #[.string n] 9)):=AF _ _;have l:(w1.alloc (X #[.string n] 9)).heap[w1.heap.size]? =D (X #[.string n] 9 (0,0)):=AC w1 _;have f:=c.below b;refine FU _ j s y 23 J B 9 t _ 1 16 underlying23 p q r w rfl Af v O.length _ K f ⟨w1.heap.size,0,E⟩ 1 1 [.string n] L rfl ?_ ?_ (by simp only[maxLen];omega) Aa Ak fun v' w' x z _=>?_
 . intro m u g
   have F:m<1:=by simpa using (Bo.1 g).1
   obtain rfl:m=0:=Aa;rw[Cd,AD _ _ _ _ _ _ l,<- g];rfl
 . intro u i
   simp at i;rw[i];rfl
 . refine h v' w' ?_ ((b.mono A).trans ((AP _ _).grown z Ak fun k C=>(BY f k C).1))
   show w'.ownsRow B 9 1 v' (O ++ [n]).length ((O ++ [n]).map .string)
   rw[AO,Cw];exact x
def Px(w:H):TR (w.alloc (X #[] 9)) w.heap.size (Aw (D ⟨w.heap.size,0,E⟩) 0 0) []:=
 ⟨rfl,R ⟨w.heap.size,0,#[],rfl,AE _,AC w _,AE _,Af,rfl,rfl⟩⟩
structure Spl (s:ByteArray) (k:Nat) (O:List ByteArray) (p:ByteArray):Prop where
 pt:BX s=O ++ if k<=s.size then (Un (s.data.toList.drop k) p.data.toList).map b_ else []
 nz:∀ b∈s.data.toList.take k,b≠0
 ln:∀ q∈O,q.size<=13
 ct:O.length<=k
 ps:p.size<=k
section
variable {s p:ByteArray}{k:Nat}{O:List ByteArray}
def fR(s:ByteArray):Spl s 0 [] ⟨#[]⟩:=⟨by rw[AG (A7 _)];rfl,fun b a=>(by rw[List.take_zero] at a;cases a),fun q c=>(by cases c),AE _,AE _⟩
def h_(a:k<s.size):s.data.toList.take (k+1)=s.data.toList.take k ++ [s[k]]:=by
 rw[BI (by rw[GH];exact a)];rfl
def pL(p:ByteArray)(a:k<s.size):(p ++ s.extract k (k+1)).data.toList=p.data.toList ++ [s[k]]:=by
 rw[ByteArray.data_append,Array.toList_append,Lib.extract_data,Pr a,Nat.add_sub_cancel_left];rfl
def Spl.byte(h:Spl s k O p)(c:k<s.size)(f:s[k]≠47)(d:s[k]≠0):Spl s (k+1) O (p ++ s.extract k (k+1)):=by
 refine⟨?_,?_,h.ln,Nat.le_succ_of_le h.ct,?_⟩
 . rw[h.pt,AG Aa,AG Aa,Pr c,pL p c,Un,AJ f]
 . rw[h_ c]
   intro b a;rcases BU.1 a with a|a
   . exact h.nz b a
   . rw[BN.1 a];exact d
 . have:=BF List.length (pL p c)
   rw[AO,GH,GH] at this;have:=h.ps;simp at*
   omega
def Spl.zero(b:k<s.size)(a:s[k]=0):¬ OkP s:=fun h=>h.nz 0 (by rw[<- a];exact List.mem_of_getElem? (i:=k) (by rw[AX (by rw[GH];exact b)];rfl)) rfl
def Z8{r:List UInt8}(a:p.data.toList≠[])(he:∀ b l,r=b :: l->b=47):Un r p.data.toList=p.data.toList :: (Un (r.drop 1) []):=by
 cases r with
 |nil=>rw[Un,AJ a];rfl
 |cons b l=>rw[Un,AG (he b l rfl),AJ a];rfl
def kz{r:List UInt8}(he:∀ b l,r=b :: l->b=47):Un r []=Un (r.drop 1) []:=by
 cases r with
 |nil=>rfl
 |cons b l=>rw[Un,AG (he b l rfl),AG rfl];rfl
def Spl.end_(c:k<=s.size)(a:∀ (h:k<s.size),s[k]=47):∀ b l,s.data.toList.drop k=b :: l->b=47:=by
 intro b l e;by_cases h:k<s.size
 . rw[Pr h] at e
   injection e with e _
   rw[<- e];exact a h
 . rw[GR (by rw[GH];omega)] at e;cases e
def Spl.long(h:Spl s k O p)(b:k<=s.size)(d:∀ (h:k<s.size),s[k]=47)(hp:13<p.size):¬ OkP s:=fun c=>by
 have a:=h.pt;rw[AG b,Z8 (fun e=>by rw[p_nil] at e;omega) (Spl.end_ b d)] at a;have:=c.ln p (by rw[a,DT,QT];exact Cz _ CO);omega
def Spl.nz1(h:Spl s k O p)(d:∀ (h:k<s.size),s[k]=47):∀ b∈s.data.toList.take (k+1),b≠0:=by
 intro b a;by_cases c:k<s.size
 . rw[h_ c] at a
   rcases BU.1 a with a|a
   . exact h.nz b a
   . rw[BN.1 a,d c];decide
 . rw[A2 (by rw[GH];omega)] at a
   exact h.nz b (by rw[A2 (by rw[GH];omega)];exact a)
def UP(k:Nat):(Un ((s.data.toList.drop k).drop 1) []).map b_=if k+1<=s.size then (Un (s.data.toList.drop (k+1)) (⟨#[]⟩:ByteArray).data.toList).map b_ else []:=by
 rw[List.drop_drop];split
 . rfl
 . rw[GR (by rw[GH];omega)];rfl
def Spl.part(h:Spl s k O p)(b:k<=s.size)(c:∀ (h:k<s.size),s[k]=47)(hp:p.size<=13)(d:p.size≠0):Spl s (k+1) (O ++ [p]) ⟨#[]⟩:=by
 refine⟨?_,h.nz1 c,fun q a=>?_,by rw[AO,List.length_singleton];have:=h.ct;omega,A7 _⟩
 . rw[h.pt,AG b,Z8 (fun e=>d (p_nil.1 e)) (Spl.end_ b c),DT,QT,UP,Bj]
   rfl
 . rcases BU.1 a with a|a
   . exact h.ln q a
   . rw[BN.1 a];exact hp
def Spl.none(h:Spl s k O p)(a:k<=s.size)(b:∀ (h:k<s.size),s[k]=47)(c:p.size=0):Spl s (k+1) O ⟨#[]⟩:=by
 refine⟨?_,h.nz1 b,h.ln,Nat.le_succ_of_le h.ct,A7 _⟩;rw[h.pt,AG a,p_nil.2 c,kz (Spl.end_ a b),UP]
def Spl.fin(h:Spl s (s.size+1) O p)(f:s.size<=200):BX s=O/\(OkP s ↔ O.length<=20):=by
 have e:=h.pt;rw[AJ Aa,Cc] at e;refine⟨e,fun a=>by rw[<- e];exact a.ct,fun c=>⟨f,fun b d=>h.nz b (by rw[A2 (by rw[GH];omega)];exact d),by rw[e];exact h.ln,by rw[e];exact c⟩⟩
end
def m4(W:H)(s:ByteArray)(k:Nat)(y:Int)(a:y=(k:Int)+1)(b:k<s.size):(Instr.slice 9 (.string s) (D (Y J (k:Int))) (D (Y J y)) E).run U W=.ok (.string (s.extract k (k+1))) W:=by
 subst a;rw[run_slice_string_if W 9 _ _ _ _ _ underlying9,AG ⟨Aa,Aa⟩,AG ⟨Aa,Aa⟩];rfl
def LX(s:ByteArray)(w:H):AH U 18 #[.string s] w (Yl s w):=by
 unfold Yl;by_cases B:s.size<=200
 . have g2:¬ (200:Int)<(s.size:Int):=by omega
   have H2:=wN B;have C:=wN (fun k O (p:ByteArray) (h:Spl s k O p) (g:k<s.size) (l:((s[k].toNat:Int)==47)=S) (f:((s[k].toNat:Int)==0)=S)=>h.byte g (fun e=>by rw[b47.2 e] at l;cases l) (fun e=>by rw[b0.2 e] at f;cases f));have HZ:=wN (fun k (g:k<s.size) (f:((s[k].toNat:Int)==0)=AQ)=>Spl.zero g (b0.1 f));have E:=wN (fun k O (p:ByteArray) (h:Spl s k O p) (g:k<=s.size) (u:∀ (h:k<s.size),s[k]=47) (Q:13<p.size)=>h.long g u Q);have I:=wN (fun k O (p:ByteArray) (h:Spl s k O p) (g:k<=s.size) (u:∀ (h:k<s.size),s[k]=47) (Q:p.size<=13) (f:p.size≠0)=>h.part g u Q f);have F:=wN (fun k O (p:ByteArray) (h:Spl s k O p) (g:k<=s.size) (u:∀ (h:k<s.size),s[k]=47) (f:p.size=0)=>h.none g u f);have D:=wN (fun O (p:ByteArray) (h:Spl s (s.size+1) O p)=>h.fin B);have Z:=wN (fR s);go_enter func18,ntmps18;go_wp2;go_loopw [4,5,13] (fun v p i wr=>∃ (k:Nat) (O:List ByteArray) (q:ByteArray),k<=s.size+1/\i=Y J k/\p=.string q/\Hid (TR wr w.heap.size v O/\Spl s k O q/\G w.heap.size w wr)) (fun _ _ i _=>s.size+1-(intOf i).toNat)
   case atStart=>exact⟨0,[],⟨#[]⟩,Aa,rfl,rfl,wN ⟨XH _ _,Z.out,AP _ _⟩⟩
   case round=>
    obtain⟨k,O,q,g,rfl,rfl,a⟩:=hrel;clear Z;have a2:=a.out.2.1.ps;have a1:=a.out.2.1.ct;by_cases X:k<=s.size
    . have e1:(k:Int)<(s.size:Int)+1:=by omega
      by_cases n:∃ h:k<s.size,((s[k].toNat:Int)==47)=S
      . obtain⟨d,l⟩:=n
        have o:(k:Int)<(s.size:Int):=Aa;cases f:(((s[k]).toNat:Int)==0)
        . have b:=wN (C.out k O q a.out.2.1 d l f)
          have T:=fun W=>m4 W s k ((k:Int)+1) rfl d
          obtain⟨t,V⟩:=nm (s.extract k (k+1));have a3:(t.size:Int)<=1:=(by rw[V,ByteArray.size_extract];omega);have sr:(q.size:Int)<=201:=Aa;rw[<- V] at T b;clear V;go_wp2;go_roundw
          case rel=>exact⟨k+1,O,_,Aa,by go_num,rfl,wN ⟨a.out.1,b.out,a.out.2.2⟩⟩
          case measure=>simp[intOf];omega
        . have b:=wN (HZ.out k d f)
          go_wp2;go_ret2;exact⟨R ⟨b.out,rfl⟩,a.out.2.2⟩
      . have y:Hid (∀ h:k<s.size,s[k]=47):=wN fun h=>b47.1 (by
         cases c:((s[k].toNat:Int)==47)
         . exact absurd ⟨h,c⟩ n
         . rfl)
        have K:(∃ h:k<s.size,((s[k].toNat:Int)==47)=AQ)\/k=s.size:=by
         by_cases h:k<s.size
         . exact A4 ⟨h,b47.2 (y.out h)⟩
         . exact R Aa
        clear n;by_cases WR:13<q.size
        . have M:(13:Int)<(q.size:Int):=by omega
          have b:=wN (E.out k O q a.out.2.1 X y.out WR);rcases K with⟨d,l⟩|he
          . have o:(k:Int)<(s.size:Int):=by omega
            go_wp2;go_ret2;exact⟨R ⟨b.out,rfl⟩,a.out.2.2⟩
          . have o:¬ (k:Int)<(s.size:Int):=by omega
            go_wp2;go_ret2;exact⟨R ⟨b.out,rfl⟩,a.out.2.2⟩
        . have M:¬ (13:Int)<(q.size:Int):=by omega
          by_cases z:q.size=0
          . have b:=wN (F.out k O q a.out.2.1 X y.out z)
            have uB:q.toList.isEmpty=AQ:=(by rw[Cg,p_nil.2 z];rfl);rcases K with⟨d,l⟩|he
            . have o:(k:Int)<(s.size:Int):=by omega
              go_wp2;go_roundw
              case rel=>exact⟨k+1,O,_,Aa,by go_num,rfl,wN ⟨a.out.1,b.out,a.out.2.2⟩⟩
              case measure=>simp[intOf];omega
            . have o:¬ (k:Int)<(s.size:Int):=by omega
              go_wp2;go_roundw
              case rel=>exact⟨k+1,O,_,Aa,by go_num,rfl,wN ⟨a.out.1,b.out,a.out.2.2⟩⟩
              case measure=>simp[intOf];omega
          . have b:=wN (I.out k O q a.out.2.1 X y.out Aa z)
            have uB:q.toList.isEmpty=S:=by
             rw[Cg];cases c:q.data.toList with
             |nil=>exact absurd (p_nil.1 c) z
             |cons _ _=>rfl
            have j:Hid (O.length<=1000000/\w.heap.size<=wr.heap.size):=wN ⟨Aa,a.out.2.2.size⟩;rcases K with⟨d,l⟩|he
            . have o:(k:Int)<(s.size:Int):=by omega
              go_wp2_with (at_builtin;refine IS wr q rfl (.tmp 42) (.tmp 44) rfl w.heap.size _ O rfl a.out.1 j.out.1 rfl j.out.2 ?_;intro v5 w5 P m)
              go_roundw
              case rel=>exact⟨k+1,O ++ [q],_,Aa,by go_num,rfl,wN ⟨P,b.out,a.out.2.2.trans m⟩⟩
              case measure=>simp[intOf];omega
            . have o:¬ (k:Int)<(s.size:Int):=by omega
              go_wp2_with (at_builtin;refine IS wr q rfl (.tmp 42) (.tmp 44) rfl w.heap.size _ O rfl a.out.1 j.out.1 rfl j.out.2 ?_;intro v5 w5 P m)
              go_roundw
              case rel=>exact⟨k+1,O ++ [q],_,Aa,by go_num,rfl,wN ⟨P,b.out,a.out.2.2.trans m⟩⟩
              case measure=>simp[intOf];omega
    . obtain rfl:k=s.size+1:=by omega
      have e1:¬ ((s.size+1:Nat):Int)<(s.size:Int)+1:=Aa;obtain⟨L,A⟩:=D.out O q a.out.2.1;obtain⟨ao,a0,hv,_⟩:=a.out.1.sl;subst hv;by_cases r:O.length<=20
      . have N:¬ (20:Int)<(O.length:Int):=by omega
        have x:Hid (OkP s/\BX s=O):=wN ⟨A.2 r,L⟩;clear L A;go_wp2;go_ret2;exact⟨A4 ⟨x.out.1,_,rfl,by rw[x.out.2];exact a.out.1⟩,a.out.2.2⟩
      . have N:(20:Int)<(O.length:Int):=by omega
        have x:Hid (¬ OkP s):=wN fun h=>r (A.1 h)
        clear L A;go_wp2;go_ret2;exact⟨R ⟨x.out,rfl⟩,a.out.2.2⟩
 . have g2:(200:Int)<(s.size:Int):=by omega
   have b:Hid (¬ OkP s):=wN fun h=>B h.sz
   clear B;go_enter func18,ntmps18;go_wp2;go_ret2;exact⟨R ⟨b.out,rfl⟩,AP _ _⟩
end
end Go.Proofs.YtfpdajplfmakhaaGreatDoor
