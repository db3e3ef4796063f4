/- What the law rests on. -/
import Derived.Test.YtfpdajplfmakhaaGreatDoorQD6
open Go.Value renaming int->J,slice->Aw,pointer->G,tuple->AT,bool->AY,agg->BS
open Go.IntKind renaming i64->Y
open Go.Proofs.Tryz renaming prog->Aq
open Option renaming none->Z,some->H
open Go renaming World->I,Value->AA,Calls->AH,Oper->BK,wpList->Cj,TypeId->Cn
open Go.Ending renaming returned->Av
open Go.Obj renaming cells->Ay
open Go.RowKit renaming Below->AB
open List renaming replicate->AI,range->BE
open Bool renaming false->AN,true->AQ
open Array renaming replicate->AW
open Or renaming inl->A4,inr->A8
open Int renaming toNat_natCast->Cf
open Go.Proofs.Tryz
namespace Go.Proofs.YtfpdajplfmakhaaGreatDoor
set_option linter.defProp false
set_option maxHeartbeats 12000000
set_option linter.unusedVariables false
set_option maxRecDepth 100000
section
open Go.RowKit
def cF(x:AA × Int):List AA:=[x.1,J Y x.2]
def Y7(x:AA × Int):(cF x).length=2:=rfl
def wg(g j:Nat):AA × Int:=(G (H ⟨g,j,Z⟩),(w7 j:Int))
def PV(g k:Nat):List (AA × Int):=(BE 14).map fun j=>if j<k then wg g j else (G Z,0)
def G8(g k:Nat):(PV g k).length=14:=by simp[PV]
def bI(g k:Nat):(PV g k).set k (wg g k)=PV g (k+1):=by
 apply Bt (by rw[AR,G8,G8]);intro i a b;simp only[PV,Eh,Cu,Co];by_cases e:k=i
 . subst e;rw[AG rfl,AG Aa]
 . rw[AJ e]
   by_cases h:i<k
   . rw[AG h,AG Aa]
   . rw[AJ h,AJ Aa]
def G5(g k:Nat):List AA:=(PV g k).flatMap cF
def GI(g k:Nat):(G5 g k).length=28:=by rw[G5,CR (s:=2) (fun x _=>Y7 x),G8]
def UI(g k:Nat):∀ v∈G5 g k,v.oneCell'=AQ:=fun v a=>by
 obtain⟨x,b,a⟩:=List.mem_flatMap.1 a;obtain⟨j,_,rfl⟩:=Ce.1 b;simp[cF] at a;rcases a with rfl|rfl
 . split <;> rfl
 . rfl
def qX:(Aq.info? 229).map (·.size)=H 2:=Ac
def OS:(Aq.info? 230).map (·.size)=H 28:=Ac
def oF{fn:Func}{p:Tmp}(h:fn.results=#[.cell p 230])(tmps:Array AA)(w:I)(g:Nat)(T:Cn)(C:List AA)(a:C.length=28)(hp:tmps.getD p undef=G (H ⟨g,0,Z⟩))(b:w.heap[g]? =H (Ay C.toArray T (0,0))):
 (results fn tmps).run Aq w=.ok (BS C.toArray) w:=
 results_cell_row h tmps w g T _ (0,0) _ hp b underlying230 rfl (by rw[OS];simp[a])
def Oy{b:Array BK}{rest:List BK}{o:BK}{a:Act}{w:I}{Q:Exit->Act->I->Prop}(f:o.guard=Z)(x y:Operand)(k:o.op=.store 230 x y)
 (g:Nat) (l:a.eval x=G (H ⟨g,0,Z⟩)) (C D:List AA) (m:a.eval y=BS C.toArray) (c:C.length=28) (j:D.length=28) (i:∀ v∈C,v.oneCell'=AQ) (T:Cn) (d:w.heap[g]? =H (Ay D.toArray T (0,0)))
 (h:∀ w',Wrote w w' g->w'.heap[g]? =H (Ay C.toArray T (0,0))->Cj Aq b Q rest (a.put o.dst undef) w'):Cj Aq b Q (o :: rest) a w:=
 C8 f 230 x y k g _ l m T _ d (by rw[OS];simp[c]) (by simp[c,j]) (Gt i) (h _ (Wrote.setRow _ _ _) (CJ _ _ _ _ _ _ d))
def Jw{c:Array BK}{rest:List BK}{op:BK}{a:Act}{w:I}{Q:Exit->Act->I->Prop}(j:op.guard=Z)(x y:Operand)(q:op.op=.store 229 x y)
 (b g k:Nat) (o:k<14) (m:Int) (p:m=(w7 k:Int)) (r:a.eval x=G (H ⟨b,k*2,Z⟩)) (t:a.eval y=BS #[G (H ⟨g,k,Z⟩),J Y m])
 (n:w.heap[b]? =H (Ay (G5 g k).toArray 230 (0,0)))
 (h:∀ w',Wrote w w' b->w'.heap[b]? =H (Ay (G5 g (k+1)).toArray 230 (0,0))->Cj Aq c Q rest (a.put op.dst undef) w'):Cj Aq c Q (op :: rest) a w:=by
 subst p;refine EW (f:=cF) (s:=2) j 229 x y q qX b k (PV g k) (wg g k) 230 r t n (by rw[G8];exact o) (fun x _=>Y7 x) (Y7 _) ?_ fun w' l d=>h w' l ?_
 . intro v i
   simp[cF,wg] at i;rcases i with rfl|rfl <;> rfl
 . rw[bI] at d;exact d
def eJ(g:Nat):G5 g 0=[G Z,J Y 0,G Z,J Y 0,G Z,J Y 0,G Z,J Y 0,G Z,J Y 0,G Z,J Y 0,G Z,J Y 0,G Z,J Y 0,G Z,J Y 0,G Z,J Y 0,G Z,J Y 0,G Z,J Y 0,G Z,J Y 0,G Z,J Y 0]:=rfl
def Pe(g:Nat):G5 g 3=[G (H ⟨g,0,Z⟩),J Y 1,G (H ⟨g,1,Z⟩),J Y 1,G (H ⟨g,2,Z⟩),J Y 4,G Z,J Y 0,G Z,J Y 0,G Z,J Y 0,G Z,J Y 0,G Z,J Y 0,G Z,J Y 0,G Z,J Y 0,G Z,J Y 0,G Z,J Y 0,G Z,J Y 0,G Z,J Y 0]:=rfl
def PL{W:I}{g:Nat}{T:Cn}{D C:List AA}(a:W.heap[g]? =H (Ay D.toArray T (0,0)))(c:C.length=D.length)(b:∀ v∈C,v.oneCell'=AQ):
 (W.setCells g 0 C).heap[g]? =H (Ay C.toArray T (0,0))/\Wrote W (W.setCells g 0 C) g:=by
 have e:=Fp a (o:=0) (vs:=C) Aa b;rw[e,EK D C c];exact⟨CJ _ _ _ _ _ _ a,Wrote.setRow _ _ _⟩
def Pp(w:I)(g:Nat):AH Aq 132 #[G (H ⟨g,0,Z⟩)] w fun e w'=>e=Av (BS (G5 g 14).toArray)/\AB w.heap.size w w':=by
 have M:=AC w (Ay (G5 g 0).toArray 230);have n:=AF w (Ay (G5 g 0).toArray 230);obtain⟨l,h⟩:=nm (w.alloc (Ay (G5 g 0).toArray 230));rw[<- h] at M n;have P:l.heap.size=w.heap.size+1:=by rw[h];simp
 rw[eJ] at h;have y:=wN h;have u:=wN M;have r:=AC l (Ay (G5 g 0).toArray 230);have z:=AF l (Ay (G5 g 0).toArray 230);have N:(l.alloc (Ay #[G Z,J Y 0,G Z,J Y 0,G Z,J Y 0,G Z,J Y 0,G Z,J Y 0,G Z,J Y 0,G Z,J Y 0,G Z,J Y 0,G Z,J Y 0,G Z,J Y 0,G Z,J Y 0,G Z,J Y 0,G Z,J Y 0,G Z,J Y 0] 230)).drew.there l.heap.size 0 ([G (H ⟨g,0,Z⟩),J Y 1,G (H ⟨g,1,Z⟩),J Y 1,G (H ⟨g,2,Z⟩),J Y 4,G Z,J Y 0,G Z,J Y 0,G Z,J Y 0,G Z,J Y 0,G Z,J Y 0,G Z,J Y 0,G Z,J Y 0,G Z,J Y 0,G Z,J Y 0,G Z,J Y 0,G Z,J Y 0]:List AA).toArray.size:=Ft (w:=(l.alloc (Ay #[G Z,J Y 0,G Z,J Y 0,G Z,J Y 0,G Z,J Y 0,G Z,J Y 0,G Z,J Y 0,G Z,J Y 0,G Z,J Y 0,G Z,J Y 0,G Z,J Y 0,G Z,J Y 0,G Z,J Y 0,G Z,J Y 0,G Z,J Y 0] 230)).drew) (t:=230) (cur:=G5 g 0) r (by rw[GI];exact AE _);have p:∀ v∈([G (H ⟨g,0,Z⟩),J Y 1,G (H ⟨g,1,Z⟩),J Y 1,G (H ⟨g,2,Z⟩),J Y 4,G Z,J Y 0,G Z,J Y 0,G Z,J Y 0,G Z,J Y 0,G Z,J Y 0,G Z,J Y 0,G Z,J Y 0,G Z,J Y 0,G Z,J Y 0,G Z,J Y 0,G Z,J Y 0]:List AA),v.oneCell'=AQ:=by have:=UI g 3;rw[Pe] at this;exact this
 have f:=PL (W:=(l.alloc (Ay #[G Z,J Y 0,G Z,J Y 0,G Z,J Y 0,G Z,J Y 0,G Z,J Y 0,G Z,J Y 0,G Z,J Y 0,G Z,J Y 0,G Z,J Y 0,G Z,J Y 0,G Z,J Y 0,G Z,J Y 0,G Z,J Y 0,G Z,J Y 0] 230)).drew) (g:=l.heap.size) (T:=230) (D:=G5 g 0) (C:=[G (H ⟨g,0,Z⟩),J Y 1,G (H ⟨g,1,Z⟩),J Y 1,G (H ⟨g,2,Z⟩),J Y 4,G Z,J Y 0,G Z,J Y 0,G Z,J Y 0,G Z,J Y 0,G Z,J Y 0,G Z,J Y 0,G Z,J Y 0,G Z,J Y 0,G Z,J Y 0,G Z,J Y 0,G Z,J Y 0]) r rfl p;have d:=z.drew.trans (f.2.below (AE _));have a:=wN (n.trans (d.mono n.size));have q:=wN d;have c:=wN f.1;have m:=wN P;clear h M f r z d P;have E:(Aq.info? 230).map (·.size)=H ([G (H ⟨g,0,Z⟩),J Y 1,G (H ⟨g,1,Z⟩),J Y 1,G (H ⟨g,2,Z⟩),J Y 4,G Z,J Y 0,G Z,J Y 0,G Z,J Y 0,G Z,J Y 0,G Z,J Y 0,G Z,J Y 0,G Z,J Y 0,G Z,J Y 0,G Z,J Y 0,G Z,J Y 0,G Z,J Y 0]:List AA).toArray.size:=OS;go_enter func132,ntmps132;go_wp2;rw[<- y.out];go_region_held3 (fun W=>True) (trivial) (fail)
 generalize (l.alloc (Ay #[G Z,J Y 0,G Z,J Y 0,G Z,J Y 0,G Z,J Y 0,G Z,J Y 0,G Z,J Y 0,G Z,J Y 0,G Z,J Y 0,G Z,J Y 0,G Z,J Y 0,G Z,J Y 0,G Z,J Y 0,G Z,J Y 0,G Z,J Y 0] 230)).drew.setCells l.heap.size 0 [G (H ⟨g,0,Z⟩),J Y 1,G (H ⟨g,1,Z⟩),J Y 1,G (H ⟨g,2,Z⟩),J Y 4,G Z,J Y 0,G Z,J Y 0,G Z,J Y 0,G Z,J Y 0,G Z,J Y 0,G Z,J Y 0,G Z,J Y 0,G Z,J Y 0,G Z,J Y 0,G Z,J Y 0,G Z,J Y 0]=w2 at a q c |-
 rw[<- Pe] at c;have U:w2.heap[w.heap.size]? =H (Ay (G5 g 0).toArray 230 (0,0)):=(q.out.block _ (by have:=m.out;omega)).trans u.out;have o:=wN U;have A:=a.out;obtain⟨b,S⟩:=nm l.heap.size;have F:w.heap.size≠b:=by have:=m.out;omega
 have R:w.heap.size<=b:=by have:=m.out;omega
 rw[<- S] at c |-
 clear E N p U S q a u y m n;go_wp2;go_loopw [18] (fun i wr=>∃ j:Nat,j<=10/\i=J Y j/\Hid (wr.heap[b]? =H (Ay (G5 g (3+j)).toArray 230 (0,0)))/\Hid (wr.heap[w.heap.size]? =H (Ay (G5 g 0).toArray 230 (0,0)))/\AB w.heap.size w wr) (fun i _=>10-(intOf i).toNat)
 case atStart=>exact⟨0,Aa,rfl,c,o,A⟩
 case round=>
  obtain⟨j,hj,rfl,Q,x,B⟩:=hrel;clear c o A;by_cases a0:j<10
  . have ej:(j:Int)<10:=by omega
    have K:(2:Int)=(w7 (3+j):Int):=(by simp[NA]);have L:=wN K;clear K;go_wp2_with (with_reducible refine Jw rfl (.tmp 29) (.tmp 28) rfl b g (3+j) Aa 2 L.out rfl rfl Q.out ?_;intro w4 k s)
    go_roundw
    case rel=>exact⟨j+1,Aa,by go_num,s,(k.2.2.2.2 _ F).trans x.out,B.trans (k.below R)⟩
    case measure=>simp[intOf];omega
  . obtain rfl:j=10:=by omega
    go_wp2_with (first
     |(with_reducible refine Jw rfl (.tmp 35) (.tmp 34) rfl b g 13 Aa 2 rfl rfl rfl Q.out ?_;intro w4 k s
       have X:=(k.2.2.2.2 _ F).trans x.out)|(with_reducible refine wpList_load_row rfl 230 (.tmp 3) rfl b rfl 230 _ (0,0) _ s underlying230 rfl (by rw[OS];simp[GI]) ?_)|(with_reducible refine Oy rfl (.tmp 2) (.tmp 36) rfl w.heap.size rfl (G5 g 14) (G5 g 0) rfl (GI g 14) (GI g 0) (UI g 14) _ X ?_;intro w5 O V))
    exact A9 (oF rfl _ _ w.heap.size _ _ (GI g 14) rfl V) rfl ⟨rfl,(B.trans (k.below R)).trans (O.below (AE _))⟩
def am(W:I)(g j:Nat)(c:j<14):(Instr.index 230 (BS (G5 g 14).toArray) (J Y (j:Int))).run Aq W=.ok (BS #[G (H ⟨g,j,Z⟩),J Y (w7 j:Int)]) W:=by
 have e:G5 g 14=[G (H ⟨g,0,Z⟩),J Y 1,G (H ⟨g,1,Z⟩),J Y 1,G (H ⟨g,2,Z⟩),J Y 4,G (H ⟨g,3,Z⟩),J Y 2,G (H ⟨g,4,Z⟩),J Y 2,G (H ⟨g,5,Z⟩),J Y 2,G (H ⟨g,6,Z⟩),J Y 2,G (H ⟨g,7,Z⟩),J Y 2,G (H ⟨g,8,Z⟩),J Y 2,G (H ⟨g,9,Z⟩),J Y 2,G (H ⟨g,10,Z⟩),J Y 2,G (H ⟨g,11,Z⟩),J Y 2,G (H ⟨g,12,Z⟩),J Y 2,G (H ⟨g,13,Z⟩),J Y 2]:=rfl;rw[e];have a:=isAgg229;have b:=sizeOf229;have:j=0\/j=1\/j=2\/j=3\/j=4\/j=5\/j=6\/j=7\/j=8\/j=9\/j=10\/j=11\/j=12\/j=13:=Aa;rcases this with rfl|rfl|rfl|rfl|rfl|rfl|rfl|rfl|rfl|rfl|rfl|rfl|rfl|rfl <;> simp[Instr.index,Ck underlying230,asIntOf,go_sem,a,b] <;> rfl
def LH{w w':I}{row:Option Nat}(h:w.grownBy w' row)(b o:Nat)(hb:b<w.heap.size)(a:∀ k,row=H k->k≠b):w'.cell? ⟨b,o,Z⟩=w.cell? ⟨b,o,Z⟩:=by
 apply Bi;exact h.block b hb (fun e=>a b e.symm rfl)
def Mk{c:Array BK}{o:BK}{a:Act}{w:I}{K:Act->I->Prop}{Q:Exit->Act->I->Prop}{E:Prop}(A:o.guard=Z)(s x:Operand)
 (T:o.op=.call { callee:=.builtin .append,args:=#[s,x],argTypes:=#[77,77] })
 (B:Nat) (v:AA) (l:Ab) (U:a.eval s=v) (b:OB w B v l) (u:AA) (m:Ab) (X:a.eval x=u) (d:BSl w u m) (y:0<m.length)
 (t:l.length+m.length<=140737488355328) (q:B<=w.heap.size)
 (h:∀ v' w',OB w' B v' (l ++ m)->AB B w w'->w.grownBy w' v.ownBlock->K (a.put o.dst v') w'):
 if Region.wanted o (yielded c a.tmps)=AQ then BK.wp Aq o a w K Q else E:=by
 have W:Region.wanted o (yielded c a.tmps)=AQ:=by simp[Region.wanted,A]
 rw[AG W];obtain⟨i,G,L,M,N⟩:=Bs IA;obtain⟨C,g,rfl,Y⟩:=d.shape;have n:=DQ b.1 d.1;have D:(l ++ m).length=l.length+m.length:=AO;have F:(l ++ m).map (J .u8)=l.map (J .u8) ++ m.map (J .u8):=Cw;cases C with
 |none=>
  rcases d.2 with⟨_,S⟩| ⟨_,_,V,_⟩
  . rw[S] at y;simp at y
  . simp at V
 |some ad=>
  have z:∀ j v,(m.map (J .u8))[j]? =H v->w.cell? (ad.add j)=H v:=by
   intro j v r;have MU:j<m.length:=by simpa using (Bo.1 r).1
   obtain⟨f,he,P⟩:=Fm d (fun _ _=>rfl) m.length Ak;obtain rfl:ad=f:=by simpa using he
   exact P j v (by simpa using r)
  refine wp_append_own w s x 77 T B 5 i (J .u8 0) 1 1 underlying77 G L M N rfl Af v l.length _ U b.2 ad m.length g _ X Ai z (ints_oneCell _ _) (by simp only[maxLen];omega) Aa q fun v' w' O p _=>?_
  exact h v' w' ⟨n,by rw[D,F];exact O⟩ ((AP _ _).grown p q fun k R=>(b.2.lt k R).1) p
def mu{w:I}{B:Nat}{v:AA}{l:Ab}(h:OB w B v l)(n:Nat)(b:l.length=n)(d:0<n):∃ g cap,v=Aw (H ⟨g,0,Z⟩) n cap:=by
 rcases h.2.2 with⟨_,f⟩| ⟨g,cap,a,c,_⟩
 . omega
 . exact⟨g,cap,by rw[c,b]⟩
def fJ(kd ln sz Q R S d3 d4 d5 d6 d7 d8 d9 mp:Int)(L:Ab)(L1:L=[kd,ln,sz,Q,R,S,d3,d4,d5,d6,d7,d8,d9,mp])(hf:Ee L=AQ)(w:I):AH Aq 92 #[BS #[J Y kd,J Y ln,J Y sz,J Y Q,J Y R,J Y S,J Y d3,J Y d4,J Y d5,J Y d6,J Y d7,J Y d8,J Y d9,J Y mp]] w (J8 w (Mb L)):=by
 have hL:L.length=14:=by rw[L1];rfl
 have D:=AF w (iO L 44);have N:=AC w (iO L 44);obtain⟨h,f⟩:=nm (w.alloc (iO L 44));rw[<- f] at D N;have B:w.heap.size<h.heap.size:=by rw[f];simp
 have a1:Hid (h.heap.size=w.heap.size+1):=wN (by rw[f];simp);have H2:Hid (w.alloc (Ay #[J Y kd,J Y ln,J Y sz,J Y Q,J Y R,J Y S,J Y d3,J Y d4,J Y d5,J Y d6,J Y d7,J Y d8,J Y d9,J Y mp] 44)=h):=wN (by rw[f,L1];rfl);have b5:=wN N;have HF:=wN (Hz hL hf);have HL:=wN hL;obtain⟨M,M5⟩:∃ M:Nat,M=32:=⟨_,rfl⟩;have b3:Hid ((32:Int)=(M:Int)):=wN Aa;have Sz:M<=1000:=Aa;clear f N L1 hf hL M5;go_enter func92,ntmps92
 go_wp2_with (first
  |(at_make;refine DA _ rfl _ _ rfl 0 32 0 M rfl rfl rfl b3.out (A7 _) Aa ?_)
  |(go_at_call 132
    rw[H2.out];have c:=Tp h M Sz;have r:AB h.heap.size h (h.alloc (Ay (AW M (J .u8 0)) 5)):=AF _ _;generalize h.alloc (Ay (AW M (J .u8 0)) 5)=w2 at c r |-
    refine Ad (Pp _ _) ?_;rintro P E))
 rw[a1.out] at c;have b:AB h.heap.size h P:=r.trans (E.mono r.size);have y:AB w.heap.size w P:=D.trans (b.mono (Cy B));have O:P.heap[w.heap.size]? =H (iO L 44):=(b.block _ B).trans b5.out;have I8:w.heap.size<P.heap.size:=AL B b.size;obtain⟨g,hg⟩:=nm w.heap.size;rw[<- hg] at O I8 |-
 have a4:∀ j,j<14->P.cell? ⟨g,j,Z⟩=H (J Y (L.getD j 0)):=fun j hj=>Gd O j (by rw[HL.out];exact hj)
 have X:=wN (fun W j hj=>am W g j hj);obtain⟨F,hF⟩:=nm ((G5 g 14).toArray);rw[<- hF] at X |-
 have d:=wN ((c.below E).more (B':=g+1) (by have:=a1.out;omega));rw[<- hg] at d;have V:=wN a4;have uM:AB g w P:=by rw[hg];exact y
 have HG:=wN hg;clear y hg O a4 hF b E r c D B;go_loopw [3,8] (fun u i wr=>∃ j:Nat,j<=14/\i=J Y j/\Hid (OB wr (g+1) u (Gl L j))/\Hid (AB g w wr)/\P.heap.size<=wr.heap.size/\Hid (∀ j,j<14->wr.cell? ⟨g,j,Z⟩=H (J Y (L.getD j 0)))) (fun _ i _=>14-(intOf i).toNat)
 case atStart=>exact⟨0,Aa,rfl,d,uM,AE _,V⟩
 case round=>
  clear d uM V;obtain⟨j,hj,rfl,o,U,B,V⟩:=hrel;by_cases t:j<14
  . have Ro:=X.out wr j t
    have v:=HF.out j t;have MV:=V.out j t;have Jq:Gl L (j+1)=Gl L j ++ B8 (L.getD j 0) (w7 j):=rfl;have a9:=iU j;have z:=EG L j;have uN:=pM j t;have uy:=Hi a9.2;have e4:(256:Int) ^ 4=4294967296:=rfl;obtain⟨x,hx⟩:=nm (L.getD j 0);obtain⟨k,m⟩:=nm (w7 j);rw[<- hx] at v MV Jq;rw[<- m] at a9 Ro Jq v uN uy;have b8:x<4294967296:=Aa;have W7:=v.1;have b0:=wN Jq;have b4:=wN (fun W=>FK (Le W) Ai x (k:Int) k Aa Aa rfl W7 Aa);have b2:Hid ((Gl L j).length+(B8 x k).length<=140737488355328):=wN (by rw[z,Bp];omega);have b1:Hid (0<(B8 x k).length):=wN (by rw[Bp];omega);have ej:(j:Int)<14:=Aa;have Uu:g<wr.heap.size:=AL I8 B;clear hx m Jq v z uN uy e4;go_wp2;have s:=AF wr (Ay #[G (H ⟨g,j,Z⟩),J Y (k:Int)] 229);have Q0:=AC wr (Ay #[G (H ⟨g,j,Z⟩),J Y (k:Int)] 229);generalize wr.alloc (Ay #[G (H ⟨g,j,Z⟩),J Y (k:Int)] 229)=l at s Q0 |-
    have c0:l.cell? ⟨wr.heap.size,0,Z⟩=H (G (H ⟨g,j,Z⟩)):=(by rw[AD _ _ _ _ _ _ Q0];rfl);have c1:l.cell? ⟨wr.heap.size,1,Z⟩=H (J Y (k:Int)):=(by rw[AD _ _ _ _ _ _ Q0];rfl);have c2:l.cell? ⟨g,j,Z⟩=H (J Y x):=(by rw[s.cell Uu];exact MV);obtain⟨q,hq⟩:=nm wr.heap.size;have K:q<l.heap.size:=(by rw[hq];exact(Au.1 Q0).1);have SA:g<l.heap.size:=Aa;have A:=o.out.2.lt;have C:=wN (fun k m=>(show k≠q/\k≠g by have h1:=A k m;omega));have sZ:IntKind.u64.wrap x=x:=Ln _ Aa;have n:=wN (Bd s 1);have HU:=wN (o.out.below n.out);rw[<- hq] at c0 c1 |-
    have Q:l.drew.cell? ⟨q,0,Z⟩=H (G (H ⟨g,j,Z⟩)):=c0;have R:l.drew.cell? ⟨q,1,Z⟩=H (J Y (k:Int)):=c1;have S:l.drew.cell? ⟨g,j,Z⟩=H (J Y x):=c2;change Hid (OB l.drew _ _ _) at HU;change Hid (AB wr.heap.size wr l.drew) at n;clear s Q0 MV Ro hq c0 c1 c2 A
    go_region_held3 (fun W=>W.cell? ⟨q,0,Z⟩=H (G (H ⟨g,j,Z⟩))/\W.cell? ⟨q,1,Z⟩=H (J Y (k:Int))/\W.cell? ⟨g,j,Z⟩=H (J Y x)) (first|exact⟨f0,f1,f2⟩|exact⟨e0,e1,e2⟩|exact⟨Q,R,S⟩) (first
     |(go_at_call 133;(with_reducible refine(b4.out _).mono ?_);rintro e w6 ⟨v6,rfl,a6,a⟩
       have T:=wN (n.out.trans (a.mono n.out.size));have e0:=(a.cell (p:=⟨q,0,Z⟩) K).trans Q;have e1:=(a.cell (p:=⟨q,1,Z⟩) K).trans R;have e2:=(a.cell (p:=⟨g,j,Z⟩) SA).trans S;have qs:q<w6.heap.size:=AL K a.size;have a5:g<w6.heap.size:=AL SA a.size)
     |(refine Mk rfl (.tmp 11) (.tmp 19) rfl (g+1) _ (Gl L j) rfl (HU.out.below a) v6 (B8 x k) rfl a6.bsl b1.out b2.out a5 ?_
       intro v7 w7 a7 a3 tj;have f0:=(LH tj q 0 qs (fun k m=>(C.out k m).1)).trans e0;have f1:=(LH tj q 1 qs (fun k m=>(C.out k m).1)).trans e1;have f2:=(LH tj g j a5 (fun k m=>(C.out k m).2)).trans e2))
    go_wp2;go_roundw
    case rel=>
     have a2:AB g wr w7:=(T.out.mono (Cy Uu)).trans (a3.mono (Nat.le_succ g));refine⟨j+1,Aa,by go_num,?_,U.out.trans a2,AU B a2.size,fun i hi=>?_⟩
     . show OB _ _ _ (Gl L (j+1))
       rw[b0.out];exact a7
     . rw[a3.cell (p:=⟨g,i,Z⟩) (Nat.lt_succ_self g),T.out.cell (p:=⟨g,i,Z⟩) Uu];exact V.out i hi
    case measure=>simp[intOf];omega
  . obtain rfl:j=14:=by omega
    obtain⟨gq,cq,rfl⟩:=mu o.out 28 (EG L 14) Af;have Lk:g+1<=wr.heap.size:=Aa;have uO:=EG L 14;rw[qV] at uO;have a0:Hid ((Gl L 14).length+4<=140737488355328):=wN Aa;clear uO;go_wp2_with (at_builtin;refine G3 wr rfl (.tmp 22) (.tmp 25) rfl (g+1) _ (Gl L 14) rfl o.out 4 4 rfl rfl a0.out Lk ?_;intro v8 w8 a8 b6)
    go_ret;have b7:=U.out.trans (b6.mono (Nat.le_succ g));have eg:=HG.out;exact⟨_,rfl,a8.more Aa,by rw[<- eg];exact b7⟩
def fF{L:Ab}(a:L.length=14)(hf:Ee L=AQ)(w:I):AH Aq 92 #[BS (iC L).toArray] w (J8 w (Mb L)):=by
 match L,a with
 |[kd,ln,sz,d0,d1,d2,d3,d4,d5,d6,d7,d8,d9,mp],_=>exact fJ kd ln sz d0 d1 d2 d3 d4 d5 d6 d7 d8 d9 mp _ rfl hf w
def Xf:(Aq.info? 44).map (·.size)=H 14:=Ac
def D8{b:Array BK}{rest:List BK}{o:BK}{a:Act}{w:I}{Q:Exit->Act->I->Prop}(i:o.guard=Z)(T:Cn)(x y:Operand)(j:o.op=.store T x y)
 (g:Nat) (k:a.eval x=G (H ⟨g,0,Z⟩)) (L D:Ab) (l:a.eval y=BS (iC L).toArray) (d:D.length=L.length) (hi:(Aq.info? T).map (·.size)=H L.length) (c:Cn) (f:w.heap[g]? =H (iO D c))
 (h:∀ w',Wrote w w' g->w'.heap[g]? =H (iO L c)->Cj Aq b Q rest (a.put o.dst undef) w'):Cj Aq b Q (o :: rest) a w:=
 C8 i T x y j g _ k l c _ f (by rw[hi];simp[iC]) (by simp[iC,d]) (Gt (Qq L)) (h _ (Wrote.setRow _ _ _) (CJ _ _ _ _ _ _ f))
def NSl(w:I)(v:AA)(O:Ae):Prop:=
 F4 O/\((v=Aw Z 0 0/\O=[])\/∃ a b,v=Aw (H a) O.length b/\∀ j,j<O.length->a.block<w.heap.size/\a.spot=Z/\w.rangeAt a.block (a.off+j*14) (iC (O.getD j [])))
def NSl.open'{w:I}{v:AA}{O:Ae}(h:NSl w v O):∃ d cap,v=Aw d O.length cap/\(0<O.length->∃ b off,d=H ⟨b,off,Z⟩/\b<w.heap.size/\
 ∀ j,j<O.length->w.rangeAt b (off+j*14) (iC (O.getD j []))):=by
 rcases h.2 with⟨c,g⟩| ⟨⟨b,off,a⟩,cap,c,f⟩
 . exact⟨Z,0,by rw[c,g];rfl,fun h=>by rw[g] at h;simp at h⟩
 . refine⟨_,cap,c,fun i=>?_⟩
   obtain⟨k,l,_⟩:=f 0 i;obtain rfl:a=Z:=l;exact⟨b,off,rfl,k,fun j m=>(f j m).2.2⟩
def NSl.shape{w:I}{v:AA}{O:Ae}(h:NSl w v O):∃ a cap,v=Aw a O.length cap:=by
 obtain⟨a,cap,b,_⟩:=h.open';exact⟨a,cap,b⟩
def NSl.at{w:I}{v:AA}{O:Ae}(h:NSl w v O)(a:0<O.length):∃ b off cap,v=Aw (H ⟨b,off,Z⟩) O.length cap/\b<w.heap.size/\∀ j,j<O.length->w.rangeAt b (off+j*14) (iC (O.getD j [])):=by
 obtain⟨i,cap,g,f⟩:=h.open';obtain⟨b,off,rfl,c,d⟩:=f a;exact⟨b,off,cap,g,c,d⟩
def kx{w:I}(a:Option Addr)(len cap:Nat)(h:len≠8):AH Aq 48 #[Aw a len cap] w fun e w'=>e=Av (AT #[Aw Z 0 0,J Y 1])/\w=w':=by
 have b:((len:Int) != 8)=AQ:=Ak;go_enter func48,ntmps48;go_wp2;go_ret2;exact⟨rfl,rfl⟩
def Z0(O:Ae)(w:I)(e:Ending)(w':I):Prop:=
 (G7 O=AQ/\∃ u,e=Av (AT #[u,J Y 0])/\OB w' w.heap.size u (Gw O)/\AB w.heap.size w w')\/
 (G7 O=AN/\e=Av (AT #[Aw Z 0 0,J Y 1])/\AB w.heap.size w w')
def qW{w:I}{v:AA}{O:Ae}(hs:NSl w v O)(C:O.length=8):AH Aq 48 #[v] w (Z0 O w):=by
 obtain⟨b,K,a2,rfl,hb,hc⟩:=hs.at Aa;have P:=wN hs.1;have U:=wN (QF C);have S:=wN (fun k hk h=>aH (k:=k) C hk h);have H8:=wN C;obtain⟨M,M5⟩:∃ M:Nat,M=256:=⟨_,rfl⟩;have Q:Hid ((256:Int)=(M:Int)):=wN Aa;have Sz:M<=1000:=Aa;rw[C] at hc |-
 have HC:=wN hc;clear hs hc C M5;go_enter func48,ntmps48;go_wp2_with (at_make;refine DA _ rfl _ _ rfl 0 256 0 M rfl rfl rfl Q.out (A7 _) Aa ?_)
 have g:=wN (Tp w M Sz);have W:AB w.heap.size w (w.alloc (Ay (AW M (J .u8 0)) 5)):=AF _ _;generalize w.alloc (Ay (AW M (J .u8 0)) 5)=w3 at g W |-
 go_loopw [4,13] (fun u i wr=>∃ k:Nat,k<=8/\i=J Y k/\Hid (OB wr w.heap.size u (EP O k))/\Hid (∀ j,j<k->Ee (O.getD j [])=AQ)/\AB w.heap.size w wr) (fun _ i _=>8-(intOf i).toNat)
 case atStart=>exact⟨0,Aa,rfl,g,fun j hj=>absurd hj (Bm _),W⟩
 case round=>
  obtain⟨k,hk,rfl,y,HK,c⟩:=hrel;clear g W;by_cases q:k<8
  . have X:=Nc (HC.out k q) c hb
    have N:=S.out k q;have d:=Hh P.out k (by rw[H8.out];exact q);have lJ:EP O (k+1)=EP O k ++ Mb (O.getD k []):=rfl;obtain⟨x,hx⟩:=nm (O.getD k []);rw[<- hx] at X lJ N d;have ek:(k:Int)<8:=Aa;have HX:=wN hx;have T:=wN lJ;have HL:=wN (Fk O k);have R:=wN N;have z:=wN X;have p:Hid (zeroI.length=x.length):=wN d.symm;have a:Hid ((Aq.info? 44).map (·.size)=H x.length):=wN (by rw[Xf,d]);have hz:(wr.alloc (Ay #[J Y 0,J Y 0,J Y 0,J Y 0,J Y 0,J Y 0,J Y 0,J Y 0,J Y 0,J Y 0,J Y 0,J Y 0,J Y 0,J Y 0] 44)).heap[wr.heap.size]? =H (iO zeroI 44):=AC wr _;have D:=AF wr (Ay #[J Y 0,J Y 0,J Y 0,J Y 0,J Y 0,J Y 0,J Y 0,J Y 0,J Y 0,J Y 0,J Y 0,J Y 0,J Y 0,J Y 0] 44);have sr:wr.heap.size<(wr.alloc (Ay #[J Y 0,J Y 0,J Y 0,J Y 0,J Y 0,J Y 0,J Y 0,J Y 0,J Y 0,J Y 0,J Y 0,J Y 0,J Y 0,J Y 0] 44)).heap.size:=Ai;have HZ:=wN hz;have t:=wN D;have a1:=wN sr;have u1:=underlying44;obtain⟨B,L⟩:∃ B,Ee x=B:=⟨_,rfl⟩;have HF:=wN L;have KF:=wN (V5 d B L);have KW:=wN (fun h=>fF d (L.trans h));clear hx lJ N X d hz D sr L;cases B
    . go_wp2_with (first
       |(with_reducible refine BG rfl 44 (.tmp 15) rfl b (K+k*14) rfl x _ z.out u1 rfl a.out ?_)
       |(with_reducible refine D8 rfl 44 (.tmp 6) (.tmp 16) rfl wr.heap.size rfl x zeroI rfl p.out a.out _ HZ.out ?_
         intro w4 n m;have A:=Gf m;have f:=t.out.trans (n.below (AE _)))|(with_reducible refine BG rfl 44 (.tmp 6) rfl wr.heap.size 0 rfl x _ A u1 rfl a.out ?_)|(go_at_call 47;refine Ad (KF.out _) ?_;rintro w5 l))
      go_ret2;exact A8 ⟨R.out HF.out,rfl,(c.trans (f.mono c.size)).trans (l.mono (AU c.size f.size))⟩
    . have V:=wN (KW.out rfl)
      clear KW
      go_wp2_with (first
       |(with_reducible refine BG rfl 44 (.tmp 15) rfl b (K+k*14) rfl x _ z.out u1 rfl a.out ?_)
       |(with_reducible refine D8 rfl 44 (.tmp 6) (.tmp 16) rfl wr.heap.size rfl x zeroI rfl p.out a.out _ HZ.out ?_
         intro w4 n m;have A:=Gf m;have f:=t.out.trans (n.below (AE _)))|(with_reducible refine BG rfl 44 (.tmp 6) rfl wr.heap.size 0 rfl x _ A u1 rfl a.out ?_)
       |(go_at_call 47;refine Ad (KF.out _) ?_;rintro w5 l
         have G:=Nc A l (Au.1 m).1;have r:=wN (f.trans (l.mono f.size));clear A f l n)|(with_reducible refine BG rfl 44 (.tmp 6) rfl wr.heap.size 0 rfl x _ G u1 rfl a.out ?_)
       |(go_at_call 92;refine(V.out _).mono ?_;rintro e w6 ⟨v6,rfl,E,Z⟩
         have s:=wN (r.out.trans (Z.mono r.out.size));have o:=wN (c.trans (s.out.mono c.size)))
       |(at_builtin
         refine B0 w6 rfl _ _ rfl w.heap.size _ (EP O k) rfl (y.out.below s.out) w6 v6 (Mb x) rfl E.bsl (fun _ _=>rfl) (by rw[HL.out,Kd];omega) o.out.size ?_;intro v7 w7 F a0 _))
      go_roundw
      case rel=>
       refine⟨k+1,Aa,by go_num,by show OB _ _ _ (EP O (k+1));rw[T.out];exact F,fun j hj=>?_,o.out.trans a0⟩;by_cases e:j=k
       . subst e;rw[<- HX.out];exact HF.out
       . exact HK.out j Aa
      case measure=>simp[intOf];omega
  . obtain rfl:k=8:=by omega
    go_wp2;go_ret2;exact A4 ⟨U.out HK.out,_,rfl,y.out,c⟩
def Wx{w:I}{v:AA}{O:Ae}(b:NSl w v O):AH Aq 48 #[v] w (Z0 O w):=by
 by_cases h:O.length=8
 . exact qW b h
 . obtain⟨c,a,rfl⟩:=b.shape
   refine(kx c _ a h).mono fun e f ⟨he,d⟩=>A8 ⟨?_,he,by rw[<- d];exact AP _ _⟩
   unfold G7;rw[AM h];rfl
def jC{fn:Func}{p:Tmp}(T:Cn)(h:fn.results=#[.cell p T])(tmps:Array AA)(w:I)(g:Nat)(a:Cn)(L:Ab)(d:TypeDesc)(hu:Aq.underlying T=H d)(hd:d.isRow=AQ)(hi:(Aq.info? T).map (·.size)=H L.length)
 (hp:tmps.getD p undef=G (H ⟨g,0,Z⟩)) (b:w.heap[g]? =H (iO L a)):(results fn tmps).run Aq w=.ok (BS (iC L).toArray) w:=
 results_cell_row h tmps w g a _ (0,0) _ hp b hu (by cases d <;> first|rfl|cases hd) (by rw[hi];simp[iC])
def jK{w:I}{v:AA}{c:Ab}(hs:BSl w v c)(hc:c.length=32):AH Aq 153 #[v] w fun e w'=>e=Av (BS (iC (js c)).toArray)/\AB w.heap.size w w':=by
 have HS:=wN hs;have T:=wN hc;clear hs hc;obtain⟨M,b⟩:=nm ((w.alloc (iO zeroI 44)).alloc (iO zeroI 44));have h2:(w.alloc (Ay #[J Y 0,J Y 0,J Y 0,J Y 0,J Y 0,J Y 0,J Y 0,J Y 0,J Y 0,J Y 0,J Y 0,J Y 0,J Y 0,J Y 0] 44)).alloc (Ay #[J Y 0,J Y 0,J Y 0,J Y 0,J Y 0,J Y 0,J Y 0,J Y 0,J Y 0,J Y 0,J Y 0,J Y 0,J Y 0,J Y 0] 44)=M:=by rw[b];rfl
 have E:AB w.heap.size w M:=by rw[b];exact((AP _ _).alloc (AE _) _).alloc Ai _
 have Ik:M.heap[w.heap.size]? =H (iO zeroI 44):=by rw[b,@heap_alloc_old _ _ _ Ai];exact AC _ _
 have L:M.heap[w.heap.size+1]? =H (iO zeroI 44):=by rw[b];exact heap_alloc2_new _ _ _
 have b2:M.heap.size=w.heap.size+2:=by rw[b];simp
 have H2:=wN h2;have a2:=wN Ik;have a3:=wN L;clear h2 b Ik L;go_enter func153,ntmps153
 go_wp2_with (first|(go_at_call 132;rw[H2.out];refine Ad (Pp _ _) ?_;rintro t m))
 obtain⟨a,Q⟩:=nm (w.heap.size+1);have ZH:t.heap[a]? =H (iO (G0 c 0) 44):=by rw[Q,m.block _ Aa,Zk];exact a3.out
 have lH:t.heap[w.heap.size]? =H (iO zeroI 44):=by rw[m.block _ Aa];exact a2.out
 have o:AB w.heap.size w t:=E.trans (m.mono Aa);have sk:a<t.heap.size:=(Au.1 ZH).1;have b1:w.heap.size<t.heap.size:=Aa;rw[<- Q];have x:=wN (fun W j hj=>am W a j hj);obtain⟨F,hF⟩:=nm ((G5 a 14).toArray);rw[<- hF] at x |-
 have U:=wN Q;have n:=wN o;have V:=wN lH;clear Q o lH m b2 E hF;go_loopw [4,10] (fun a7 i wr=>∃ j:Nat,j<=14/\i=J Y j/\a7=J Y (p7 j:Int)/\Hid (wr.heap[a]? =H (iO (G0 c j) 44))/\Hid (KeptG t wr a)) (fun _ i _=>14-(intOf i).toNat)
 case atStart=>exact⟨0,Aa,rfl,rfl,ZH,KeptG.refl _ _⟩
 case round=>
  obtain⟨j,hj,rfl,rfl,z,d⟩:=hrel;clear ZH;by_cases q:j<14
  . have Ro:=x.out wr j q
    have qr:=t8 HS.out.1 j;have b0:=iU j;have Kk:=pM j q;have a8:=T.out;have D:=fun W (h:BSl W v c)=>PR h Aa (p7 j) (w7 j) (p7 j:Int) (w7 j:Int) rfl rfl Aa Aa Aa _ rfl
    have g:=cW c j;obtain⟨y,hy⟩:=nm (Cs c (p7 j) (w7 j));rw[<- hy] at qr D g;have O:p7 (j+1)=p7 j+w7 j:=rfl;obtain⟨P,hP⟩:=nm (p7 j);obtain⟨k,hk⟩:=nm (w7 j);rw[<- hP] at Kk D O |-
    rw[<- hk] at b0 Kk D O Ro;have u:=wN D;have A:=wN g;have ej:(j:Int)<14:=Aa;have Uu:a<wr.heap.size:=AL sk d.out.2.2.2.1;have a1:=wN O;have K:=n.out.trans (d.out.below (B:=w.heap.size) (by have:=U.out;omega) Aa);have l:=wN K;clear hy hP hk g D O K a8;have lI:wr.heap.size≠a:=Aa
    go_wp2_with (first
     |(go_at_call 183
       have f:=AF wr (Ay #[G (H ⟨a,j,Z⟩),J Y (k:Int)] 229);have R:=AC wr (Ay #[G (H ⟨a,j,Z⟩),J Y (k:Int)] 229);generalize wr.alloc (Ay #[G (H ⟨a,j,Z⟩),J Y (k:Int)] 229)=C at f R |-
       have N:C.heap[a]? =H (iO (G0 c j) 44):=(f.block _ Uu).trans z.out;have c0:C.cell? ⟨wr.heap.size,0,Z⟩=H (G (H ⟨a,j,Z⟩)):=(by rw[AD _ _ _ _ _ _ R];rfl);have c1:C.cell? ⟨wr.heap.size,1,Z⟩=H (J Y (k:Int)):=(by rw[AD _ _ _ _ _ _ R];rfl);have ck:=Gd N j (by rw[G6];exact q);have fk:=OY N j;have s:=Wrote.setCell C a j (J Y y);have c6:(C.setCell ⟨a,j,Z⟩ (J Y y)).cell? ⟨wr.heap.size,1,Z⟩=H (J Y (k:Int)):=by
        simp only[I.cell?];rw[s.2.2.2.2 _ lI];exact c1
       have r:=Td N j y;rw[A.out] at r;have a0:=wN ((d.out.then f).wrote s);have a4:=wN r;have S:=wN (l.out.trans (f.mono l.out.size));clear f R N r s lI;refine Ad (u.out _ (HS.out.below S.out)) ?_;rintro w' rfl))
    go_roundw
    case rel=>exact⟨j+1,Aa,by go_num,by rw[a1.out];go_num,a4.out,a0.out⟩
    case measure=>simp[intOf];omega
  . obtain rfl:j=14:=by omega
    have sn:wr.heap[w.heap.size]? =H (iO zeroI 44):=(by rw[d.out.2.2.2.2 _ b1 (by have:=U.out;omega)];exact V.out);have p:=G6 c 14;have a5:=wN (Gf z.out);have X:Hid ((Aq.info? 44).map (·.size)=H (G0 c 14).length):=wN (by rw[Xf,p]);have a6:Hid (zeroI.length=(G0 c 14).length):=wN (by rw[p];rfl);have l:=wN (n.out.trans (d.out.below (B:=w.heap.size) (by have:=U.out;omega) Aa));have u1:=underlying44
    go_wp2_with (first|(with_reducible refine BG rfl 44 (.tmp 3) rfl a 0 rfl (G0 c 14) _ a5.out u1 rfl X.out ?_)|(with_reducible refine D8 rfl 44 (.tmp 2) (.tmp 31) rfl w.heap.size rfl (G0 c 14) zeroI rfl a6.out X.out _ sn ?_;intro w7 a9 NS))
    refine A9 (jC 44 rfl _ _ w.heap.size _ _ _ u1 rfl X.out rfl NS) rfl ⟨by rw[XN],l.out.trans (a9.below (AE _))⟩
def Yc{O:Ae}(h:F4 O):∀ x∈O,(iC x).length=14:=fun x a=>by rw[CF];exact h x a
def nC(O:Ae):List AA:=O.flatMap iC
def Lf{O:Ae}(h:F4 O):(nC O).length=O.length*14:=CR (Yc h)
def NR(w:I)(B:Nat)(T:Cn)(v:AA)(O:Ae):Prop:=F4 O/\w.ownsRow B T 14 v O.length (nC O)
def NR.sl{w:I}{B:Nat}{T:Cn}{v:AA}{O:Ae}(h:NR w B T v O):NSl w v O:=by
 refine⟨h.1,?_⟩;rcases h.2.2 with⟨m,q⟩| ⟨g,c,d,m,A,n,t,x,y,r⟩
 . exact A4 ⟨m,A3 q⟩
 . refine A8 ⟨_,c,m,fun j k=>⟨(Au.1 n).1,rfl,fun i u l=>?_⟩⟩
   have b:(O.getD j []).length=14:=Hh h.1 j k;have p:i<14:=(by have:=(Bo.1 l).1;rw[CF,b] at this;exact this);have z:j*14+14<=O.length*14:=Aa;show w.cell? ⟨g,0+j*14+i,Z⟩=_
   rw[BC,AD _ _ _ _ _ _ n];have o:=Gi (f:=iC) (s:=14) (L:=O) (Yc h.1) j k;have e:O.getD j []=O[j]:=(by simp[k]);rw[e,<- o,Bb,AG p,Bv] at l;have a:(d.toList.take (O.length*14))[j*14+i]? =(nC O)[j*14+i]? :=(by rw[r]);rw[Bb,AG Aa] at a;rw[nC,l] at a
   simpa using a
def NR.of_row{w:I}{B g:Nat}{T:Cn}{O:Ae}(h:F4 O)(a:B<=g)(b:w.heap[g]? =H (Ay (nC O).toArray T (0,0)))(c:O.length<=maxLen):NR w B T (Aw (H ⟨g,0,Z⟩) O.length O.length) O:=by
 refine⟨h,Lf h,A8 ⟨g,O.length,_,rfl,a,b,AE _,c,by simp[Lf h],?_⟩⟩;rw[A2 (by simp[Lf h])]
def rG:(Aq.info? 44).map (fun i=>(i.zero,i.size,i.bytes))=H (H (BS #[J Y 0,J Y 0,J Y 0,J Y 0,J Y 0,J Y 0,J Y 0,J Y 0,J Y 0,J Y 0,J Y 0,J Y 0,J Y 0,J Y 0]),14,112):=Ac
def VV{α:Type}(f:α->List AA)(x:α)(s:Nat)(a:(f x).length=s):∀ (n i:Nat),i<n*s->((AI n x).flatMap f)[i]? =(f x)[i%s]?
 |0,i,h=>Aa
 |n+1,i,h=>by
  rw[List.replicate_succ,CL];by_cases hi:i<s
  . rw[BT Aa,Gy hi]
  . rw[B5 Aa,a,VV f x s a n (i-s) (by rw[Nat.succ_mul] at h;omega),show i%s=(i-s)%s from Nat.mod_eq_sub_mod Aa]
def Vj(n:Nat):madeCells (AA.agg #[J Y 0,J Y 0,J Y 0,J Y 0,J Y 0,J Y 0,J Y 0,J Y 0,J Y 0,J Y 0,J Y 0,J Y 0,J Y 0,J Y 0]).cells (n*14)=(nC (AI n zeroI)).toArray:=by
 have f:(nC (AI n zeroI)).length=n*14:=by
  rw[Lf (fun x g=>by rw[B6 g];rfl),Bg]
 apply Array.ext
 . simp[size_madeCells,f]
 . intro i a j
   have d:i<n*14:=by simpa [size_madeCells] using a
   have h:=VV iC zeroI 14 rfl n i d;have b:(nC (AI n zeroI))[i]? =H (J Y 0):=by
    rw[nC,h];have:i%14<14:=JE _ Af;have:i%14=0\/i%14=1\/i%14=2\/i%14=3\/i%14=4\/i%14=5\/i%14=6\/i%14=7\/i%14=8\/i%14=9\/i%14=10\/i%14=11\/i%14=12\/i%14=13:=Aa;rcases this with e|e|e|e|e|e|e|e|e|e|e|e|e|e <;> rw[e] <;> rfl
   have c:(nC (AI n zeroI)).toArray[i]=J Y 0:=by
    have:=(Bo.1 b).2
    simpa using this
   rw[c];simp only[madeCells,AA.cells,Array.getElem_map,Array.getElem_range];have:i%14<14:=JE _ Af;have:i%14=0\/i%14=1\/i%14=2\/i%14=3\/i%14=4\/i%14=5\/i%14=6\/i%14=7\/i%14=8\/i%14=9\/i%14=10\/i%14=11\/i%14=12\/i%14=13:=Aa;rcases this with e|e|e|e|e|e|e|e|e|e|e|e|e|e <;> simp[e]
def Ou(w:I){b:Array BK}{rest:List BK}{o:BK}{a:Act}{Q:Exit->Act->I->Prop}
 (s:o.guard=Z) (l c:Operand) (g:o.op=Op.makeSlice 88 l c) (C:Int) (n:Nat) (t:a.eval l=J Y C) (r:a.eval c=J Y C) (p:C=n) (u:n<=1000000)
 (q:Cj Aq b Q rest (a.put o.dst (Aw (H ⟨w.heap.size,0,Z⟩) n n)) (w.alloc (Ay (nC (AI n zeroI)).toArray 44))):
 Cj Aq b Q (o :: rest) a w:=by
 refine CH s fun K d=>?_
 obtain⟨i,h,j,k,m⟩:=Bs rG;subst p;have f:=run_make (P:=Aq) w 88 44 i (BS #[J Y 0,J Y 0,J Y 0,J Y 0,J Y 0,J Y 0,J Y 0,J Y 0,J Y 0,J Y 0,J Y 0,J Y 0,J Y 0,J Y 0]) underlying88 h j Y Y n n Aa Aa (by rw[m];omega) Aa;unfold BK.wp;simp only[Cf,k,Vj] at f;simp[execOp,g,t,r,f,Result.andThen];exact d _ _ q
def tI(l:Ab)(w:I)(e:Ending)(w':I):Prop:=
 (rJ l/\∃ g,e=Av (AT #[Aw (H ⟨g,0,Z⟩) 8 8,J Y 0])/\w.heap.size<=g/\w'.heap[g]? =H (Ay (nC (TM l 8)).toArray 44 (0,0))/\AB w.heap.size w w')\/
 (¬ rJ l/\e=Av (AT #[Aw Z 0 0,J Y 18])/\AB w.heap.size w w')
def Vi{w:I}{v:AA}{O:Ae}(c:NSl w v O)(h:G7 O=AQ):AH Aq 48 #[v] w fun e w'=>∃ u,e=Av (AT #[u,J Y 0])/\OB w' w.heap.size u (Gw O)/\AB w.heap.size w w':=
 (Wx c).mono fun e w' b=>b.elim (fun a=>a.2) fun a=>by rw[h] at a;cases a.1
def mI{w:I}{v:AA}{O:Ae}(c:NSl w v O)(h:G7 O=AN):AH Aq 48 #[v] w fun e w'=>e=Av (AT #[Aw Z 0 0,J Y 1])/\AB w.heap.size w w':=
 (Wx c).mono fun e w' b=>b.elim (fun a=>by rw[h] at a;cases a.1) fun a=>a.2
def jc{w:I}{v:AA}{l:Ab}(hs:BSl w v l)(hl:l.length=256):AH Aq 108 #[v] w (tI l w):=by
 obtain⟨b,r,m,rfl,CD,hb⟩:=hs.open' Aa;obtain⟨M,M5⟩:∃ M:Nat,M=8:=⟨_,rfl⟩;have X:Hid ((8:Int)=(M:Int)):=wN Aa;have Sz:M<=1000:=Aa;have G:=wN M5;have K:=wN hs;have HL:=wN hl;have n:=wN (fun W (h:BSl W (Aw (H ⟨b,r,Z⟩) l.length m) l) lo (hm:lo+32<=l.length)=>h.mid lo 32 hm);rw[hl] at K n CD |-
 clear M5 hs hl;go_enter func108,ntmps108;go_wp2_with (at_make;refine Ou _ rfl _ _ rfl _ M rfl rfl X.out Aa ?_)
 have hz:(w.alloc (Ay (nC (AI M zeroI)).toArray 44)).heap[w.heap.size]? =H (Ay (nC (EY l M 0)).toArray 44 (0,0)):=by
  rw[Tv];exact AC w _
 have o:AB w.heap.size w (w.alloc (Ay (nC (AI M zeroI)).toArray 44)):=AF _ _;generalize w.alloc (Ay (nC (AI M zeroI)).toArray 44)=w2 at hz o |-
 have HZ:=wN hz;clear hz;go_loopw [14] (fun i wr=>∃ k:Nat,k<=M/\i=J Y k/\Hid (wr.heap[w.heap.size]? =H (Ay (nC (EY l M k)).toArray 44 (0,0)))/\AB w.heap.size w wr) (fun i _=>M-(intOf i).toNat)
 case atStart=>exact⟨0,Aa,rfl,HZ,o⟩
 case round=>
  obtain⟨k,hk,rfl,HR,a⟩:=hrel;clear HZ o;by_cases a3:k<M
  . have a7:(k:Int)<(M:Int):=by omega
    have rQ:k<8:=(by have:=G.out;omega);have q:=n.out _ (K.out.below a) (32*k) Aa;have Xa:(l.drop (32*k)).take 32=MI l k:=rfl;rw[Xa] at q;have KR:=wN (jK q (S0 HL.out k rQ));have N:=Vk l M k;have hj:tY l k=js (MI l k):=rfl;rw[hj] at N;have MZ:=Jb (MI l k);obtain⟨x,hx⟩:=nm (js (MI l k));rw[<- hx] at KR N MZ;have a0:=wN N;have A:=wN MZ;have R:=wN (Yc (Zd l M k));have V:Hid (k<(EY l M k).length):=wN (by rw[Gm];exact a3);have C:32*k+32-32*k=32:=Aa;have D:(k:Int)*32=((32*k:Nat):Int):=(by push_cast;omega);have E:((k:Int)+1)*32=((32*k+32:Nat):Int):=(by push_cast;omega);have y:=wN C;have S:=wN D;have T:=wN E;have a1:32*k+32<=m:=Aa;have MW:w.heap.size<wr.heap.size:=(Au.1 HR.out).1;clear hx N hj MZ q Xa C D E
    go_wp2_with (first
     |(with_reducible refine D0 rfl (.tmp 19) (.tmp 21) (.tmp 24) rfl b r 256 m rfl ((k:Int)*32) (((k:Int)+1)*32) rfl rfl (32*k) (32*k+32) 32 y.out S.out T.out Aa a1 Aa ?_)
     |(go_at_call 153;refine Ad KR.out ?_;rintro Q c
       have a4:Q.heap[w.heap.size]? =H (Ay ((EY l M k).flatMap iC).toArray 44 (0,0)):=(c.block _ MW).trans HR.out)
     |(with_reducible refine EW (f:=iC) (s:=14) rfl 44 (.tmp 27) (.tmp 26) rfl Xf w.heap.size k (EY l M k) x 44 rfl rfl a4 V.out R.out (by rw[CF];exact A.out) (Qq x) ?_
       intro w4 a5 F;rw[a0.out] at F))
    go_roundw
    case rel=>exact⟨k+1,Aa,by go_num,F,(a.trans (c.mono a.size)).trans (a5.below (AE _))⟩
    case measure=>simp[intOf];omega
  . have P:=HR.out
    have a2:k=M:=Aa;rw[a2,Tn] at P;have p:=NR.of_row (B:=w.heap.size) (rM l M) (AE _) P (by rw[LP];simp only[maxLen];omega);rw[LP] at p;have g:NSl wr (Aw (H ⟨w.heap.size,0,Z⟩) M M) (TM l 8):=by
     have:=p.sl;rw[show TM l 8=TM l M by rw[G.out]];exact this
    have z:Hid (wr.heap[w.heap.size]? =H (Ay (nC (TM l 8)).toArray 44 (0,0))):=wN (by rw[show TM l 8=TM l M by rw[G.out]];exact P);have a6:=wN a;clear P p;cases t:G7 (TM l 8)
    . have U:=wN t
      have L:=wN (mI g t);clear t g;go_wp2_with (go_at_call 48;refine Ad L.out ?_;rintro Q c)
      go_ret2;exact A8 ⟨(fun h=>by have O:=h.2.1;rw[U.out] at O;cases O),rfl,a.trans (c.mono a.size)⟩
    . have U:=wN t
      have L:=wN (Vi g t);obtain⟨B,hB⟩:∃ B,decide (Gw (TM l 8)=l)=B:=⟨_,rfl⟩;have HB:=wN hB;have KQ:=wN (fun W u (h1:BSl W u (Gw (TM l 8))) (O:BSl W (Aw (H ⟨b,r,Z⟩) 256 m) l)=>Ep h1 O);rw[hB] at KQ;clear t g hB;cases B
      . go_wp2_with (first
         |(go_at_call 48;refine L.out.mono ?_;rintro e Q ⟨u3,rfl,j,c⟩
           have d:=a.trans (c.mono a.size))|(go_at_call 152;refine Ad (KQ.out _ _ j.bsl (K.out.below d)) ?_;rintro w4 rfl))
        go_ret2;exact A8 ⟨(fun h=>BL HB.out h.2.2),rfl,d⟩
      . go_wp2_with (first
         |(go_at_call 48;refine L.out.mono ?_;rintro e Q ⟨u3,rfl,j,c⟩
           have d:=a.trans (c.mono a.size))|(go_at_call 152;refine Ad (KQ.out _ _ j.bsl (K.out.below d)) ?_;rintro w4 rfl))
        go_ret2;exact A4 ⟨⟨HL.out,U.out,Ba HB.out⟩,_,(by rw[G.out];rfl),AE _,(c.block _ (Au.1 z.out).1).trans z.out,d⟩
def ml{w:I}{g:Nat}{O:Ae}(b:F4 O)(a:O.length=8)(c:w.heap[g]? =H (Ay (nC O).toArray 44 (0,0))):NSl w (Aw (H ⟨g,0,Z⟩) 8 8) O:=by
 have:=(NR.of_row (B:=g) b (AE _) c (by rw[a];simp only[maxLen];omega)).sl
 rwa [a] at this
end
section
open Go.RowKit BM
def FsAt(w:I)(bf:Nat)(p:AA):Prop:=w.heap[bf]? =H (Ay #[p] 66 (0,0))
def FsAt.low{w w':I}{bf:Nat}{p:AA}(h:FsAt w bf p)(hb:AB w.heap.size w w'):FsAt w' bf p:=BD h hb
def FsAt.cell{w:I}{bf:Nat}{p:AA}(h:FsAt w bf p):w.cell? ⟨bf,0,Z⟩=H p:=by rw[AD _ _ _ _ _ _ h];rfl
def FsAt.chg{w w':I}{P a:Nat->Prop}{bf:Nat}{p:AA}(h:FsAt w bf p)(b:Chg P a w w')(c:¬ P bf):FsAt w' bf p/\¬ a bf:=by
 have:=b.keep bf (Au.1 h).1 c;exact⟨this.1.trans h,this.2⟩
def SInv.xok{w:I}{P:Nat->Prop}{d p:AA}{X:XSt}(h:SInv w P d p X):XOk X:=by
 obtain⟨_,_,_,_,_,_,_,_,_,_,_,_,_,a,_⟩:=h;exact a.ok
def Ip{w:I}{bf:Nat}{p:AA}(h:FsAt w bf p):AH Aq 49 #[G (H ⟨bf,0,Z⟩)] w fun e w'=>e=Av p/\w=w':=by
 have a:=h.cell;clear h;go_enter func49,ntmps49;go_wp2;go_ret;exact⟨rfl,rfl⟩
def QC{w:I}{P:Nat->Prop}{d p:AA}{X:XSt}{E:Ab}{n:Nat}(h:SInv w P d p X)(i:n<X.cur.length)(j:D7 n)(g:X.cur.getD n []=E){W:I}(hb:AB w.heap.size w W):
 AH Aq 104 #[p,J Y (n:Nat)] W fun e w'=>∃ v,e=Av (AT #[v,J Y 0])/\BSl w' v E/\AB W.heap.size W w':=
 (Mt (h.low hb) (n:=n) (by rw[<- h.xok.curLen];exact i)).mono fun e w' ⟨v,l,a,b,c,f⟩=>⟨v,a,by rw[<- g];exact(c j) ▸ b,f⟩
def fQ{w:I}{v:AA}{L:Ab}(h:BSl w v (Gh L))(c:L.length=12)(hf:DU L=AQ):AH Aq 107 #[v] w fun e w'=>e=Av (AT #[Gp L,J Y 0])/\AB w.heap.size w w':=by
 obtain⟨a,b⟩:=nw c hf;refine(mG h).mono fun e w' ⟨d,g⟩=>⟨?_,d⟩
 rcases g with⟨_,he⟩| ⟨f,_⟩
 . rw[he,b]
 . exact absurd a f
def jg{w:I}{v:AA}{O:Ae}(i:BSl w v (Gw O))(a:F4 O)(hf:G7 O=AQ):AH Aq 108 #[v] w fun e w'=>∃ g,e=Av (AT #[Aw (H ⟨g,0,Z⟩) 8 8,J Y 0])/\w.heap.size<=g/\w'.heap[g]? =H (Ay (nC O).toArray 44 (0,0))/\AB w.heap.size w w':=by
 refine(jc i (Qc O)).mono fun e w' h=>?_
 rcases h with⟨_,g,he,d,b,c⟩| ⟨f,_⟩
 . rw[ZY a hf] at b
   exact⟨g,he,d,b,c⟩
 . exact absurd (kA a hf) f
section
variable {w:I}{P:Nat->Prop}{d p:AA}{X:XSt}{S:Ab}{N:Ae}{bf:Nat}
def LA(h:SInv w P d p X)(hf:FsAt w bf p)(f:Tab X.cur S N){W:I}(hb:AB w.heap.size w W):
 AH Aq 64 #[G (H ⟨bf,0,Z⟩)] W fun e w'=>e=Av (AT #[Gp S,J Y 0])/\AB W.heap.size W w':=by
 have r:=E6 f.sf (t:=0) Af;have K:=f.le;have b:=AF W (Cm De 135);have i:=AC W (Cm De 135);obtain⟨z,j⟩:=nm (W.alloc (Cm De 135));rw[<- j] at b i;have A:W.alloc (Ay #[J Y 0,J Y 0,J Y 0,J Y 0,J Y 0,J Y 0,J Y 0,J Y 0,J Y 0,J Y 0,J Y 0,J Y 0] 135)=z:=by rw[j];rfl
 have o:=hb.trans (b.mono hb.size);have C:=wN A;have D:=wN (Ip (hf.low o));have F:=wN (QC (n:=0) h Aa (A4 Af) f.g0 o);have E:=wN (fun(W:I) (v:AA) (M:BSl W v (Gh S))=>fQ M f.s12 f.sf);have a:=f.s12;have m:Hid (∀ V,AB z.heap.size z V->V.heap[W.heap.size]? =H (Cm De 135)):=wN fun V u=>BD i u
 clear hf f r K h hb o A j i;go_enter func64,ntmps64
 go_wp2_with (first
  |(go_at_call 49;rw[C.out];refine Ad D.out ?_;rintro w' rfl)|(go_at_call 104;refine F.out.mono ?_;rintro e Q ⟨v,rfl,u,g⟩)|(go_at_call 107;refine Ad (E.out _ _ u) ?_;rintro k l)
  |(with_reducible refine CW rfl (.tmp 6) (.tmp 20) rfl k.heap.size rfl S De rfl a rfl _ (AC k _) ?_
    intro O x B;have q:AB k.heap.size k O:=(AF k _).trans (x.below (AE _));have c:=(g.trans (l.mono g.size)).trans (q.mono (AU g.size l.size));have s:=m.out _ c)|(with_reducible refine Fi rfl (.tmp 6) rfl k.heap.size rfl S a _ B ?_)|(with_reducible refine CW rfl (.tmp 2) (.tmp 25) rfl W.heap.size rfl S De rfl a rfl _ s ?_;intro w7 y L))
 exact A9 (J7 rfl _ _ W.heap.size _ _ _ a rfl L rfl) rfl ⟨rfl,(b.trans (c.mono b.size)).trans (y.below (AE _))⟩
def NY(h:SInv w P d p X)(hf:FsAt w bf p)(f:Tab X.cur S N){t:Nat}(m:t<6){W:I}(hb:AB w.heap.size w W):
 AH Aq 65 #[G (H ⟨bf,0,Z⟩),J Y (C5 S t:Nat)] W fun e w'=>∃ g,e=Av (AT #[Aw (H ⟨g,0,Z⟩) 8 8,J Y 0])/\W.heap.size<=g/\w'.heap[g]? =H (Ay (nC (Jv N t)).toArray 44 (0,0))/\AB W.heap.size W w':=by
 have c:=E6 f.sf m;have y:=f.le;obtain⟨a,o⟩:=f.n.all m;obtain⟨T,q⟩:=nm (Jv N t);obtain⟨k,r⟩:=nm (C5 S t);have i:=f.tb t m;rw[<- q] at a o i |-
 rw[<- r] at c i |-
 have s:=wN (Ip (hf.low hb));have x:=wN (QC (n:=k) h Aa c.2.2.2.2.1 i hb);have u:=wN (fun(W:I) (v:AA) (A:BSl W v (Gw T))=>jg A a o);clear hf f c y h hb i q a o r;go_enter func65,ntmps65
 go_wp2_with (first|(go_at_call 49;refine Ad s.out ?_;rintro w' rfl)|(go_at_call 104;refine x.out.mono ?_;rintro e C ⟨v,rfl,B,b⟩)|(go_at_call 108;refine(u.out _ _ B).mono ?_;rintro e D ⟨g,rfl,l,z,j⟩))
 go_ret2;exact⟨g,rfl,AU b.size l,z,b.trans (j.mono b.size)⟩
end
def S6:(Aq.info? 90).map (·.size)=H 3:=Ac
def Hs:(Aq.info? 44).map (·.size)=H 14:=Ac
def VH{fn:Func}{p u:Tmp}(h:fn.results=#[.cell p 44,.tmp u])(tmps:Array AA)(w:I)(g:Nat)(T:Cn)(L:Ab)(x:AA)(a:L.length=14)(hp:tmps.getD p undef=G (H ⟨g,0,Z⟩))(b:w.heap[g]? =H (iO L T))(c:tmps.getD u undef=x):
 (results fn tmps).run Aq w=.ok (AT #[BS (iC L).toArray,x]) w:=by
 rw[results_cell_tmp h,hp,c];simp only[asAddr,Sem.run_pure,Result.andThen_ok];rw[run_loadVar_row w g T 44 _ (0,0) _ b underlying44 rfl (by rw[Hs];simp[iC,a])];rfl
def FH{b:Array BK}{rest:List BK}{o:BK}{a:Act}{w:I}{Q:Exit->Act->I->Prop}(f:o.guard=Z)(x y:Operand)(j:o.op=.store 44 x y)
 (g:Nat) (k:a.eval x=G (H ⟨g,0,Z⟩)) (L M:Ab) (l:a.eval y=BS (iC L).toArray) (c:L.length=14) (i:M.length=14) (T:Cn) (d:w.heap[g]? =H (iO M T))
 (h:∀ w',Wrote w w' g->w'.heap[g]? =H (iO L T)->Cj Aq b Q rest (a.put o.dst undef) w'):Cj Aq b Q (o :: rest) a w:=
 C8 f 44 x y j g _ k l T _ d (by rw[Hs];simp[iC,c]) (by simp[iC,c,i]) (VC L) (h _ (Wrote.setRow _ _ _) (CJ _ _ _ _ _ _ d))
section
variable {w:I}{P:Nat->Prop}{d p:AA}{X:XSt}{S:Ab}{N:Ae}{bf:Nat}
def sR{n:Int}(j:n<1\/47<n)(f:AA)(W:I):AH Aq 34 #[f,J Y n] W fun e w'=>e=Av (AT #[BS #[J Y 0,Aw Z 0 0,J Y 0],J Y 1])/\AB W.heap.size W w':=by
 have c:=AF W (Ay #[J Y 0,Aw Z 0 0,J Y 0] 90);have a:=AC W (Ay #[J Y 0,Aw Z 0 0,J Y 0] 90);obtain⟨m,b⟩:=nm (W.alloc (Ay #[J Y 0,Aw Z 0 0,J Y 0] 90));rw[<- b] at c a;have k:=wN b.symm;have d:=wN a;have l:=wN (cK n j);clear j b a;go_enter func34,ntmps34;go_upto_region 2 with(go_at_call 63;rw[k.out];refine Ad (l.out _) ?_;rintro w' rfl)
 have g:=d.out;go_wp2_with (with_reducible refine BO rfl 90 S6 (.tmp 4) (.tmp 18) rfl W.heap.size rfl _ _ _ _ _ _ rfl rfl rfl rfl _ g ?_;intro o i h)
 refine A9 (DJ rfl underlying90 S6 _ _ W.heap.size _ _ _ _ _ rfl h rfl) rfl ⟨rfl,c.trans (i.below (AE _))⟩
def Qs(h:SInv w P d p X)(hf:FsAt w bf p)(u:Tab X.cur S N){n:Nat}(h0:1<=n)(BR:n<48){W:I}(hb:AB w.heap.size w W):
 AH Aq 34 #[G (H ⟨bf,0,Z⟩),J Y n] W fun e w'=>∃ g,e=Av (AT #[BS #[J Y (C5 S (n / 8):Nat),Aw (H ⟨g,0,Z⟩) 8 8,J Y (n%8:Nat)],J Y 0])/\W.heap.size<=g/\
  w'.heap[g]? =H (Ay (nC (Jv N (n / 8))).toArray 44 (0,0))/\AB W.heap.size W w':=by
 have D:n / 8<6:=Aa;have hj:n%8<8:=Aa;have e1:(n:Int) / 8=((n / 8:Nat):Int):=Aa;have e2:(n:Int)%8=((n%8:Nat):Int):=Aa;have B:=wN (YD (n:Int) Aa Aa);rw[e1,e2] at B;clear e1 e2;obtain⟨t,x⟩:=nm (n / 8);obtain⟨j,qt⟩:=nm (n%8);rw[<- x] at B D |-
 rw[<- qt] at B hj |-
 clear x qt h0 BR;have b:=AF W (Ay #[J Y 0,Aw Z 0 0,J Y 0] 90);have l:=AC W (Ay #[J Y 0,Aw Z 0 0,J Y 0] 90);obtain⟨w1,o⟩:=nm (W.alloc (Ay #[J Y 0,Aw Z 0 0,J Y 0] 90));rw[<- o] at b l;have H1:=wN o.symm;have F:=hb.trans (b.mono hb.size);have r:Hid (∀ V,AB w1.heap.size w1 V->V.heap[W.heap.size]? =H (Ay #[J Y 0,Aw Z 0 0,J Y 0] 90 (0,0))):=wN fun V U=>BD l U
 have KS:=wN (LA h hf u F);have q:=wN F;have E:=wN (fun(V:I) (U:AB w.heap.size w V)=>NY h hf u D U);have K:=u.s12;have i:=(E6 u.sf D).1;obtain⟨A,hA⟩:=nm (C5 S t);obtain⟨T,ZJ⟩:=nm (Jv N t);rw[<- hA] at E i |-
 rw[<- ZJ] at E |-
 have et:(t:Int)<6:=Aa;have a1:¬ (t:Int)<0:=Aa;have s:Hid (∀ (V C:I),V.heap.size<C.heap.size->C.heap[V.heap.size]? =H (Cm S 135)->C.cell? ⟨V.heap.size,6+t,Z⟩=H (J Y A)):=wN fun V C _ hr=>by
  rw[Ib hr (6+t) Aa,i]
 clear h hf u hb F o l hA ZJ i D;go_enter func34,ntmps34
 go_wp2_with (first
  |(go_at_call 63;rw[H1.out];refine Ad (B.out _) ?_;rintro w' rfl)|(go_at_call 64;refine Ad KS.out ?_;rintro z v)
  |(with_reducible refine CW rfl (.tmp 8) (.tmp 22) rfl z.heap.size rfl S De rfl K rfl _ (AC z _) ?_
    intro w3 a0 m;have L:AB z.heap.size z w3:=(AF z _).trans (a0.below (AE _));have k:=(Au.1 m).1;have a:=v.trans (L.mono v.size);have c3:=s.out _ _ k m)
  |(go_at_call 65;refine(E.out _ (q.out.trans (a.mono q.out.size))).mono ?_;rintro e w4 ⟨g,rfl,a2,O,f⟩
    have c:=a.trans (f.mono a.size);have Q:=r.out _ c;have c4:=s.out _ _ (AL k f.size) ((f.block _ k).trans m))|(with_reducible refine BO rfl 90 S6 (.tmp 4) (.tmp 47) rfl W.heap.size rfl _ _ _ _ _ _ rfl rfl rfl rfl _ Q ?_;intro w9 y R))
 have M:g≠W.heap.size:=by
  have:=b.size;have:=a.size;have:=(Au.1 (r.out w1 (AP _ _))).1;omega
 refine A9 (DJ rfl underlying90 S6 _ _ W.heap.size _ _ _ _ _ rfl R rfl) rfl ⟨g,rfl,?_,(y.2.2.2.2 g M).trans O,(b.trans (c.mono b.size)).trans (y.below (AE _))⟩;have:=b.size;have:=a.size;omega
def He(h:SInv w P d p X)(hf:FsAt w bf p)(o:Tab X.cur S N){n:Nat}(h0:1<=n)(M:n<48){W:I}(hb:AB w.heap.size w W):
 AH Aq 13 #[G (H ⟨bf,0,Z⟩),J Y n] W fun e w'=>e=Av (AT #[BS (iC (N.getD n [])).toArray,J Y 0])/\AB W.heap.size W w':=by
 have ht:n / 8<6:=Aa;have hj:n%8<8:=Aa;have b:=AF W (iO zeroI 44);have l:=AC W (iO zeroI 44);obtain⟨L,m⟩:=nm (W.alloc (iO zeroI 44));rw[<- m] at b l;have R:W.alloc (Ay #[J Y 0,J Y 0,J Y 0,J Y 0,J Y 0,J Y 0,J Y 0,J Y 0,J Y 0,J Y 0,J Y 0,J Y 0,J Y 0,J Y 0] 44)=L:=by rw[m];rfl
 have O:=hb.trans (b.mono hb.size);have H1:=wN R;have u:Hid (∀ V,AB L.heap.size L V->V.heap[W.heap.size]? =H (iO zeroI 44)):=wN fun V hv=>BD l hv
 have z:=wN (Qs h hf o h0 M O);obtain⟨A,U⟩:=nm (C5 S (n / 8));obtain⟨T,C⟩:=nm (Jv N (n / 8));have t:(Jv N (n / 8)).getD (n%8) []=N.getD n []:=by rw[QA N _ hj];congr 1;omega
 have B:=o.n.get M;have i:=TW o.n.l14 (n / 8);have qu:=If o.n.len ht;rw[<- U,<- C] at z;rw[<- C] at t i qu;obtain⟨x,Q⟩:=nm (N.getD n []);rw[<- Q] at t B |-
 obtain⟨j,qt⟩:=nm (n%8);rw[<- qt] at z hj t;have v:Hid (∀ (V:I) (g:Nat),V.heap[g]? =H (Ay (nC T).toArray 44 (0,0))->V.rangeAt g (j*14) (iC x)):=wN fun V g hr=>by
  have:=Qf (f:=iC) (s:=14) (k:=j) hr (fun y hy=>by rw[CF];exact i y hy) Aa;rw[<- t,Az,AX Aa];exact this
 have a:=wN B;have ej:(j:Int)<8:=Aa;have u1:=underlying44;clear h hf o hb O R m l U C t i qu Q qt ht B;go_enter func13,ntmps13
 go_wp2_with (first
  |(go_at_call 34;rw[H1.out];refine z.out.mono ?_;rintro e w2 ⟨g,rfl,a0,D,q⟩
    have c:=AF w2 (Ay #[J Y A,Aw (H ⟨g,0,Z⟩) 8 8,J Y j] 90);have r:=q.trans (c.mono q.size);have E:=u.out _ r;have NQ:=v.out _ g (BD D c))|(with_reducible refine BG rfl 44 (.tmp 22) rfl g (j*14) rfl x _ NQ u1 rfl (by rw[Hs,a.out]) ?_)|(with_reducible refine FH rfl (.tmp 4) (.tmp 23) rfl W.heap.size rfl x zeroI rfl a.out rfl _ E ?_;intro w9 K F))
 refine A9 (VH rfl _ _ W.heap.size _ _ _ a.out rfl F rfl) rfl ⟨rfl,(b.trans (r.mono b.size)).trans (K.below (AE _))⟩
end
section
variable {w:I}{P:Nat->Prop}{d p:AA}{X:XSt}{O:Ag}{k:Nat}
def Xh(h:SInv w P d p X)(v:Has X.cur O k)(f:OOk O k){m:Nat}(a:1<=m)(y:m<=k):
 AH Aq 215 #[p,J Y (64*(m:Int))] w fun e w'=>e=Av (AT #[J Y (Dz O (64*m)),J Y 0])/\AB w.heap.size w w':=by
 have g:=f.k12;have t:=wN (UD h v f a y);have D:=wN (fun(W:I)=>Sh m a Aa W);obtain⟨R,i⟩:=nm (CY O (64*m));have o:=PN f (64*m) Aa;rw[<- i] at o t;have E:=oy (64*m);have F:=WC m a Aa;have s:Hid (∀ W q r,BRow W q r R->AH Aq 235 #[G (H ⟨q,0,Z⟩)] W fun e w'=>e=Av (J Y (Ec R))/\∃ m,w'=W.drewN m):=wN fun W q r L=>QE L
 have b:=Kv R;have j:R.length=64*m:=by rw[i,EL]
 obtain⟨C,u⟩:=nm (Ec R);rw[<- u] at s o b;obtain⟨U,x⟩:=nm (Dz O (64*m));have B:Hid ((C:Int)-(64*(m:Int)-(62*(m:Int)-42))=U):=wN Aa;have K:(C:Int)<=768:=Aa;have A:(m:Int)<=12:=Aa;have z:(1:Int)<=m:=Aa;rw[<- x];clear i o E F b j u x h v f y a g;go_enter func215,ntmps215
 go_wp2_with (first|(go_at_call 234;refine t.out.mono ?_;rintro e M ⟨q,r,rfl,c,l⟩)|(go_at_call 216;refine Ad (D.out _) ?_;rintro w' rfl)|(go_at_call 235;refine Ad (s.out _ _ _ c) ?_;rintro N ⟨n,rfl⟩))
 go_ret2;exact⟨by first|rfl|(rw [B.out];rfl),Bd l _⟩
def XM(h:SInv w P d p X)(i:Has X.cur O k)(j:OOk O k){m:Nat}(a:1<=m)(o:m<=k)(g:Int):
 AH Aq 217 #[p,J Y (64*(m:Int)),J Y g] w fun e w'=>e=Av (AT #[J Y (G4 O (64*m) (GZ (64*m) g)),J Y 0])/\AB w.heap.size w w':=by
 have f:=wN (UD h i j a o);rw[<- mm (show 0<64*m from Aa)];obtain⟨R,l⟩:=nm (CY O (64*m));rw[<- l] at f |-
 have s:Hid (∀ W q r,BRow W q r R->AH Aq 236 #[G (H ⟨q,0,Z⟩),J Y g] W fun e w'=>e=Av (J Y (JL R g))/\∃ m,w'=W.drewN m):=wN fun W q r t=>YG t g
 clear l h i j o a;go_enter func217,ntmps217
 go_wp2_with (first|(go_at_call 234;refine f.out.mono ?_;rintro e u ⟨q,r,rfl,b,c⟩)|(go_at_call 236;refine Ad (s.out _ _ _ b) ?_;rintro v ⟨n,rfl⟩))
 go_ret2;exact⟨rfl,Bd c _⟩
end
end
section
open Go.RowKit Go.Maps
def N0{w w':I}{m b o:Nat}(h:w.grownBy w' (H m))(hb:b<w.heap.size)(a:b≠m):w'.cell? ⟨b,o,Z⟩=w.cell? ⟨b,o,Z⟩:=by
 apply Bi;exact h.block b hb fun e=>a (Bc e)
def addS_mem{N:Ab}{n y:Int}:y∈D9 N n ↔ y∈N\/y=n:=by
 unfold D9;split
 . exact⟨A4,fun h=>h.elim id fun e=>by rw[e];assumption⟩
 . simp
section
variable {w:I}{P:Nat->Prop}{d p:AA}{X:XSt}
def jW{Pd:Nat->Prop}{b be o:Nat}{q:Int}{ek:Ab}{eg:Int->AA}{ev:Int->Ab}{pk:Ab}{pg:Int->AA}{pv:Int->Ab}{ds:DS}(h:SMem w Pd b be o d q ek eg ev pk pg pv AQ ds)
 {n:Int} {v:AA} {l:Ab} (hv:BSl w v l) (V:l.length=256) (hn:0<=n/\n<ds.F.length) (Lp:ds.F.length<=768) (P:pk.length<=37) (i:n∈pk\/pk.length<37):
 AH Aq 50 #[G (H ⟨b,0,Z⟩),.int Y n,v] w fun e w'=>e=Av (.int Y 0)/\∃ u,SMem w' Pd b be o d q ek eg ev (D9 pk n) (fun y=>if y=n then u else pg y) (fun y=>if y=n then l else pv y) AQ ds/\
  (∀ g,u.ownBlock=H g->w.heap.size<=g/\g<w'.heap.size)/\w.heap.size<=w'.heap.size/\Ext (fun k=>k=o) w w':=by
 have Ut:(Lit.int Y n).wf=AQ:=Ls Aa;have KA:=wN (E5 h AQ);have KH:=wN (OQ h n);rw[AK hn] at KH;have KL:=wN (Mw w n);rw[AK Aa] at KL;have c3:=h.c3;have O:=h.mp.look_ok Ut;have X:=fun ty=>h.mp.len ty
 have KC:=wN (fun W (hb:AB w.heap.size w W)=>Ny (hv.below hb) (by rw[V];decide));have HB:=wN (fun W (hb:AB w.heap.size w W)=>h.below hb);have HW:=wN Ut;have HP:=wN P;have J:=wN V;obtain⟨ao,a0,rfl,_⟩:=hv.shape;rw[V] at KC |-
 have C:=wN h.bl;have HN:Hid (b<w.heap.size/\b≠o):=wN ⟨h.bl,fun e=>h.nb.2 e.symm⟩;refine AH.mono (R:=fun e w'=>e=Av (.int Y 0)/\∃ u s,OB s w.heap.size u l/\AB w.heap.size w s/\Mp w' o (D9 pk n) (fun y=>if y=n then u else pg y)/\s.grownBy w' (H o)/\w'.heap.size=s.heap.size) ?_ ?_
 . obtain⟨uu,su⟩:=nm ((if n∈pk then pg n else Aw Z 0 0))
   rw[<- su] at O;obtain⟨m,hm⟩:=nm pk.length;rw[<- hm] at X HP i;have HM:=wN hm;by_cases z:n∈pk
   . rw[AK z] at O
     clear h hv hn Lp i P Ut su z V hm;go_enter func50,ntmps50
     go_wp2_with (first|(go_at_call 43;(with_reducible refine Ad KA.out ?_);rintro w' rfl)|(go_at_call 93;(with_reducible refine Ad KH.out ?_);rintro w' rfl)|(go_at_call 94;(with_reducible refine Ad KL.out ?_);rintro w' rfl))
     have N:=wN (KC.out w.drew (Bd (AP _ _) 1));have d3:w.drew.cell? ⟨b,3,Z⟩=H (.map (H o)):=c3
     go_region_held3 (fun W=>W.cell? ⟨b,3,Z⟩=H (.map (H o))) (first|exact f3|exact S|exact d3) (first
      |(go_at_call 95;(with_reducible refine N.out.mono ?_);rintro e s ⟨u,rfl,f,c⟩
        have S:=(c.cell (p:=⟨b,3,Z⟩) C.out).trans c3;have L:=wN f;have j:=wN (show AB w.heap.size w s from(Bd (AP _ _) 1).trans c);obtain⟨dd,T⟩:=Blo.hdr (v:=u) ⟨f.more (A7 _),J.out⟩;obtain⟨w4,uP,lG,r,A⟩:=(HB.out _ j.out).mp.store HW.out T (by have:=HP.out;have:=HM.out;omega);have f3:w4.cell? ⟨b,3,Z⟩=H (.map (H o)):=(N0 r (AL C.out j.out.size) HN.out.2).trans S;have K:=wN lG;have I:=wN r;have M:=wN A;clear f c T lG r A))
     go_wp2;go_ret;exact⟨rfl,u,s,L.out,j.out,K.out,I.out,M.out⟩
   . have uQ:(m:Int)<37:=by have:=i.resolve_left z;omega
     rw[AM z] at O;clear h hv hn Lp i P Ut su z V hm;go_enter func50,ntmps50
     go_wp2_with (first|(go_at_call 43;(with_reducible refine Ad KA.out ?_);rintro w' rfl)|(go_at_call 93;(with_reducible refine Ad KH.out ?_);rintro w' rfl)|(go_at_call 94;(with_reducible refine Ad KL.out ?_);rintro w' rfl))
     have N:=wN (KC.out w.drew (Bd (AP _ _) 1));have d3:w.drew.cell? ⟨b,3,Z⟩=H (.map (H o)):=c3
     go_region_held3 (fun W=>W.cell? ⟨b,3,Z⟩=H (.map (H o))) (first|exact f3|exact S|exact d3) (first
      |(go_at_call 95;(with_reducible refine N.out.mono ?_);rintro e s ⟨u,rfl,f,c⟩
        have S:=(c.cell (p:=⟨b,3,Z⟩) C.out).trans c3;have L:=wN f;have j:=wN (show AB w.heap.size w s from(Bd (AP _ _) 1).trans c);obtain⟨dd,T⟩:=Blo.hdr (v:=u) ⟨f.more (A7 _),J.out⟩;obtain⟨w4,uP,lG,r,A⟩:=(HB.out _ j.out).mp.store HW.out T (by have:=HP.out;have:=HM.out;omega);have f3:w4.cell? ⟨b,3,Z⟩=H (.map (H o)):=(N0 r (AL C.out j.out.size) HN.out.2).trans S;have K:=wN lG;have I:=wN r;have M:=wN A;clear f c T lG r A))
     go_wp2;go_ret;exact⟨rfl,u,s,L.out,j.out,K.out,I.out,M.out⟩
 . rintro e w' ⟨rfl,u,s,f,c,gK,U,Ef⟩
   have a:=HB.out s c;have t:Blo s u l:=⟨f.more (A7 _),J.out⟩;have E:∀ k,k<s.heap.size->k≠o->w'.heap[k]? =s.heap[k]? :=fun k E hn=>U.block k E fun e=>hn (Bc e)
   have D:Ext (fun k=>k=o) w w':=(Ext.of_below c).trans (P2:=fun k=>k=o) (Ext.of_grown U rfl) fun x _ e=>e
   refine⟨rfl,u,⟨?_,?_,a.q0,?_,gK,a.ne,?_,?_⟩,?_,D.size,D⟩
   . rw[E b a.bl fun e=>a.nb.2 e.symm];exact a.hb
   . exact a.dk.same fun k hp=>E k (a.dk.lt k hp) fun e=>Mp.nd a.dk a.mp (e ▸ hp)
   . exact a.me.keep (E be a.me.lt a.ne)
   . exact fun x hx=>(a.re x hx).keep fun g B=>E g ((a.re x hx).lt B) ((a.re x hx).nm B a.mp)
   . intro x hx
     by_cases e:x=n
     . rw[AG e,AG e]
       exact t.keep fun g B=>E g (t.lt B) (t.nm B a.mp)
     . rw[AJ e,AJ e]
       have Q:=(addS_mem.1 hx).resolve_right e;exact(a.rp x Q).keep fun g B=>E g ((a.rp x Q).lt B) ((a.rp x Q).nm B a.mp)
   . intro g B
     have:=BY f.2 g B;exact⟨this.1,by rw[Ef];exact this.2⟩
def MM(h:SInv w P d p X){n:Int}{v:AA}{l:Ab}(hv:BSl w v l)(W: -9223372036854775808<=n/\n<=9223372036854775807)(S:D7 n.toNat):AH Aq 50 #[p,.int Y n,v] w (OA SInv w P d p (jU X n l)):=by
 have O:=h;obtain⟨b,be,bp,Pd,q,ek,eg,ev,C,pg,pv,rfl,r,a,s,o⟩:=h;have Us:=a.ok.lst.1;have Lp:=a.n64.2;have N:(Lit.int Y n).wf=AQ:=Ls W;have c:∀ z:Int,AH Aq 50 #[G (H ⟨b,0,Z⟩),.int Y n,v] w (fun e g=>e=Av (.int Y z)/\w=g)->AH Aq 50 #[G (H ⟨b,0,Z⟩),.int Y n,v] w (OA SInv w P d (G (H ⟨b,0,Z⟩)) (z,X)):=fun z h=>h.mono fun e g ⟨he,hw⟩=>by
  subst hw;exact⟨he,P,O,Chg.refl _ _⟩
 have K:=wN (E5 r AQ);have D:=wN (OQ r n);have M:=wN (Mw w n);obtain⟨ao,a6,B,_⟩:=hv.shape;unfold jU;cases hw:X.wi
 . rw[AG rfl]
   refine c 17 ?_;rw[hw] at K;clear O r a s o Us Lp c hv S W D M N;go_enter func50,ntmps50;go_wp2_with (go_at_call 43;(with_reducible refine Ad K.out ?_);rintro g rfl)
   go_ret;exact⟨rfl,rfl⟩
 . rw[AJ Af]
   rw[hw] at K r;obtain⟨E,j,WQ⟩:=a.wi1 hw;by_cases Q:n<0\/(X.is.length:Int)<=n\/l.length≠256
   . rw[AG Q]
     refine c 1 ?_;by_cases y:0<=n/\n<X.ds.F.length
     . rw[AK y] at D
       rw[AK Aa] at M;have T:¬ (l.length:Int)=256:=Aa;obtain⟨L,hL⟩:=nm l.length;rw[<- hL] at B T;subst B;clear O r a s o Us Lp c hv S W N E j WQ Q y hL;go_enter func50,ntmps50
       go_wp2_with (first|(go_at_call 43;(with_reducible refine Ad K.out ?_);rintro g rfl)|(go_at_call 93;(with_reducible refine Ad D.out ?_);rintro g rfl)|(go_at_call 94;(with_reducible refine Ad M.out ?_);rintro g rfl))
       go_ret;exact⟨rfl,rfl⟩
     . rw[AM y] at D
       clear O r a s o Us Lp c hv S W N E j WQ Q y M;go_enter func50,ntmps50
       go_wp2_with (first|(go_at_call 43;(with_reducible refine Ad K.out ?_);rintro g rfl)|(go_at_call 93;(with_reducible refine Ad D.out ?_);rintro g rfl))
       go_ret;exact⟨rfl,rfl⟩
   . rw[AJ Q]
     have y:0<=n/\n<X.ds.F.length:=Aa;have T:l.length=256:=Aa;by_cases A:n ∉ X.put/\37<=X.put.length
     . rw[AG A]
       refine c 13 ?_;rw[E] at A;rw[AK y] at D;rw[AK Aa] at M;have c3:=r.c3;have a3:=r.mp.look_ok N;have U:=fun ty=>r.mp.len ty
       rw[AJ A.1,AM A.1] at a3;have uQ:37<=(C.length:Int):=Aa;obtain⟨m,V⟩:=nm C.length;rw[<- V] at U uQ;rw[T] at B;subst B;clear O r a s o Us Lp c hv S W N E j WQ Q y A T V;go_enter func50,ntmps50
       go_wp2_with (first|(go_at_call 43;(with_reducible refine Ad K.out ?_);rintro g rfl)|(go_at_call 93;(with_reducible refine Ad D.out ?_);rintro g rfl)|(go_at_call 94;(with_reducible refine Ad M.out ?_);rintro g rfl))
       go_ret;exact⟨rfl,rfl⟩
     . rw[AJ A]
       refine(jW r hv T y Aa a.pl ?_).mono ?_
       . rw[E] at A
         by_cases f:n∈C
         . exact A4 f
         . refine A8 ?_
           have:¬ 37<=C.length:=fun h=>A ⟨f,h⟩
           omega
       . rintro e g ⟨rfl,u,a4,hu,Ef,R⟩
         have hP:∀ k,k=bp->P k:=fun k e=>s k (A8 (A8 (A8 (A4 e))))
         refine⟨rfl,wj P w g,⟨b,be,bp,Pd,q,ek,eg,ev,D9 C n,_,_,rfl,a4,?_,?_,?_⟩,(R.sub hP).chg⟩
         . have a1:((n.toNat:Nat):Int)=n:=Int.toNat_of_nonneg y.1
           refine { a with ok:={ a.ok with call:=fun _=>by show(X.call.set _ _).length=_;rw[AR];exact j },kp:=?_,pl:=?_,wi0:=fun e=>Bool.noConfusion (show AQ=AN from e),wi1:=fun _=>⟨?_,?_,?_⟩ }
           . intro x J
             rcases addS_mem.1 J with J|rfl
             . exact a.kp x J
             . exact⟨y.1,by show x<(X.is.length:Int);omega,S⟩
           . unfold D9
             split
             . exact a.pl
             . rename_i f
               have:¬ 37<=C.length:=fun h=>A (by rw[E];exact⟨f,h⟩)
               rw[AO,List.length_singleton];omega
           . show D9 X.put n=D9 C n
             rw[E]
           . show(X.call.set _ _).length=_
             rw[AR];exact j
           . intro i a5 hi
             have a2:i<X.is.length:=hi;show(X.call.set n.toNat l).getD i []=_
             by_cases e:n.toNat=i
             . subst e
               rw[Az,CG Aa,AG (addS_mem.2 (A8 a1)),AG a1];rfl
             . have a0:(i:Int)≠n:=fun e'=>e Aa
               rw[Az,BB e,<- Az,WQ i a5 a2];by_cases f:(i:Int)∈C
               . rw[AG f,AG (addS_mem.2 (A4 f)),AJ a0]
               . rw[AJ f,AJ fun h=>f ((addS_mem.1 h).resolve_right a0)]
         . intro k I
           rcases I with I|rfl|rfl|rfl| ⟨x,J,t⟩| ⟨x,J,t⟩
           . exact A4 (s k (A4 I))
           . exact A4 (s _ (A8 (A4 rfl)))
           . exact A4 (s _ (A8 (A8 (A4 rfl))))
           . exact A4 (s _ (A8 (A8 (A8 (A4 rfl)))))
           . exact A4 (s k (A8 (A8 (A8 (A8 (A4 ⟨x,J,t⟩))))))
           . by_cases e:x=n
             . have t:(if x=n then u else pg x).ownBlock=H k:=t
               rw[AG e] at t;exact A8 (hu k t)
             . have t:(if x=n then u else pg x).ownBlock=H k:=t
               rw[AJ e] at t;exact A4 (s k (A8 (A8 (A8 (A8 (A8 ⟨x,(addS_mem.1 J).resolve_right e,t⟩))))))
         . rintro k (I|I)
           . exact AL (o k I) Ef
           . exact I.2
end
end
section
open Go.RowKit
def VE{α:Type}{cur vs:List α}{o n:Nat}(h:o+vs.length<=n)(g:n<=cur.length):(splice cur o vs).take n=splice (cur.take n) o vs:=by
 apply List.ext_getElem?;intro i;unfold splice;by_cases c:i<n
 . rw[Bb,AG c]
   have d:(List.take o cur).length=o:=(by rw[AV];omega);have f:(List.take o (List.take n cur)).length=o:=(by rw[AV,AV];omega);rw[List.getElem?_append,List.getElem?_append (l₁:=List.take o (List.take n cur)),d,f];by_cases a:i<o
   . rw[AG a,AG a,Bb,Bb,AG a,AG a,Bb,AG c]
   . rw[AJ a,AJ a,List.getElem?_append,List.getElem?_append]
     by_cases b:i-o<vs.length
     . rw[AG b,AG b]
     . rw[AJ b,AJ b,Bv,Bv,Bb,AG Aa]
 . rw[Bf Ak,Bf Ak]
def IL{d:Array BK}{rest:List BK}{op:BK}{a:Act}{w:I}{Q:Exit->Act->I->Prop}(p:op.guard=Z)(x y:Operand)(t:op.op=.store 200 x y)
 (g k:Nat) (O:Ag) (cur:Array AA) (i j:Int) (z:a.eval x=G (H ⟨g,k*2,Z⟩)) (A:a.eval y=BS #[J .u16 i,J .u16 j])
 (m:w.heap[g]? =H (Ay cur 200 (0,0))) (q:cur.toList.take (O.length*2)=Fx O) (u:O.length*2<=cur.size) (r:k<O.length)
 (h:∀ w' b,Wrote w w' g->w'.heap[g]? =H (Ay b 200 (0,0))->b.size=cur.size->b.toList.take (O.length*2)=Fx (O.set k (i,j))->Cj Aq d Q rest (a.put op.dst undef) w'):Cj Aq d Q (op :: rest) a w:=by
 have B:(Aq.info? 200).map (·.size)=H 2:=Ac;have c:w.heap[g]? =H (Ay cur.toList.toArray 200 (0,0)):=by rw[Array.toArray_toList];exact m
 have n:k*2+(cO (i,j)).length<=cur.toList.length:=by rw[show(cO (i,j)).length=2 from rfl];simpa using (show k*2+2<=cur.size from Aa)
 have l:∀ v∈cO (i,j),v.oneCell'=AQ:=fun v o=>by simp[cO] at o;rcases o with rfl|rfl <;> rfl
 refine wpList_store_mid p 200 x y t g (k*2) #[J .u16 i,J .u16 j] z A (Ft c n) (by rw[B];rfl) (Gt (cs:=cO (i,j)) l) ?_;have e:=Fp c n l;rw[show(#[J .u16 i,J .u16 j]:Array AA).toList=cO (i,j) from rfl,e];refine h _ (splice cur.toList (k*2) (cO (i,j))).toArray (Wrote.setRow _ _ _) (CJ _ _ _ _ _ _ m) ?_ ?_
 . simp[splice,cO];omega
 . rw[List.toList_toArray,VE (show k*2+2<=_ from Aa) (by rw[Array.length_toList];exact u),q,Fx,IN (f:=cO) (s:=2) (fun x _=>LR x) k r (i,j) (LR _)]
   rfl
section
variable {w:I}{M:Nat->Prop}{p:AA}{n:Int}{O:Ag}
def RSp.row(h:RSp w M p n O)(r:0<O.length):∃ b g cap cur,p=G (H ⟨b,0,Z⟩)/\w.heap[b]? =H (Ay #[J Y n,Aw (H ⟨g,0,Z⟩) O.length cap] 148 (0,0))/\w.heap[g]? =H (Ay cur 200 (0,0))/\cur.toList.take (O.length*2)=Fx O/\O.length<=cap/\cap<=maxLen/\cur.size=cap*2/\OwB O/\∀ k,M k ↔ k=b\/k=g:=by
 obtain⟨b,v,rfl,j,⟨f,m⟩,i⟩:=h;rcases m.2 with⟨_,q⟩| ⟨g,cap,cur,rfl,_,l,a,c,d,o⟩
 . omega
 . refine⟨b,g,cap,cur,rfl,j,l,o,a,c,d,f,fun k=>(i k).trans ?_⟩
   simp only[AA.ownBlock,Option.some.injEq];exact⟨fun h=>h.imp id Eq.symm,fun h=>h.imp id Eq.symm⟩
def RSp.stored{b g cap:Nat}{a:Array AA}(hb:w.heap[b]? =H (Ay #[J Y n,Aw (H ⟨g,0,Z⟩) O.length cap] 148 (0,0))){cur:Array AA}(u:w.heap[g]? =H (Ay cur 200 (0,0)))(o:O.length<=cap)(p:cap<=maxLen)(q:OwB O)(l:∀ k,M k ↔ k=b\/k=g){w':I}(c:Wrote w w' g)(r:w'.heap[g]? =H (Ay a 200 (0,0)))(s:a.size=cap*2)
 {k:Nat} {i j:Int} (t:a.toList.take (O.length*2)=Fx (O.set k (i,j))) (d:(0<=i/\i<=65535)/\(0<=j/\j<=65535)):RSp w' M (G (H ⟨b,0,Z⟩)) n (O.set k (i,j))/\Chg M M w w':=by
 have f:b≠g:=fun e=>by
  rw[e,u] at hb
  injection hb with hb
  injection hb with _ hb _
  exact absurd hb Af
 refine⟨⟨b,Aw (H ⟨g,0,Z⟩) O.length cap,rfl,(c.2.2.2.2 b f).trans hb,⟨?_,?_⟩,?_⟩,⟨c.1,c.2.1,c.2.2.1,by rw[c.2.2.2.1];exact AE _,fun x v m=>⟨c.2.2.2.2 x fun e=>m ((l x).2 (A8 e)),m⟩⟩⟩
 . intro x
   rw[Az,List.getElem?_set];by_cases e:k=x
   . rw[AG e]
     split
     . exact d
     . exact⟨Af,Af⟩
   . rw[AJ e,<- Az]
     exact q x
 . rw[AR]
   exact⟨by rw[DK,AR],A8 ⟨g,cap,a,rfl,A7 _,r,o,p,s,t⟩⟩
 . intro x
   rw[l x];simp only[AA.ownBlock,Option.some.injEq];exact⟨fun h=>h.imp id Eq.symm,fun h=>h.imp id Eq.symm⟩
end
end
section
open Go.RowKit BM
section
variable {w:I}{P:Nat->Prop}{d p:AA}{X:XSt}{O D:Ag}{k:Nat}
def OB.far{B:Nat}{v:AA}{l:Ab}(h:OB w B v l)(c:∀ i,P i->i<B):Apt P v:=fun a n b e f d=>by
 have:=(BY h.2 a.block (by rw[e];rfl)).1;have:=c _ d;omega
def OC(X:XSt)(g:Nat)(D:Ag):XSt:={ X with call:=putG X.call g D,put:=D9 (D9 X.put ((Cp g:Int)+1)) (Cp g:Int) }
def nl(S:Ab)(n:Int):(D9 S n).length<=S.length+1:=by unfold D9;split <;> simp
def OW{X:XSt}{n:Int}{l:Ab}(a:X.wi=AQ)(b:0<=n)(c:n<X.is.length)(d:l.length=256)(hp:X.put.length<37):jU X n l=(0,{ X with call:=X.call.set n.toNat l,put:=D9 X.put n }):=by
 unfold jU;rw[AJ (by rw[a];decide),AJ Aa,AJ Aa]
def Yd{v:AA}(h:SInv w P d p X)(O:X.wi=AQ)(K:X.put.length<=35)(r:X.is.length=64*k)(F:k<=12){g:Nat}(S:g<k)(L:OwSl w v D)(z:FQ D=AQ):
 AH Aq 240 #[p,J Y g,v] w fun e w'=>e=Av (J Y 0)/\∃ b,SInv w' b d p (OC X g D)/\Chg P b w w':=by
 have f:=Jl S;have s:=h.lt;have V:=wN (Xe L z);have U:Hid (∀ W:I,AB w.heap.size w W->AH Aq 262 #[J Y g,v] W fun e w'=>∃ u,e=Av (AT #[u,J Y 0])/\OB w' W.heap.size u (Gz g (CY D 64))/\AB W.heap.size W w'):=wN fun W G=>RI (L.below G) (g:Int) Aa Aa z
 have j:=wN (fun(W:I)=>Kq (g:Int) W);have m:=wN (fun(W:I)=>J9 (g:Int) W);rw[Tl (show g<12 from Aa)] at j;rw[Xu (show g<12 from Aa)] at m;have R:=I2 z;have E:((Cp g:Int)+1).toNat=Cp g+1:=Aa;have Q:=OW (X:=X) (n:=(Cp g:Int)+1) (l:=DO D) O Aa Aa (Jf R) Aa;rw[E] at Q;have T:=OW (X:={ X with call:=X.call.set (Cp g+1) (DO D),put:=D9 X.put ((Cp g:Int)+1) }) (n:=(Cp g:Int)) (l:=Gz g (CY D 64)) O Aa (by show _<(X.is.length:Int);omega) (by rw[Gz];exact Dp _ (by rw[Mi _ _ (EL _ _)];decide)) (by show(D9 X.put ((Cp g:Int)+1)).length<37;have:=nl X.put ((Cp g:Int)+1);omega);have B:Hid (∀ (W:I) (u:AA),AB w.heap.size w W->BSl W u (DO D)->AH Aq 50 #[p,J Y ((Cp g:Int)+1),u] W fun e w'=>e=Av (J Y 0)/\∃ b,SInv w' b d p { X with call:=X.call.set (Cp g+1) (DO D),put:=D9 X.put ((Cp g:Int)+1) }/\Chg P b W w'):=wN fun W u G M=>by
  have:=MM (h.low G) M (n:=(Cp g:Int)+1) Aa (by rw[E];exact f.2.2);rw[Q] at this;exact this
 have C:Hid (∀ (W:I) (u:AA) (P2:Nat->Prop),SInv W P2 d p { X with call:=X.call.set (Cp g+1) (DO D),put:=D9 X.put ((Cp g:Int)+1) }->BSl W u (Gz g (CY D 64))->AH Aq 50 #[p,J Y (Cp g:Nat),u] W fun e w'=>e=Av (J Y 0)/\∃ b,SInv w' b d p (OC X g D)/\Chg P2 b W w'):=wN fun W u P2 h2 M=>by
  have:=MM h2 M (n:=(Cp g:Int)) Aa (by rw[Cf];exact f.2.1);rw[T] at this;exact this
 have A:=wN s;clear h O K r F S L z f s R E Q T;go_enter func240,ntmps240
 go_wp2_with (first|(go_at_call 263;refine V.out.mono ?_;rintro e w1 ⟨vp,rfl,N,a⟩)|(go_at_call 262;refine(U.out _ a).mono ?_;rintro e w2 ⟨vd,rfl,t,o⟩;have c:=a.trans (o.mono a.size);have y:=N.below o;have sw:=t.far (P:=P) (fun i hi=>AL (A.out i hi) a.size))|(go_at_call 242;refine Ad (j.out _) ?_;rintro w' rfl)|(go_at_call 243;refine Ad (m.out _) ?_;rintro w' rfl)|(go_at_call 50;(with_reducible refine Ad (B.out _ _ c y.bsl) ?_);rintro w3 ⟨P3,gk,q⟩;have x:=(t.bsl.chg sw q).1)|(go_at_call 50;(with_reducible refine Ad (C.out _ _ _ gk x) ?_);rintro w4 ⟨Z,lv,H⟩))
 go_ret;exact⟨rfl,Z,lv,((Chg.of_below c).trans q).trans H⟩
end
section
variable {w:I}{P:Nat->Prop}{d p:AA}{X:XSt}{S:Ab}{N:Ae}{bf:Nat}
def putI(X:XSt)(S:Ab)(N:Ae)(n:Nat)(x:Ab):XSt:={ X with call:=X.call.set (C5 S (n / 8)) (Gw (Jv (N.set n x) (n / 8))),put:=D9 X.put (C5 S (n / 8):Nat) }
def K5(h:SInv w P d p X)(hw:X.wi=AQ)(hp:X.put.length<37)(hf:FsAt w bf p)(B:Tab X.call S N){n:Nat}(h0:1<=n)(BR:n<48){x:Ab}(hx:x.length=14)(Kl:Ee x=AQ){W:I}(hb:AB w.heap.size w W):
 AH Aq 26 #[G (H ⟨bf,0,Z⟩),J Y n,BS (iC x).toArray] W fun e w'=>e=Av (J Y 0)/\∃ R,SInv w' R d p (putI X S N n x)/\Chg P R W w':=by
 have O:n / 8<6:=Aa;have hj:n%8<8:=Aa;have JG:X.cur=X.call:=by unfold XSt.cur;rw[AG hw]
 have a0:Tab X.cur S N:=by rw[JG];exact B
 have a4:=E6 B.sf O;have b9:C5 S (n / 8)<X.is.length:=by have:=B.at O;rwa [<- JG,h.xok.curLen] at this
 have m:=AF W (iO x 44);have D:=AC W (iO x 44);obtain⟨w1,K⟩:=nm (W.alloc (iO x 44));rw[<- K] at m D;have h1:W.alloc (Ay (iC x).toArray 44)=w1:=by rw[K];rfl
 have Kn:=hb.trans (m.mono hb.size);have H1:=wN h1;have HX:=wN hx;have u1:=underlying44;have Q:Hid (∀ V,AB w1.heap.size w1 V->V.rangeAt W.heap.size 0 (iC x)):=wN fun V F=>Gf (BD D F)
 have KF:=wN (V5 hx AQ Kl);have KN:=wN (fun(V:I) (F:AB w.heap.size w V)=>Qs h hf a0 h0 BR F);have k:=B.n.set n hx Kl;obtain⟨sx,sy⟩:=k.all O;have z:=TW B.n.l14 (n / 8);have qu:=If B.n.len O;have sC:=If k.len O;have a:=TU N n x;obtain⟨X',C⟩:=nm (putI X S N n x);have L:=OW (X:=X) (n:=(C5 S (n / 8):Int)) (l:=Gw (Jv (N.set n x) (n / 8))) hw Aa Aa (Qc _) hp;rw[Cf,show({ X with call:=X.call.set (C5 S (n / 8)) (Gw (Jv (N.set n x) (n / 8))),put:=D9 X.put (C5 S (n / 8):Nat) }:XSt)=X' from C.symm] at L;rw[<- C];have KP:Hid (∀ (V:I) (u:AA),AB w.heap.size w V->BSl V u (Gw (Jv (N.set n x) (n / 8)))->AH Aq 50 #[p,J Y (C5 S (n / 8):Nat),u] V fun e w'=>e=Av (J Y 0)/\∃ R,SInv w' R d p X'/\Chg P R V w'):=wN fun V u F hu=>by
  have:=MM (h.low F) hu (n:=(C5 S (n / 8):Int)) Aa (by rw[Cf];exact a4.2.2.2.2.1);rw[L] at this;exact this
 have KB:=wN (fun(V:I) (F:AB w.heap.size w V)=>Ip (hf.low F));have b:=wN Kn;clear hw hp hf B a0 JG K D h1 hb Kn k L C h0 BR h Kl a4 b9 hx;obtain⟨A,hA⟩:=nm (C5 S (n / 8));obtain⟨T,ZJ⟩:=nm (Jv N (n / 8));obtain⟨T2,td⟩:=nm (Jv (N.set n x) (n / 8));obtain⟨j,qt⟩:=nm (n%8);rw[<- hA] at KN KP;rw[<- ZJ] at KN z qu a;rw[<- td] at KP sC sx sy a;rw[<- qt] at KN hj a;have ej:(j:Int)<8:=Aa;have HJ:Hid (j<T.length):=wN Aa;have a8:Hid (∀ y∈T,(iC y).length=14):=wN fun y hy=>by rw[CF];exact z y hy
 have KE:=wN (fun(V:I) (g:Nat) (hr:V.heap[g]? =H (Ay ((T.set j x).flatMap iC).toArray 44 (0,0)))=>Vi (ml sx sC (by rw[a];exact hr)) sy);clear hA ZJ td qt O hj z sx qu sC sy a;go_enter func26,ntmps26;go_upto_region 1 with(fail)
 rw[H1.out];have NQ:=Q.out _ (AP _ _)
 go_upto_region 10 with(first
  |(with_reducible refine BG rfl 44 (.tmp 5) rfl W.heap.size 0 rfl x _ NQ u1 rfl (by rw[Hs,HX.out]) ?_)|(go_at_call 47;refine Ad (KF.out _) ?_;rintro w2 i)
  |(go_at_call 34;refine(KN.out _ (b.out.trans (i.mono b.out.size))).mono ?_;rintro e M ⟨g,rfl,b7,E,a1⟩
    have v:=AF M (Ay #[J Y A,Aw (H ⟨g,0,Z⟩) 8 8,J Y j] 90);have a6:(M.alloc (Ay #[J Y A,Aw (H ⟨g,0,Z⟩) 8 8,J Y j] 90)).heap[g]? =H (Ay (T.flatMap iC).toArray 44 (0,0)):=BD E v;have q:=(i.trans (a1.mono i.size)).trans (v.mono (AU i.size a1.size));have NT:=Q.out _ q;have a5:=AC M (Ay #[J Y A,Aw (H ⟨g,0,Z⟩) 8 8,J Y j] 90);have b6:=AU i.size b7;have c2:=(Au.1 E).1)|(with_reducible refine BG rfl 44 (.tmp 5) rfl W.heap.size 0 rfl x _ NT u1 rfl (by rw[Hs,HX.out]) ?_)
  |(with_reducible refine EW (f:=iC) (s:=14) rfl 44 (.tmp 27) (.tmp 26) rfl Hs g j T x 44 rfl rfl a6 HJ.out a8.out (by rw[CF,HX.out]) (Qq _) ?_;intro w5 a7 Du
    have r:=q.trans (a7.below b6);have U:=(a7.2.2.2.2 M.heap.size Aa).trans a5;have b2:=AD _ _ 0 _ _ _ U;have b3:=AD _ _ 1 _ _ _ U;have b4:=AD _ _ 2 _ _ _ U)
  |(go_at_call 48;refine(KE.out _ _ Du).mono ?_;rintro e o ⟨u,rfl,c0,a2⟩
    have t:=r.trans (a2.mono r.size);have ZL:=BD U a2;have c3:o.drew.cell? ⟨M.heap.size,0,Z⟩=H (J Y A):=by rw[show o.drew.cell? ⟨M.heap.size,0,Z⟩=o.cell? ⟨M.heap.size,0,Z⟩ from rfl,AD _ _ 0 _ _ _ ZL];rfl))
 have a3:AB o.heap.size o o.drew:=(AP _ _).drew;have c:=t.trans (a3.mono t.size);have c1:=c0.bsl.below a3;have b0:Hid (AH Aq 49 #[G (H ⟨bf,0,Z⟩)] o.drew fun e w'=>e=Ending.returned p/\w'=o.drew):=wN ((KB.out _ (b.out.trans (c.mono b.out.size))).mono fun e w' ⟨h1,h2⟩=>⟨h1,h2.symm⟩);have b1:=wN (KP.out _ _ (b.out.trans (c.mono b.out.size)) c1);have a9:=wN (m.trans (c.mono m.size));clear NQ NT E a6 Du a5 U ZL b2 b3 b4;refine wp_region_still_tail 5 Ac Ac ?_;simp only[List.take_succ_cons,List.take_zero,List.drop_succ_cons,CX]
 repeat still_step
 still_call b0.out
 repeat still_step
 refine wpStill_nil ?_;change Cj _ _ _ _ _ o.drew;go_wp2_with (go_at_call 50;refine Ad b1.out ?_;rintro w8 ⟨P8,b8,b5⟩)
 go_ret;exact⟨rfl,P8,b8,(Chg.of_below a9.out).trans b5⟩
end
def CE(N:Ae)(m:Nat):Int:=(N.getD m []).getD 0 0
def FreeAt(N:Ae)(f:Nat):Prop:=1<=f/\f<48/\CE N f=0/\∀ m,1<=m->m<f->CE N m≠0
def pS(N:Ae):Prop:=∀ m,1<=m->m<48->CE N m≠0
def FreeAt.one{N:Ae}{f g:Nat}(h:FreeAt N f)(a:FreeAt N g):f=g:=by
 rcases Nat.lt_trichotomy f g with e|e|e
 . exact absurd h.2.2.1 (a.2.2.2 f h.1 e)
 . exact e
 . exact absurd a.2.2.1 (h.2.2.2 g a.1 e)
def rz{L:Ab}(a:L.length=6)(W:I)(t:Nat)(b:t<6):(Instr.index 133 (BS (iC L).toArray) (J Y (t:Int))).run Aq W=.ok (J Y (L.getD t 0)) W:=by
 match L,a with
 |[t0,t1,t2,t3,t4,t5],_=>
  have:t=0\/t=1\/t=2\/t=3\/t=4\/t=5:=Aa;rcases this with rfl|rfl|rfl|rfl|rfl|rfl <;> simp[Instr.index,Ck underlying133,asIntOf,go_sem,iC]
def qJ:(Aq.info? 133).map (·.size)=H 6:=Ac
section
variable {w:I}{P:Nat->Prop}{d p:AA}{X:XSt}{S:Ab}{N:Ae}{bf:Nat}
def Qd(h:SInv w P d p X)(hf:FsAt w bf p)(F:Tab X.cur S N){W:I}(hb:AB w.heap.size w W):
 AH Aq 45 #[G (H ⟨bf,0,Z⟩)] W fun e w'=>((∃ f,FreeAt N f/\e=Av (AT #[J Y (f:Nat),J Y 0]))\/(pS N/\e=Av (AT #[J Y 0,J Y 13])))/\AB W.heap.size W w':=by
 have KS:=wN (LA h hf F hb);have KI:=wN (fun(t:Nat) (L:t<6) (V:I) (hv:AB w.heap.size w V)=>NY h hf F L hv);have Q:=wN hb;have C:=F.s12;have u:(S.drop 6).length=6:=by rw[By,C]
 obtain⟨A6,E⟩:=nm (AA.agg (iC (S.drop 6)).toArray);have a7:=wN E.symm;have b0:Hid (∀ (V:I) (t:Nat),t<6->(Instr.index 133 A6 (J Y (t:Int))).run Aq V=.ok (J Y (C5 S t:Nat)) V):=wN fun V t L=>by
  rw[E,rz u V t L];have:=(E6 F.sf L).1;unfold num at this;rw[<- this,Az,Az,Bv]
 have b2:Hid (∀ (V:I) (g:Nat),V.heap[g]? =H (Cm S 135)->V.rangeAt g 6 (iC (S.drop 6))):=wN fun V g hr=>Es (cur:=S.map (J Y)) hr (by
  rw[CF,u,A2 (by rw[By,Bn,C];decide),iC,List.map_drop])
 have a6:Hid (∀ t,F4 (Jv N t)):=wN fun t=>TW F.n.l14 t
 have H8:Hid (∀ t,t<6->(Jv N t).length=8):=wN fun t L=>If F.n.len L
 have u6:=underlying133;have u1:=underlying44;have a9:=wN u;clear h hf F hb E u;go_enter func45,ntmps45
 go_wp2_with (first
  |(go_at_call 64;refine Ad KS.out ?_;rintro w2 r)
  |(with_reducible refine CW rfl (.tmp 4) (.tmp 16) rfl w2.heap.size rfl S De rfl C rfl _ (AC w2 _) ?_
    intro w3 a5 a3;have U:=r.trans ((AF w2 (Cm De 135)).mono r.size);have v:AB W.heap.size W w3:=U.trans (a5.below (AU r.size (AE _)));have uR:=b2.out _ _ a3)|(with_reducible refine BG rfl 133 (.tmp 21) rfl w2.heap.size 6 rfl (S.drop 6) _ uR u6 rfl (by rw[qJ,a9.out]) ?_;rw[a7.out]))
 have O:=wN v;clear r a5 a3 U uR v;go_loopw [6,23] (fun M i wr=>∃ t:Nat,t<=6/\i=J Y t/\M=J Y ((8*t:Nat):Int)/\Hid (∀ m,1<=m->m<8*t->CE N m≠0)/\Hid (AB W.heap.size W wr)) (fun _ i _=>6-(intOf i).toNat)
 case atStart=>exact⟨0,Aa,rfl,rfl,wN fun m h1 h2=>absurd h2 (Bm _),O⟩
 case round=>
  obtain⟨t,L,rfl,rfl,HS,HB⟩:=hrel;clear O;by_cases K:t<6
  . have Ro:=b0.out wr t K
    have b6:(t:Int)<6:=Aa;have B:=wN (KI.out t K wr (Q.out.trans (HB.out.mono Q.out.size)));have D:=wN (a6.out t);have h8:=wN (H8.out t K);have HE:Hid (∀ j,j<8->((Jv N t).getD j []).getD 0 0=CE N (8*t+j)):=wN fun j hj=>by unfold CE;rw[QA N t hj]
    obtain⟨T,ZJ⟩:=nm (Jv N t);rw[<- ZJ] at B D h8 HE;obtain⟨A,hA⟩:=nm (C5 S t);rw[<- hA] at B Ro;clear ZJ hA;obtain⟨M8,tm⟩:∃ M8:Nat,M8=8:=⟨_,rfl⟩;have b4:=wN tm;go_wp2_with (go_at_call 65;refine B.out.mono ?_;rintro e w4 ⟨g,rfl,b3,a4,a0⟩)
    have b1:Hid (w4.heap[g]? =H (Ay (T.flatMap iC).toArray 44 (0,0))):=wN a4;have o:=wN (HB.out.trans (a0.mono HB.out.size));clear Ro a4 a0 b3 tm;go_loopw [6,37] (fun M i wr=>∃ j:Nat,j<=8/\i=J Y j/\M=J Y ((8*t+j:Nat):Int)/\Hid (∀ m,1<=m->m<8*t+j->CE N m≠0)/\Hid (AB w4.heap.size w4 wr)) (fun _ i _=>8-(intOf i).toNat)
    case atStart=>exact⟨0,Aa,rfl,rfl,HS,wN (AP _ _)⟩
    case round=>
     obtain⟨j,hj,rfl,rfl,q,b⟩:=hrel;by_cases uS:j<8
     . have b5:(j:Int)<8:=by omega
       have hr:=BD b1.out b.out;obtain⟨x,hx⟩:=nm (T.getD j []);have NQ:wr.rangeAt g (j*14) (iC x):=by
        have MU:j<T.length:=(by rw[h8.out];exact uS);have:=Qf (f:=iC) (s:=14) (k:=j) hr (fun y hy=>by rw[CF];exact D.out y hy) MU;rw[hx,Az,AX MU];exact this
       have MZ:x.length=14:=(by rw[hx];exact Hh D.out j (by rw[h8.out];exact uS));have a:=wN MZ;have O6:=HE.out j uS;rw[<- hx] at O6;obtain⟨kd,SE⟩:=nm (CE N (8*t+j));rw[<- SE] at O6;have R:=wN O6;have z:=wN SE;obtain⟨i,hi⟩:∃ i:Nat,i=8*t+j:=⟨_,rfl⟩;have a1:i<48:=Aa;have HI:=wN hi;rw[<- hi] at z q |-
       clear hx hr O6 SE hi MZ;by_cases h0:i=0
       . subst h0
         go_wp2_with (first
          |(with_reducible refine BG rfl 44 (.tmp 39) rfl g (j*14) rfl x _ NQ u1 rfl (by rw[Hs,a.out]) ?_)
          |(with_reducible refine FH rfl (.tmp 12) (.tmp 40) rfl wr.heap.size rfl x zeroI rfl a.out rfl _ (AC wr _) ?_
            intro w5 l Du;have c:=b.out.trans (((AF wr (iO zeroI 44)).trans (l.below (AE _))).mono b.out.size)))
         go_roundw
         case rel=>exact⟨j+1,Aa,by go_num,by have:=HI.out;rw[show 8*t+(j+1)=0+1 from Aa];go_num,wN fun m h1 h2=>by have:=HI.out;omega,wN c⟩
         case measure=>simp[intOf];omega
       . have ei:(0:Int)<(i:Int):=by omega
         rcases a2:(kd==0) with _|_
         . go_wp2_with (first
            |(with_reducible refine BG rfl 44 (.tmp 39) rfl g (j*14) rfl x _ NQ u1 rfl (by rw[Hs,a.out]) ?_)
            |(with_reducible refine FH rfl (.tmp 12) (.tmp 40) rfl wr.heap.size rfl x zeroI rfl a.out rfl _ (AC wr _) ?_
              intro w5 l Du;have c:=b.out.trans (((AF wr (iO zeroI 44)).trans (l.below (AE _))).mono b.out.size);have c0:=Gd Du 0 (by rw[a.out];decide);rw[R.out] at c0))
           go_roundw
           case rel=>exact⟨j+1,Aa,by go_num,by have:=HI.out;rw[show 8*t+(j+1)=i+1 from Aa];go_num,wN fun m h1 h2=>by
            by_cases e:m=i
            . rw[e,<- z.out];simpa using a2
            . exact q.out m h1 (by have:=HI.out;omega),wN c⟩
           case measure=>simp[intOf];omega
         . go_wp2_with (first
            |(with_reducible refine BG rfl 44 (.tmp 39) rfl g (j*14) rfl x _ NQ u1 rfl (by rw[Hs,a.out]) ?_)
            |(with_reducible refine FH rfl (.tmp 12) (.tmp 40) rfl wr.heap.size rfl x zeroI rfl a.out rfl _ (AC wr _) ?_
              intro w5 l Du;have c:=b.out.trans (((AF wr (iO zeroI 44)).trans (l.below (AE _))).mono b.out.size);have c0:=Gd Du 0 (by rw[a.out];decide);rw[R.out] at c0))
           go_ret2;refine⟨A4 ⟨i,⟨Aa,a1,by rw[<- z.out];simpa using a2,q.out⟩,rfl⟩,o.out.trans (c.mono o.out.size)⟩
     . obtain rfl:j=8:=by omega
       have a8:=wN (o.out.trans (b.out.mono o.out.size));go_wp2;go_roundw
       case rel=>exact⟨t+1,Aa,by go_num,rfl,q,a8⟩
       case measure=>simp[intOf];omega
  . obtain rfl:t=6:=by omega
    go_wp2;go_ret2;exact⟨A8 ⟨HS.out,rfl⟩,HB.out⟩
end
end
section
open Go.RowKit
def fN{L:Ab}(r:L.length=12)(q:RP L)(w:I):
 AH Aq 203 #[Gp L] w fun e w'=>e=Av (J Y (V7 L))/\AB w.heap.size w w':=by
 have d:DU L=AN\/DU L=AQ:=by cases DU L <;> simp
 have k:∀ B,DU L=B->_:=fun B h=>PK r q B h
 have m:V7 L=if DU L=AQ then (if num L 1=2 then num L 2 else num L 0) else 0:=rfl
 have c:=AF w (Cm L 135);have l:=AC w (Cm L 135);obtain⟨t,f⟩:=nm (w.alloc (Cm L 135));rw[<- f] at c l
 match L,r with
 |[b,st,tg,cu,io,ba,t0,t1,t2,t3,t4,t5],_=>
  have o:w.alloc (Ay #[J Y b,J Y st,J Y tg,J Y cu,J Y io,J Y ba,J Y t0,J Y t1,J Y t2,J Y t3,J Y t4,J Y t5] 135)=t:=by rw[f];rfl
  have n:=wN o;have i:=wN l;change V7 [b,st,tg,cu,io,ba,t0,t1,t2,t3,t4,t5]=if DU [b,st,tg,cu,io,ba,t0,t1,t2,t3,t4,t5]=AQ then (if st=2 then tg else b) else 0 at m
  show AH Aq 203 #[BS #[J Y b,J Y st,J Y tg,J Y cu,J Y io,J Y ba,J Y t0,J Y t1,J Y t2,J Y t3,J Y t4,J Y t5]] w fun e w'=>e=Av (J Y (V7 _))/\AB w.heap.size w w'
  rw[m];rcases d with d|d
  . rw[d]
    have j:Hid (∀ w,AH Aq 186 #[BS #[J Y b,J Y st,J Y tg,J Y cu,J Y io,J Y ba,J Y t0,J Y t1,J Y t2,J Y t3,J Y t4,J Y t5]] w fun e w'=>e=Av (AY AN)/\AB w.heap.size w w'):=wN (k _ d);clear k m d f o q l;go_enter func203,ntmps203;go_wp2_with (first|(go_at_call 186;rw[n.out];refine Ad (j.out _) ?_;rintro s a))
    go_ret;exact⟨rfl,c.trans (a.mono c.size)⟩
  . rw[d]
    have j:Hid (∀ w,AH Aq 186 #[BS #[J Y b,J Y st,J Y tg,J Y cu,J Y io,J Y ba,J Y t0,J Y t1,J Y t2,J Y t3,J Y t4,J Y t5]] w fun e w'=>e=Av (AY AQ)/\AB w.heap.size w w'):=wN (k _ d);clear k m d f o q l;by_cases g:st=2
    . rw[AG rfl,AG g]
      have p:(st==2)=AQ:=(by simp[g]);clear g;go_enter func203,ntmps203;go_wp2_with (first|(go_at_call 186;rw[n.out];refine Ad (j.out _) ?_;rintro s a;have u:=IQ ((a.block _ (Au.1 i.out).1).trans i.out)))
      go_ret;exact⟨rfl,c.trans (a.mono c.size)⟩
    . rw[AG rfl,AJ g]
      have p:(st==2)=AN:=(by simp[g]);clear g;go_enter func203,ntmps203;go_wp2_with (first|(go_at_call 186;rw[n.out];refine Ad (j.out _) ?_;rintro s a;have u:=IQ ((a.block _ (Au.1 i.out).1).trans i.out)))
      go_ret;exact⟨rfl,c.trans (a.mono c.size)⟩
end
section
open Go.RowKit BM
def MP(k:Int):Ab:=[k,0,0,0,0,0,0,0,0,0,0,0,0,0]
def bM{k:Int}(h:1<=k/\k<=3):Ee (MP k)=AQ:=by
 have:k=1\/k=2\/k=3:=Aa;rcases this with rfl|rfl|rfl <;> decide
section
variable {w:I}{P:Nat->Prop}{d p:AA}{X:XSt}{S:Ab}{N:Ae}{bf:Nat}
def VW(h:SInv w P d p X)(hf:FsAt w bf p)(g:Tab X.cur S N)(c:pS N){k:Int}(l:1<=k/\k<=3){W:I}(hb:AB w.heap.size w W):
 AH Aq 24 #[G (H ⟨bf,0,Z⟩),J Y k] W fun e w'=>e=Av (AT #[J Y 0,J Y 13])/\AB W.heap.size W w':=by
 have i:=wN ((Qd h hf g hb).mono fun e w' ⟨m,hb⟩=>show e=Ending.returned (AT #[J Y 0,J Y 13])/\AB W.heap.size W w' from⟨m.elim (fun⟨f,a,_⟩=>absurd a.2.2.1 (c f a.1 a.2.1)) fun j=>j.2,hb⟩);clear h hf g c hb;have:k=1\/k=2\/k=3:=Aa;rcases this with rfl|rfl|rfl
 all_goals
  clear l;go_enter func24,ntmps24;go_wp2_with (go_at_call 45;refine Ad i.out ?_;rintro n b)
  go_ret2;exact⟨rfl,b⟩
def Y3(h:SInv w P d p X)(o:X.wi=AQ)(hp:X.put.length<37)(hf:FsAt w bf p)(m:Tab X.call S N){f:Nat}(a:FreeAt N f){k:Int}(r:1<=k/\k<=3){W:I}(hb:AB w.heap.size w W):
 AH Aq 24 #[G (H ⟨bf,0,Z⟩),J Y k] W fun e w'=>e=Av (AT #[J Y (f:Nat),J Y 0])/\∃ c,SInv w' c d p (putI X S N f (MP k))/\Chg P c W w':=by
 have i:Tab X.cur S N:=by unfold XSt.cur;rw[AG o];exact m
 have s:=wN ((Qd h hf i hb).mono fun e w' ⟨A,hb⟩=>show e=Ending.returned (AT #[J Y (f:Nat),J Y 0])/\AB W.heap.size W w' from⟨A.elim (fun⟨g,z,l⟩=>by rw[l,z.one a]) fun l=>absurd a.2.2.1 (l.1 f a.1 a.2.1),hb⟩);obtain⟨v,b⟩:=nm (putI X S N f (MP k));have t:Hid (∀ V:I,AB w.heap.size w V->AH Aq 26 #[G (H ⟨bf,0,Z⟩),J Y (f:Nat),BS #[J Y k,J Y 0,J Y 0,J Y 0,J Y 0,J Y 0,J Y 0,J Y 0,J Y 0,J Y 0,J Y 0,J Y 0,J Y 0,J Y 0]] V fun e w'=>e=Av (J Y 0)/\∃ c,SInv w' c d p v/\Chg P c V w'):=wN fun V B=>by
  rw[b];exact K5 h o hp hf m a.1 a.2.1 (x:=MP k) rfl (bM r) B
 rw[<- b];have q:=wN hb;clear h hf m i a hb o hp b;have:k=1\/k=2\/k=3:=Aa;rcases this with rfl|rfl|rfl
 all_goals
  clear r;go_enter func24,ntmps24
  go_wp2_with (first|(go_at_call 45;refine Ad s.out ?_;rintro C j)|(go_at_call 26;refine Ad (t.out _ (q.out.trans (j.mono q.out.size))) ?_;rintro D ⟨u,y,n⟩))
  go_ret2;exact⟨rfl,u,y,(Chg.of_below j).trans n⟩
def cz{L:Ab}(h:L.length=12):∃ b  st  tg  c  d  a  f  g  i  j  k  l:Int,L=[b,st,tg,c,d,a,f,g,i,j,k,l]:=by
 match L,h with
 |[b,st,tg,c,d,a,f,g,i,j,k,l],_=>exact⟨b,st,tg,c,d,a,f,g,i,j,k,l,rfl⟩
def QK(h:SInv w P d p X)(hf:FsAt w bf p)(hT:Tab X.cur S N)(uT:RP S){n i j:Int}{W:I}(hb:AB w.heap.size w W){R:Int->Int->I->I->Prop}
 (hR:∀ x E V w' b,W.heap.size<=b->b<V.heap.size->R x E V w'->w'.heap[b]? =V.heap[b]?)
 (hK:∀ V,AB W.heap.size W V->AH Aq 202 #[p,J Y (num S 0),J Y (V7 S),J Y n,BS #[J .u16 i,J .u16 j]] V fun e w'=>∃ x E:Int,e=Av (AT #[J Y x,J Y E])/\R x E V w'):
 AH Aq 180 #[G (H ⟨bf,0,Z⟩),J Y n,BS #[J .u16 i,J .u16 j]] W fun e w'=>∃ (x E:Int) (V:I),e=Av (AT #[J Y x,J Y E])/\AB W.heap.size W V/\R x E V w':=by
 obtain⟨o,ho⟩:=nm W.heap.size;have k:=AF W (Ay #[J .u16 i,J .u16 j] 200);have T:=AC W (Ay #[J .u16 i,J .u16 j] 200);obtain⟨w1,a2⟩:=nm (W.alloc (Ay #[J .u16 i,J .u16 j] 200));rw[<- a2] at k T;have H1:=wN a2.symm;have Kn:=hb.trans (k.mono hb.size);have KS:=wN (LA h hf hT Kn);have KB:=wN (fun(V:I) (hv:AB w.heap.size w V)=>Ip (hf.low hv));have KL:=wN (fN hT.s12 uT);have b1:=hT.s12;have a4:=wN Kn;have a5:=wN hR;clear h hf hT uT hb Kn a2;obtain⟨b,z,L,v,y,u,A,B,C,D,F,K,rfl⟩:=cz b1;obtain⟨l,qe⟩:=nm (V7 [b,z,L,v,y,u,A,B,C,D,F,K]);rw[<- qe] at hK KL;have KT:Hid (∀ V,AB W.heap.size W V->AH Aq 202 #[p,J Y b,J Y l,J Y n,BS #[J .u16 i,J .u16 j]] V fun e w'=>∃ x E:Int,e=Av (AT #[J Y x,J Y E])/\R x E V w'):=wN hK;clear qe hK hR;have b0:Hid (∀ V:I,AH Aq 203 #[BS #[J Y b,J Y z,J Y L,J Y v,J Y y,J Y u,J Y A,J Y B,J Y C,J Y D,J Y F,J Y K]] V fun e w'=>e=Av (J Y l)/\AB V.heap.size V w'):=KL;have a6:Hid (AH Aq 64 #[G (H ⟨bf,0,Z⟩)] w1 fun e w'=>e=Ending.returned (AT #[BS #[J Y b,J Y z,J Y L,J Y v,J Y y,J Y u,J Y A,J Y B,J Y C,J Y D,J Y F,J Y K],J Y 0])/\AB w1.heap.size w1 w'):=KS;go_enter func180,ntmps180;go_upto_region 4 with(go_at_call 64;rw[H1.out];refine Ad a6.out ?_;rintro w2 Q)
 have r:=AF w2 (Cm [b,z,L,v,y,u,A,B,C,D,F,K] 135);have t:=AC w2 (Cm [b,z,L,v,y,u,A,B,C,D,F,K] 135);obtain⟨c,a3⟩:=nm (w2.alloc (Cm [b,z,L,v,y,u,A,B,C,D,F,K] 135));rw[<- a3] at r t;rw[show w2.alloc (Ay #[J Y b,J Y z,J Y L,J Y v,J Y y,J Y u,J Y A,J Y B,J Y C,J Y D,J Y F,J Y K] 135)=c from a3.symm,<- ho];have ZM:=AU k.size Q.size;obtain⟨q,hq⟩:=nm w2.heap.size;rw[<- hq] at t ZM |-
 have g:=Q.trans (r.mono Q.size);have s:W.heap.size<=q/\q<c.heap.size:=⟨ZM,(Au.1 t).1⟩;have a8:W.heap.size<c.heap.size:=Nat.lt_of_le_of_lt s.1 s.2;have m:Hid (∀ V:I,V.heap[q]? =c.heap[q]? ->V.heap[o]? =c.heap[o]? ->((V.cell? ⟨q,0,Z⟩=H (J Y b)/\V.cell? ⟨q,1,Z⟩=H (J Y z)/\V.cell? ⟨q,2,Z⟩=H (J Y L)/\V.cell? ⟨q,3,Z⟩=H (J Y v))/\(V.cell? ⟨q,4,Z⟩=H (J Y y)/\V.cell? ⟨q,5,Z⟩=H (J Y u)/\V.cell? ⟨q,6,Z⟩=H (J Y A)/\V.cell? ⟨q,7,Z⟩=H (J Y B))/\V.cell? ⟨q,8,Z⟩=H (J Y C)/\V.cell? ⟨q,9,Z⟩=H (J Y D)/\V.cell? ⟨q,10,Z⟩=H (J Y F)/\V.cell? ⟨q,11,Z⟩=H (J Y K))/\V.cell? ⟨o,0,Z⟩=H (J .u16 i)/\V.cell? ⟨o,1,Z⟩=H (J .u16 j)):=wN fun V e1 e2=>by
  have a7:V.heap[o]? =H (Ay #[J .u16 i,J .u16 j] 200 (0,0)):=by rw[e2,ho,g.block _ (Au.1 T).1];exact T
  exact⟨IQ (e1.trans t),AD _ _ _ _ _ _ a7,AD _ _ _ _ _ _ a7⟩
 have U:Hid (W.heap.size<=q/\q<c.heap.size/\o=W.heap.size/\o<c.heap.size):=wN ⟨s.1,s.2,ho,by rw[ho];exact a8⟩;have O:Hid (AB W.heap.size W c):=wN (k.trans (g.mono k.size));have M:Hid (AB w.heap.size w c):=wN (a4.out.trans (g.mono a4.out.size));have a0:Hid (∀ V a:I,AB c.heap.size c V->AB V.heap.size V a->AB c.heap.size c a/\((a.cell? ⟨q,0,Z⟩=H (J Y b)/\a.cell? ⟨q,1,Z⟩=H (J Y z)/\a.cell? ⟨q,2,Z⟩=H (J Y L)/\a.cell? ⟨q,3,Z⟩=H (J Y v))/\(a.cell? ⟨q,4,Z⟩=H (J Y y)/\a.cell? ⟨q,5,Z⟩=H (J Y u)/\a.cell? ⟨q,6,Z⟩=H (J Y A)/\a.cell? ⟨q,7,Z⟩=H (J Y B))/\a.cell? ⟨q,8,Z⟩=H (J Y C)/\a.cell? ⟨q,9,Z⟩=H (J Y D)/\a.cell? ⟨q,10,Z⟩=H (J Y F)/\a.cell? ⟨q,11,Z⟩=H (J Y K))/\a.cell? ⟨o,0,Z⟩=H (J .u16 i)/\a.cell? ⟨o,1,Z⟩=H (J .u16 j)):=wN fun V a h1 h2=>by
  have h3:=h1.trans (h2.mono h1.size);exact⟨h3,m.out _ (h3.block _ U.out.2.1) (h3.block _ U.out.2.2.2)⟩
 have a1:AB c.heap.size c c.drew:=(AP _ _).drew;have s0:=(a0.out _ _ (AP _ _) a1).2;clear T Q r t a3 g s a8 ZM hq ho KL KS a6 k
 go_region_held3 (fun V=>((V.cell? ⟨q,0,Z⟩=H (J Y b)/\V.cell? ⟨q,1,Z⟩=H (J Y z)/\V.cell? ⟨q,2,Z⟩=H (J Y L)/\V.cell? ⟨q,3,Z⟩=H (J Y v))/\(V.cell? ⟨q,4,Z⟩=H (J Y y)/\V.cell? ⟨q,5,Z⟩=H (J Y u)/\V.cell? ⟨q,6,Z⟩=H (J Y A)/\V.cell? ⟨q,7,Z⟩=H (J Y B))/\V.cell? ⟨q,8,Z⟩=H (J Y C)/\V.cell? ⟨q,9,Z⟩=H (J Y D)/\V.cell? ⟨q,10,Z⟩=H (J Y F)/\V.cell? ⟨q,11,Z⟩=H (J Y K))/\V.cell? ⟨o,0,Z⟩=H (J .u16 i)/\V.cell? ⟨o,1,Z⟩=H (J .u16 j)) (first|exact s0|exact s5|exact s8) (first
  |(go_at_call 49;(with_reducible refine Ad (KB.out _ (M.out.trans (a1.mono M.out.size))) ?_);rintro w' rfl)|(go_at_call 203;refine Ad (b0.out _) ?_;rintro w5 a9;obtain⟨f,s5⟩:=a0.out _ _ a1 a9;clear a9)|(go_at_call 49;(with_reducible refine Ad (KB.out _ (M.out.trans (f.mono M.out.size))) ?_);rintro w' rfl)
  |(go_at_call 202;(with_reducible refine(KT.out _ (O.out.trans (f.mono O.out.size))).mono ?_);rintro e w8 ⟨x,E,rfl,gn⟩
    have s8:=m.out w8 ((a5.out _ _ _ _ _ U.out.1 (AL U.out.2.1 f.size) gn).trans (f.block _ U.out.2.1)) ((a5.out _ _ _ _ _ (Nat.le_of_eq U.out.2.2.1.symm) (AL U.out.2.2.2 f.size) gn).trans (f.block _ U.out.2.2.2))))
 all_goals (go_wp2_with fail;go_ret2;exact⟨x,E,w5,rfl,O.out.trans (f.mono O.out.size),gn⟩)
end
end
end Go.Proofs.YtfpdajplfmakhaaGreatDoor
