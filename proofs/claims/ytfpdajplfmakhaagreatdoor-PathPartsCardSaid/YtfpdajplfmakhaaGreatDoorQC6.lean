/- What the law rests on. -/
import Derived.Test.YtfpdajplfmakhaaGreatDoorQC5
open Go.Value renaming int->J,slice->Ak,pointer->G,tuple->AH,bool->AP,agg->BN
open Go.IntKind renaming i64->Y
open Go.Proofs.Tryz renaming prog->U
open Option renaming none->Z,some->H
open Go renaming World->R,Value->z,Calls->Av,Oper->BE,wpList->Cf,TypeId->Cg
open Go.Ending renaming returned->Aj
open Go.Obj renaming cells->A
open Go.RowKit renaming Below->I
open List renaming replicate->Aw,range->Bu
open Bool renaming false->Ay,true->AE
open Array renaming replicate->AK
open Or renaming inl->AU,inr->AW
open Int renaming toNat_natCast->Cd
namespace Go.Proofs.YtfpdajplfmakhaaGreatDoor
set_option maxHeartbeats 12000000
set_option linter.unusedVariables false
set_option maxRecDepth 100000
theorem Gy:type_of% @Nat.mod_eq_of_lt:=@Nat.mod_eq_of_lt
section
open Go.RowKit
def F8(L:List Int):z:=BN (L.map (J Y)).toArray
def Ca(L:List Int)(T:Cg):Obj:=A (L.map (J Y)).toArray T (0,0)
theorem Hv{W:R}{g:Nat}{L:List Int}{T:Cg}(h:W.heap[g]? =H (Ca L T))(k:Nat)(hk:k<L.length):W.cell? ⟨g,k,Z⟩=H (J Y (num L k)):=by
 rw[Aq _ _ _ _ _ _ h];simp[num,hk]
def RA(L:List Int):Prop:=∀ i,num L i<=9223372036854775807
theorem nx:(U.info? 3).map (fun i=>(i.zero,i.size,i.bytes))=H (H (J Y 0),1,8):=by kernel_rfl
theorem QD:U.arrayLen 133=6:=by kernel_rfl
theorem Sl:U.elem 133=3:=by kernel_rfl
theorem Qd(W:R)(a:Addr)(j:Nat)(hj:j<=6):(Instr.sliceAt 133 (G (H a)) Z (H (J Y (j:Int))) Z).run U W=.ok (Ak (H a) j 6) W:=by
 obtain⟨i,h2,h3,h4,h5⟩:=Bf nx;rw[run_sliceAt_array_h W 133 a (by rw[QD,Sl];exact Tryz.underlying133) Y (j:Int) (by omega) (by rw[QD];omega),QD,Sl];obtain⟨a1,a2,a3⟩:=a;simp[sizeOf,typeInfo,h2,h4,slicedAt,Addr.add]
theorem dy{L:List Int}(hL:L.length=12)(hT:RA L)(hb0:0<=num L 0)(hb1:num L 0<=768)(w:R):
 Av U 207 #[F8 L] w fun e w'=>e=Aj (AP (GP L))/\I w.heap.size w w':=by
 have hob:=As w (Ca L 135);have hh:=Ar w (Ca L 135);have ZN:=fun k hk=>Hv hh k hk
 obtain⟨W1,hW1⟩:=nm (w.alloc (Ca L 135));rw[<- hW1] at hob ZN;have HC:=wM ZN;have HW1:=wM hW1;have HTO:=wM hT;clear ZN hh hT
 match L,hL with
 |[b,st,tg,cu,io,ba,t0,t1,t2,t3,t4,t5],_=>
  obtain⟨L,L2⟩:=nm ([b,st,tg,cu,io,ba,t0,t1,t2,t3,t4,t5]);rw[<- L2] at HC HW1 HTO;have HL:=wM L2;have eb:num L 0=b:=by rw[L2];rfl
  have Ko:w.alloc (A #[J Y b,J Y st,J Y tg,J Y cu,J Y io,J Y ba,J Y t0,J Y t1,J Y t2,J Y t3,J Y t4,J Y t5] 135)=W1:=by
   rw[hW1];rfl
  show Av U 207 #[BN #[J Y b,J Y st,J Y tg,J Y cu,J Y io,J Y ba,J Y t0,J Y t1,J Y t2,J Y t3,J Y t4,J Y t5]] w fun e w'=>e=Aj (AP (GP [b,st,tg,cu,io,ba,t0,t1,t2,t3,t4,t5]))/\I w.heap.size w w'
  rw[<- L2];have H2:=wM Ko;change 0<=b at hb0;change b<=768 at hb1;clear L2 hW1 Ko;go_enter Tryz.func207,Tryz.ntmps207;go_wp2;rw[H2.out];have uG:∀ j:Nat,j<6->(Instr.index 133 (BN #[J Y t0,J Y t1,J Y t2,J Y t3,J Y t4,J Y t5]) (J Y (j:Int))).run U W1=.ok (J Y (num L (6+j))) W1:=by
   intro j hj;rw[HL.out];have:j=0\/j=1\/j=2\/j=3\/j=4\/j=5:=(by omega);rcases this with rfl|rfl|rfl|rfl|rfl|rfl <;> simp[Instr.index,B9 Tryz.underlying133,asIntOf,go_sem,num]
  have HIX:=wM uG;have hsl:∀ j:Nat,j<=6->_:=fun j=>Qd W1 ⟨w.heap.size,6,Z⟩ j
  have HSL:=wM hsl;clear hsl;clear uG
  go_loop [9] (fun i=>∃ j:Nat,j<=6/\i=J Y j/\Hid (Lu L j=AE)) (fun i=>6-(intOf i).toNat)
  case atStart=>exact⟨0,by omega,rfl,rfl⟩
  case round=>
   obtain⟨j,hj,rfl,HF⟩:=hrel;by_cases hlt:j<6
   . have Rr:=HIX.out j hlt
     have su:=HTO.out (6+j);have bj:=HC.out 0 (by rw[HL.out];simp);rw[eb] at bj;obtain⟨x,hx⟩:=nm (num L (6+j));rw[<- hx] at Rr su;have HX:=wM hx;clear hx;have CU:¬ XE L j->GP L=Ay:=fun h=>by
      cases hf:GP L
      . rfl
      . exact absurd (Kx hf j hlt) h
     have HNO:=wM CU;clear CU;rcases h1:decide (0<=x/\x<=b-1) with _|_
     . have hr:=HNO.out (fun h=>BB h1 (by rw[HX.out,<- eb];exact h.1))
       have K1:=wM (DG x 0 (b-1) Ay h1);clear h1;go_wp2_with (first|(go_at_call 219;with_reducible refine(K1.out _).mono ?_;rintro e w' ⟨rfl,rfl⟩))
       go_ret;exact⟨by first|rfl|(rw [hr];rfl),hob⟩
     . have K1:=wM (DG x 0 (b-1) AE h1)
       have HH1:=wM (AX h1);clear h1;rcases h2:CR x with _|_
       . have K2:=wM (Ld x su Ay h2)
         have HH2:=wM h2;have hsl:=HSL.out j (by omega);clear h2;go_wp2_with (first|(go_at_call 219;with_reducible refine(K1.out _).mono ?_;rintro e w' ⟨rfl,rfl⟩)|(go_at_call 221;with_reducible refine(K2.out _).mono ?_;rintro e w' ⟨rfl,rfl⟩))
         clear Rr hsl bj
         go_loop [27] (fun i=>∃ k:Nat,k<=j/\i=J Y k/\Hid (∀ m,m<k->num L (6+m)≠num L (6+j))) (fun i=>j-(intOf i).toNat)
         case atStart=>exact⟨0,by omega,rfl,fun m hm=>absurd hm (A9 _)⟩
         case round=>
          obtain⟨k,hk,rfl,HK⟩:=hrel;by_cases hlk:k<j
          . have hck:=HC.out (6+k) (by rw[HL.out];simp;omega)
            obtain⟨y,hy⟩:=nm (num L (6+k));rw[<- hy] at hck;have HY:=wM hy;clear hy;have elk:(k:Int)<(j:Int):=(by omega);rcases h3:(y==x) with _|_
            . go_wp2
              go_round
              case rel=>
               refine⟨k+1,by omega,by go_num,fun m hm=>?_⟩;by_cases e:m=k
               . subst e;rw[<- HY.out,<- HX.out];intro e;rw[e] at h3;simp at h3
               . exact HK.out m (by omega)
              case measure=>simp[intOf];omega
            . have hr:=HNO.out (fun h=>h.2.2 k hlk (by rw[<- HY.out,<- HX.out];simpa using h3))
              go_wp2;go_ret;exact⟨by first|rfl|(rw [hr];rfl),hob⟩
          . go_wp2
            go_round
            case rel=>
             obtain rfl:k=j:=by omega
             refine⟨k+1,by omega,by go_num,?_⟩;show Lu L (k+1)=AE
             exact Qs HF.out ⟨by rw[<- HX.out,eb];exact HH1.out,by rw[<- HX.out];exact HH2.out,HK.out⟩
            case measure=>simp[intOf];omega
       . have hr:=HNO.out (fun h=>by have:=h.2.1;rw[<- HX.out,h2] at this;cases this)
         have K2:=wM (Ld x su AE h2);clear h2;go_wp2_with (first|(go_at_call 219;with_reducible refine(K1.out _).mono ?_;rintro e w' ⟨rfl,rfl⟩)|(go_at_call 221;with_reducible refine(K2.out _).mono ?_;rintro e w' ⟨rfl,rfl⟩))
         go_ret;exact⟨by first|rfl|(rw [hr];rfl),hob⟩
   . go_wp2
     go_ret;obtain rfl:j=6:=by omega
     exact⟨by rw[GP,HF.out];rfl,hob⟩
theorem b7{L:List Int}(hL:L.length=12)(hT:RA L)(hb:CY (num L 0)=AE)(w:R):
 Av U 206 #[F8 L] w fun e w'=>e=Aj (AP (GA L))/\I w.heap.size w w':=by
 match L,hL with
 |[b,st,tg,cu,io,ba,t0,t1,t2,t3,t4,t5],_=>
  have hm:tg<=9223372036854775807:=hT 2;show Av U 206 #[BN #[J Y b,J Y st,J Y tg,J Y cu,J Y io,J Y ba,J Y t0,J Y t1,J Y t2,J Y t3,J Y t4,J Y t5]] w fun e w'=>e=Aj (AP (qW b st tg cu io ba))/\I w.heap.size w w'
  unfold qW;by_cases h0:st=0
  . rw[Au h0,h0];exact mO b tg cu io ba t0 t1 t2 t3 t4 t5 w
  rw[Ax h0];by_cases h1:st=1
  . rw[Au h1,h1];exact jE b tg cu io ba t0 t1 t2 t3 t4 t5 w hb hm _ _ rfl rfl
  rw[Ax h1];by_cases h2:st=2
  . rw[Au h2,h2];exact oO b tg cu io ba t0 t1 t2 t3 t4 t5 w hb hm
  rw[Ax h2];by_cases h3:st=3
  . rw[Au h3,h3];exact nw b tg cu io ba t0 t1 t2 t3 t4 t5 w hb hm
  rw[Ax h3];exact nO st b tg cu io ba t0 t1 t2 t3 t4 t5 w h0 h1 h2 h3
theorem Zi{L:List Int}(hL:L.length=12)(hT:RA L)(hb:CY (num L 0)=AE)(w:R):
 Av U 157 #[F8 L] w fun e w'=>e=Aj (AP (GA L))/\I w.heap.size w w':=by
 match L,hL with
 |[b,st,tg,cu,io,ba,t0,t1,t2,t3,t4,t5],_=>
  have hm:tg<=9223372036854775807:=hT 2;show Av U 157 #[BN #[J Y b,J Y st,J Y tg,J Y cu,J Y io,J Y ba,J Y t0,J Y t1,J Y t2,J Y t3,J Y t4,J Y t5]] w fun e w'=>e=Aj (AP (qW b st tg cu io ba))/\I w.heap.size w w'
  unfold qW;by_cases h0:st=0
  . rw[Au h0,h0];exact oN b tg cu io ba t0 t1 t2 t3 t4 t5 w
  rw[Ax h0];by_cases h1:st=1
  . rw[Au h1,h1,<- nS];exact oD b tg cu io ba t0 t1 t2 t3 t4 t5 w hb hm
  rw[Ax h1];by_cases h2:st=2
  . rw[Au h2,h2];exact oZ b tg cu io ba t0 t1 t2 t3 t4 t5 w hb hm
  rw[Ax h2];by_cases h3:st=3
  . rw[Au h3,h3,<- oC];exact oh b tg cu io ba t0 t1 t2 t3 t4 t5 w hb hm
  rw[Ax h3];exact mJ st b tg cu io ba t0 t1 t2 t3 t4 t5 w h0 h1 h2 h3
theorem eQ{L:List Int}(hL:L.length=12)(hT:RA L)(hb:CY (num L 0)=AE)(B:Bool)(h:GA L=B)(w:R):
 Av U 206 #[F8 L] w fun e w'=>e=Aj (AP B)/\I w.heap.size w w':=by rw[<- h];exact b7 hL hT hb w
theorem X0{L:List Int}(hL:L.length=12)(hT:RA L)(hb:CY (num L 0)=AE)(B:Bool)(h:GA L=B)(w:R):
 Av U 157 #[F8 L] w fun e w'=>e=Aj (AP B)/\I w.heap.size w w':=by rw[<- h];exact Zi hL hT hb w
theorem dY{L:List Int}(hL:L.length=12)(hT:RA L)(hb:CY (num L 0)=AE)(B:Bool)(h:GP L=B)(w:R):
 Av U 207 #[F8 L] w fun e w'=>e=Aj (AP B)/\I w.heap.size w w':=by
 rw[<- h];exact dy hL hT (DA hb).1 (DA hb).2.1 w
theorem IM{W:R}{g:Nat}{T:Cg}{b st tg cu io ba t0 t1 t2 t3 t4 t5:Int}(h:W.heap[g]? =H (Ca [b,st,tg,cu,io,ba,t0,t1,t2,t3,t4,t5] T)):
 (W.cell? ⟨g,0,Z⟩=H (J Y b)/\W.cell? ⟨g,1,Z⟩=H (J Y st)/\W.cell? ⟨g,2,Z⟩=H (J Y tg)/\W.cell? ⟨g,3,Z⟩=H (J Y cu))/\
 (W.cell? ⟨g,4,Z⟩=H (J Y io)/\W.cell? ⟨g,5,Z⟩=H (J Y ba)/\W.cell? ⟨g,6,Z⟩=H (J Y t0)/\W.cell? ⟨g,7,Z⟩=H (J Y t1))/\
 W.cell? ⟨g,8,Z⟩=H (J Y t2)/\W.cell? ⟨g,9,Z⟩=H (J Y t3)/\W.cell? ⟨g,10,Z⟩=H (J Y t4)/\W.cell? ⟨g,11,Z⟩=H (J Y t5):=by
 refine⟨⟨?_,?_,?_,?_⟩,⟨?_,?_,?_,?_⟩,?_,?_,?_,?_⟩ <;> (rw [Aq _ _ _ _ _ _ h];rfl)
theorem X8{L:List Int}(hL:L.length=12)(hT:RA L)(w:R):
 Av U 186 #[F8 L] w fun e w'=>e=Aj (AP (DP L))/\I w.heap.size w w':=by
 have h0:CY (num L 0)=Ay\/CY (num L 0)=AE:=by cases CY (num L 0) <;> simp
 have h1:GA L=Ay\/GA L=AE:=by cases GA L <;> simp
 have h2:∃ B,GP L=B:=⟨_,rfl⟩;have hL':=hL;have hm:=hT 0;have KF:∀ B,CY (num L 0)=B->_:=fun B h=>Ib (num L 0) hm B h
 have KS:∀ (hb:CY (num L 0)=AE) B,GA L=B->_:=fun hb B h=>eQ hL hT hb B h
 have KT:∀ (hb:CY (num L 0)=AE) B,GP L=B->_:=fun hb B h=>dY hL hT hb B h
 have hr:DP L=(CY (num L 0) && (GA L && GP L)):=rfl;have hob:=As w (Ca L 135);have hh:=Ar w (Ca L 135);obtain⟨W1,hW1⟩:=nm (w.alloc (Ca L 135));rw[<- hW1] at hob hh
 match L,hL with
 |[b,st,tg,cu,io,ba,t0,t1,t2,t3,t4,t5],_=>
  have Ko:w.alloc (A #[J Y b,J Y st,J Y tg,J Y cu,J Y io,J Y ba,J Y t0,J Y t1,J Y t2,J Y t3,J Y t4,J Y t5] 135)=W1:=by
   rw[hW1];rfl
  have H2:=wM Ko;have HH:=wM hh;show Av U 186 #[BN #[J Y b,J Y st,J Y tg,J Y cu,J Y io,J Y ba,J Y t0,J Y t1,J Y t2,J Y t3,J Y t4,J Y t5]] w fun e w'=>e=Aj (AP (DP _))/\I w.heap.size w w'
  rw[hr];change _<=_ at hm;rcases h0 with h0|h0
  . rw[h0]
    have K0:Hid (∀ w,Av U 205 #[J Y b] w fun e w'=>e=Aj (AP Ay)/\w=w'):=wM (KF _ h0);clear KF KS KT hr h0 h1 h2 hh hW1 Ko hT hm hL';go_enter Tryz.func186,Tryz.ntmps186;go_wp2_with (first|(go_at_call 205;with_reducible refine(K0.out _).mono ?_;rintro e w' ⟨rfl,rfl⟩))
    go_ret;exact⟨rfl,As _ _⟩
  . rw[h0,AG]
    have K0:Hid (∀ w,Av U 205 #[J Y b] w fun e w'=>e=Aj (AP AE)/\w=w'):=wM (KF _ h0);rcases h1 with h1|h1
    . rw[h1,Bool.false_and]
      have K1:Hid (∀ w,Av U 206 #[BN #[J Y b,J Y st,J Y tg,J Y cu,J Y io,J Y ba,J Y t0,J Y t1,J Y t2,J Y t3,J Y t4,J Y t5]] w fun e w'=>e=Aj (AP Ay)/\I w.heap.size w w'):=wM (KS h0 _ h1);clear KF KS KT hr h0 h1 h2 hh hW1 Ko hT hm hL';go_enter Tryz.func186,Tryz.ntmps186
      go_wp2_with (first
       |(go_at_call 205;with_reducible refine(K0.out _).mono ?_;rintro e w' ⟨rfl,rfl⟩)
       |(go_at_call 206;rw[H2.out];refine(K1.out _).mono ?_;rintro e w2 ⟨rfl,hb2⟩))
      go_ret;exact⟨rfl,hob.trans (hb2.mono hob.size)⟩
    . rw[h1,AG]
      obtain⟨B,h2⟩:=h2;rw[h2];have K1:Hid (∀ w,Av U 206 #[BN #[J Y b,J Y st,J Y tg,J Y cu,J Y io,J Y ba,J Y t0,J Y t1,J Y t2,J Y t3,J Y t4,J Y t5]] w fun e w'=>e=Aj (AP AE)/\I w.heap.size w w'):=wM (KS h0 _ h1);have K2:Hid (∀ w,Av U 207 #[BN #[J Y b,J Y st,J Y tg,J Y cu,J Y io,J Y ba,J Y t0,J Y t1,J Y t2,J Y t3,J Y t4,J Y t5]] w fun e w'=>e=Aj (AP B)/\I w.heap.size w w'):=wM (KT h0 _ h2);clear KF KS KT hr h0 h1 h2 hh hW1 Ko hT hm hL';go_enter Tryz.func186,Tryz.ntmps186
      go_wp2_with (first
       |(go_at_call 205;with_reducible refine(K0.out _).mono ?_;rintro e w' ⟨rfl,rfl⟩)
       |(go_at_call 206;rw[H2.out];refine(K1.out _).mono ?_;rintro e w2 ⟨rfl,hb2⟩
         have hc:=IM ((hb2.block _ (Ah.1 HH.out).1).trans HH.out))
       |(go_at_call 207;refine(K2.out _).mono ?_;rintro e w3 ⟨rfl,hb3⟩))
      go_ret;exact⟨rfl,(hob.trans (hb2.mono hob.size)).trans (hb3.mono (AI hob.size hb2.size))⟩
def OL(g n:Nat):List z:=(Bu n).flatMap fun i=>[G (H ⟨g,i,Z⟩),J Y (Ih i:Int)]
theorem Nw(g n:Nat):OL g (n+1)=OL g n ++ [G (H ⟨g,n,Z⟩),J Y (Ih n:Int)]:=by
 simp[OL,GX]
theorem It(g n:Nat):(OL g n).length=n*2:=by
 induction n with
 |zero=>rfl
 |succ n ih=>rw[Nw,AD,ih];simp;omega
theorem VB(g:Nat):∀ n i,i<n->(OL g n)[i*2]? =H (G (H ⟨g,i,Z⟩))/\(OL g n)[i*2+1]? =H (J Y (Ih i:Int))
 |0,i,h=>absurd h (A9 _)
 |n+1,i,h=>by
  have hl:=It g n;rw[Nw];by_cases e:i<n
  . have:=VB g n i e
    rw[BH (by omega),BH (by omega)];exact this
  . obtain rfl:i=n:=by omega
    rw[BR (by omega),BR (by omega),hl];exact⟨by simp,by rw[show i*2+1-i*2=1 by omega];rfl⟩
theorem rC:(U.info? 282).map (fun i=>(i.zero,i.size,i.bytes))=H (H (BN #[G Z,J Y 0]),2,16):=by kernel_rfl
def Fld(w:R)(B g:Nat)(v:z)(n:Nat):Prop:=w.ownsRow B 282 2 v n (OL g n)
theorem Fld.below{w w':R}{B g:Nat}{v:z}{n:Nat}(h:Fld w B g v n)(hb:I w.heap.size w w'):Fld w' B g v n:=by
 refine⟨h.1,?_⟩;rcases h.2 with h| ⟨k,cap,cur,hv,hg,hh,r⟩
 . exact AU h
 . exact AW ⟨k,cap,cur,hv,hg,by rw[hb.block k (Ah.1 hh).1];exact hh,r⟩
theorem MU(w1:R)(g n:Nat)(hn:6<=n)(L1:n<12){ops:Array BE}{rest:List BE}{o:BE}{a:Act}{Q:Exit->Act->R->Prop}(Du:o.guard=Z)(s y:Operand)
 (ho:o.op=.call { callee:=.builtin .append,args:=#[s,y],argTypes:=#[278,278] })
 (B:Nat) (v:z) (hs:a.eval s=v) (hown:Fld w1 B g v n) (hy:a.eval y=Ak (H ⟨w1.heap.size,0,Z⟩) 1 1) (hB:B<=w1.heap.size)
 (h:∀ v' w',Fld w' B g v' (n+1)->I B w1 w'->Cf U ops Q rest (a.put o.dst v') w'):Cf U ops Q (o :: rest) a (w1.alloc (A #[G (H ⟨g,n,Z⟩),J Y 2] 282)):=by
 obtain⟨i,h2,h3,h4,h5⟩:=Bf rC;have hbel:I w1.heap.size w1 (w1.alloc (A #[G (H ⟨g,n,Z⟩),J Y 2] 282)):=As _ _;have QW:(w1.alloc (A #[G (H ⟨g,n,Z⟩),J Y 2] 282)).heap[w1.heap.size]? =H (A #[G (H ⟨g,n,Z⟩),J Y 2] 282 (0,0)):=Ar w1 _;have hw2:Ih n=2:=Ax (by omega);have hf:=hown.below hbel;refine FU _ Du s y 278 ho B 282 i _ 2 16 Tryz.underlying278 h2 h3 h4 h5 rfl (by decide) v n _ hs hf ⟨w1.heap.size,0,Z⟩ 1 1 [G (H ⟨g,n,Z⟩),J Y 2] hy rfl ?_ ?_ (by simp only[maxLen];omega) (by omega) (by simp;omega) fun v' w' h6 h7 _=>?_
 . intro j u hj
   have tp:j<2:=by simpa using (Bb.1 hj).1
   rw[BY,Br,Aq _ _ _ _ _ _ QW,<- hj];have:j=0\/j=1:=(by omega);rcases this with rfl|rfl <;> rfl
 . intro u hu
   simp at hu;rcases hu with rfl|rfl <;> rfl
 . refine h v' w' ?_ ((hbel.mono hB).trans ((AC _ _).grown h7 (by simp;omega) fun k hk=>(BO hf k hk).1))
   rw[Fld,Nw,hw2];exact h6
theorem PU(w:R)(g:Nat):Av U 185 #[G (H ⟨g,0,Z⟩)] w fun e w'=>∃ v,e=Aj v/\Fld w' w.heap.size g v 12/\I w.heap.size w w':=by
 go_enter Tryz.func185,Tryz.ntmps185;go_wp2;go_still_tail 24,(by kernel_rfl)
 go_wp2;have h6:OL g 6=[G (H ⟨g,0,Z⟩),J Y 2,G (H ⟨g,1,Z⟩),J Y 1,G (H ⟨g,2,Z⟩),J Y 2,G (H ⟨g,3,Z⟩),J Y 2,G (H ⟨g,4,Z⟩),J Y 2,G (H ⟨g,5,Z⟩),J Y 2]:=rfl;rw[show(#[z.pointer (H ⟨g,0,Z⟩),J Y 2,G (H ⟨g,1,Z⟩),J Y 1,G (H ⟨g,2,Z⟩),J Y 2,G (H ⟨g,3,Z⟩),J Y 2,G (H ⟨g,4,Z⟩),J Y 2,G (H ⟨g,5,Z⟩),J Y 2]:Array z)=(OL g 6).toArray from rfl];have hh:=Ar w (A (OL g 6).toArray 282);have hb:=As w (A (OL g 6).toArray 282);obtain⟨W1,hW1⟩:=nm ((w.alloc (A (OL g 6).toArray 282)).drew);have hb1:I w.heap.size w W1:=by rw[hW1];exact AM hb 1
 have hf1:Fld W1 w.heap.size g (Ak (H ⟨w.heap.size,0,Z⟩) 6 6) 6:=by
  refine⟨It g 6,AW ⟨w.heap.size,6,_,rfl,At _,by rw[hW1];exact hh,At _,by decide,by simp[It],?_⟩⟩;have:=It g 6;rw[AR (by simp[this])]
 rw[<- hW1];clear hh hb hW1 h6;go_loopw [3,30] (fun u i wr=>∃ j:Nat,j<=6/\i=J Y j/\Hid (Fld wr w.heap.size g u (6+j))/\I w.heap.size w wr) (fun _ i _=>6-(intOf i).toNat)
 case atStart=>exact⟨0,by omega,rfl,hf1,hb1⟩
 case round=>
  obtain⟨j,hj,rfl,HF,hbr⟩:=hrel;clear hf1 hb1;by_cases hlt:j<6
  . have ej:(j:Int)<6:=by omega
    go_wp2_with (at_builtin;refine MU wr g (6+j) (by omega) (by omega) rfl _ _ rfl w.heap.size _ rfl HF.out rfl hbr.size ?_;intro v2 w2 hf2 hb2)
    go_roundw
    case rel=>exact⟨j+1,by omega,by go_num,hf2,hbr.trans hb2⟩
    case measure=>simp[intOf];omega
  . go_wp2
    go_ret;obtain rfl:j=6:=by omega
    exact⟨_,rfl,HF.out,hbr⟩
theorem Fld.shape{w:R}{B g:Nat}{v:z}{n:Nat}(h:Fld w B g v n)(hn:0<n):∃ gf cap,v=Ak (H ⟨gf,0,Z⟩) n cap/\gf<w.heap.size/\B<=gf/\n<=cap/\
 ∀ j,j<n->w.cell? ⟨gf,j*2,Z⟩=H (G (H ⟨g,j,Z⟩))/\w.cell? ⟨gf,j*2+1,Z⟩=H (J Y (Ih j:Int)):=by
 rcases h.2 with⟨_,h0⟩| ⟨gf,cap,cur,hv,hg,hh,Ii,hm,hs,ht⟩
 . omega
 . refine⟨gf,cap,hv,(Ah.1 hh).1,hg,Ii,fun j hj=>?_⟩
   obtain⟨h1,h2⟩:=VB g n j hj;rw[<- ht] at h1 h2;rw[Aq _ _ _ _ _ _ hh,Aq _ _ _ _ _ _ hh];rw[AZ] at h1 h2;rw[Au (by omega)] at h1 h2;exact⟨by simpa using h1,by simpa using h2⟩
theorem Py(j:Nat):1<=Ih j/\Ih j<=2:=by unfold Ih;split <;> omega
theorem QL{L:List Int}(hL:L.length=12)(hT:RA L)(B:Bool)(h:DP L=B)(w:R):
 Av U 186 #[F8 L] w fun e w'=>e=Aj (AP B)/\I w.heap.size w w':=by rw[<- h];exact X8 hL hT w
theorem iG(b st tg cu io ba t0 t1 t2 t3 t4 t5:Int)(L:List Int)(L2:L=[b,st,tg,cu,io,ba,t0,t1,t2,t3,t4,t5])(hT:RA L)(hb1:b<=768)(w:R)
 (hF:∀ w,Av U 110 #[J Y b] w fun e w'=>e=Aj (AP AE)/\w=w')
 (hS:∀ w,Av U 157 #[BN #[J Y b,J Y st,J Y tg,J Y cu,J Y io,J Y ba,J Y t0,J Y t1,J Y t2,J Y t3,J Y t4,J Y t5]] w fun e w'=>e=Aj (AP AE)/\I w.heap.size w w'):
 Av U 117 #[BN #[J Y b,J Y st,J Y tg,J Y cu,J Y io,J Y ba,J Y t0,J Y t1,J Y t2,J Y t3,J Y t4,J Y t5]] w fun e w'=>e=Aj (AP (GP L))/\I w.heap.size w w':=by
 have hob:=As w (Ca L 156);have hh:=Ar w (Ca L 156);obtain⟨W1,hW1⟩:=nm (w.alloc (Ca L 156));rw[<- hW1] at hob hh;have Ko:w.alloc (A #[J Y b,J Y st,J Y tg,J Y cu,J Y io,J Y ba,J Y t0,J Y t1,J Y t2,J Y t3,J Y t4,J Y t5] 156)=W1:=by rw[hW1,L2];rfl
 have eb:num L 0=b:=by rw[L2];rfl
 have hlen:L.length=12:=by rw[L2];rfl
 have H2:=wM Ko;have HH:=wM hh;have HL:=wM L2;have HLE:=wM hlen;have HTO:=wM hT;have K0:=wM hF;have K1:=wM hS;clear hF hS hh hW1 Ko hT L2 hlen;go_enter Tryz.func117,Tryz.ntmps117
 go_wp2_with (first
  |(go_at_call 110;with_reducible refine(K0.out _).mono ?_;rintro e w' ⟨rfl,rfl⟩)
  |(go_at_call 157;rw[H2.out];refine(K1.out _).mono ?_;rintro e w2 ⟨rfl,hb2⟩))
 have hbe:I w.heap.size w w2:=hob.trans (hb2.mono hob.size);have hh2:w2.heap[w.heap.size]? =H (Ca L 156):=(hb2.block _ (Ah.1 HH.out).1).trans HH.out;have ZN:=fun k hk=>Hv hh2 k hk
 rw[HLE.out] at ZN;have HC:=wM ZN;clear ZN hh2 hb2;go_loopw [14] (fun i wr=>∃ j:Nat,j<=6/\i=J Y j/\Hid (Lu L j=AE)/\I w.heap.size w wr/\Hid (∀ k,k<12->wr.cell? ⟨w.heap.size,k,Z⟩=H (J Y (num L k)))) (fun i _=>6-(intOf i).toNat)
 case atStart=>exact⟨0,by omega,rfl,rfl,hbe,HC⟩
 case round=>
  clear HC hbe;obtain⟨j,hj,rfl,HF,hbe,HC⟩:=hrel;by_cases hlt:j<6
  . have MW:=HC.out (6+j) (by omega)
    have su:=HTO.out (6+j);have bj:=HC.out 0 (by omega);rw[eb] at bj;obtain⟨x,hx⟩:=nm (num L (6+j));rw[<- hx] at MW su;have HX:=wM hx;clear hx;have CU:¬ XE L j->GP L=Ay:=fun h=>by
     cases hf:GP L
     . rfl
     . exact absurd (Kx hf j hlt) h
    have HNO:=wM CU;clear CU;have ej:(j:Int)<6:=(by omega);rcases h1:decide (x<0) with _|_
    . have HH1:=wM (BB h1)
      rcases h2:decide (b<=x) with _|_
      . have HH2:=wM (BB h2)
        rcases h3:CR x with _|_
        . have K2:=wM (Le x su Ay h3)
          have HH3:=wM h3;clear h3;go_wp2;go_quiet ((go_at_call 154;exact B5 (K2.out _)))
          go_wp2;clear h1 h2 bj;go_loopw [39] (fun i wr=>∃ k:Nat,k<=j/\i=J Y k/\Hid (∀ m,m<k->num L (6+m)≠num L (6+j))/\I w.heap.size w wr/\Hid (∀ k,k<12->wr.cell? ⟨w.heap.size,k,Z⟩=H (J Y (num L k)))) (fun i _=>j-(intOf i).toNat)
          case atStart=>exact⟨0,by omega,rfl,fun m hm=>absurd hm (A9 _),AM hbe _,fun k hk=>HC.out k hk⟩
          case round=>
           clear HC hbe MW;obtain⟨k,hk,rfl,HK,hbe,HC⟩:=hrel;by_cases hlk:k<j
           . have hck:=HC.out (6+k) (by omega)
             have MW:wr.cell? ⟨w.heap.size,6+j,Z⟩=H (J Y x):=(by rw[HX.out];exact HC.out (6+j) (by omega));obtain⟨y,hy⟩:=nm (num L (6+k));rw[<- hy] at hck;have HY:=wM hy;clear hy;have elk:(k:Int)<(j:Int):=(by omega);have ek:(k:Int)<6:=(by omega);rcases h3:(y==x) with _|_
             . go_wp2
               go_quiet (fail)
               go_wp2;go_roundw
               case rel=>
                refine⟨k+1,by omega,by go_num,fun m hm=>?_,AM hbe _,fun k hk=>HC.out k hk⟩;by_cases e:m=k
                . subst e;rw[<- HY.out,<- HX.out];intro e;rw[e] at h3;simp at h3
                . exact HK.out m (by omega)
               case measure=>simp[intOf];omega
             . have hr:=HNO.out (fun h=>h.2.2 k hlk (by rw[<- HY.out,<- HX.out];simpa using h3))
               go_wp2;go_quiet (fail)
               go_wp2;go_ret;exact⟨by first|rfl|(rw [hr];rfl),AM hbe _⟩
           . go_wp2
             go_roundw
             case rel=>
              obtain rfl:k=j:=by omega
              refine⟨k+1,by omega,by go_num,?_,hbe,HC⟩;show Lu L (k+1)=AE
              exact Qs HF.out ⟨⟨by rw[<- HX.out];have:=HH1.out;omega,by rw[<- HX.out,eb];have:=HH2.out;omega⟩,by rw[<- HX.out];exact HH3.out,HK.out⟩
             case measure=>simp[intOf];omega
        . have hr:=HNO.out (fun h=>by have:=h.2.1;rw[<- HX.out,h3] at this;cases this)
          have K2:=wM (Le x su AE h3);clear h3;go_wp2;go_quiet ((go_at_call 154;exact B5 (K2.out _)))
          go_wp2;go_ret;exact⟨by first|rfl|(rw [hr];rfl),AM hbe _⟩
      . have hr:=HNO.out (fun h=>by have:=h.1.2;rw[<- HX.out,eb] at this;have:=AX h2;omega)
        have g2:b<=x:=AX h2;go_wp2;go_quiet (fail)
        go_wp2;go_ret;exact⟨by first|rfl|(rw [hr];rfl),AM hbe _⟩
    . have hr:=HNO.out (fun h=>by have:=h.1.1;rw[<- HX.out] at this;have:=AX h1;omega)
      have g1:x<0:=AX h1;go_wp2;go_quiet (fail)
      go_wp2;go_ret;exact⟨by first|rfl|(rw [hr];rfl),AM hbe _⟩
  . go_wp2
    go_ret;obtain rfl:j=6:=by omega
    exact⟨by rw[GP,HF.out];rfl,hbe⟩
theorem fW{L:List Int}(hL:L.length=12)(hT:RA L)(w:R):
 Av U 117 #[F8 L] w fun e w'=>e=Aj (AP (DP L))/\I w.heap.size w w':=by
 have h0:CY (num L 0)=Ay\/CY (num L 0)=AE:=by cases CY (num L 0) <;> simp
 have h1:GA L=Ay\/GA L=AE:=by cases GA L <;> simp
 have hm:=hT 0;have hT':=hT;have KF:∀ B,CY (num L 0)=B->_:=fun B h=>Hw (num L 0) hm B h
 have KS:∀ (hb:CY (num L 0)=AE) B,GA L=B->_:=fun hb B h=>X0 hL hT hb B h
 have hr:DP L=(CY (num L 0) && (GA L && GP L)):=rfl;have hob:=As w (Ca L 156);obtain⟨W1,hW1⟩:=nm (w.alloc (Ca L 156));rw[<- hW1] at hob
 match L,hL with
 |[b,st,tg,cu,io,ba,t0,t1,t2,t3,t4,t5],_=>
  have Ko:w.alloc (A #[J Y b,J Y st,J Y tg,J Y cu,J Y io,J Y ba,J Y t0,J Y t1,J Y t2,J Y t3,J Y t4,J Y t5] 156)=W1:=by
   rw[hW1];rfl
  have H2:=wM Ko;show Av U 117 #[BN #[J Y b,J Y st,J Y tg,J Y cu,J Y io,J Y ba,J Y t0,J Y t1,J Y t2,J Y t3,J Y t4,J Y t5]] w fun e w'=>e=Aj (AP (DP _))/\I w.heap.size w w'
  rw[hr];change _<=_ at hm;rcases h0 with h0|h0
  . rw[h0]
    have K0:Hid (∀ w,Av U 110 #[J Y b] w fun e w'=>e=Aj (AP Ay)/\w=w'):=wM (KF _ h0);clear KF KS hr h0 h1 hW1 Ko hT hm hT';go_enter Tryz.func117,Tryz.ntmps117;go_wp2_with (first|(go_at_call 110;with_reducible refine(K0.out _).mono ?_;rintro e w' ⟨rfl,rfl⟩))
    go_ret;exact⟨rfl,As _ _⟩
  . rw[h0,AG]
    have K0:Hid (∀ w,Av U 110 #[J Y b] w fun e w'=>e=Aj (AP AE)/\w=w'):=wM (KF _ h0);rcases h1 with h1|h1
    . rw[h1,Bool.false_and]
      have K1:Hid (∀ w,Av U 157 #[BN #[J Y b,J Y st,J Y tg,J Y cu,J Y io,J Y ba,J Y t0,J Y t1,J Y t2,J Y t3,J Y t4,J Y t5]] w fun e w'=>e=Aj (AP Ay)/\I w.heap.size w w'):=wM (KS h0 _ h1);clear KF KS hr h0 h1 hW1 Ko hT hm hT';go_enter Tryz.func117,Tryz.ntmps117
      go_wp2_with (first
       |(go_at_call 110;with_reducible refine(K0.out _).mono ?_;rintro e w' ⟨rfl,rfl⟩)
       |(go_at_call 157;rw[H2.out];refine(K1.out _).mono ?_;rintro e w2 ⟨rfl,hb2⟩))
      go_ret;exact⟨rfl,hob.trans (hb2.mono hob.size)⟩
    . rw[h1,AG]
      have K1:Hid (∀ w,Av U 157 #[BN #[J Y b,J Y st,J Y tg,J Y cu,J Y io,J Y ba,J Y t0,J Y t1,J Y t2,J Y t3,J Y t4,J Y t5]] w fun e w'=>e=Aj (AP AE)/\I w.heap.size w w'):=wM (KS h0 _ h1);exact iG b st tg cu io ba t0 t1 t2 t3 t4 t5 _ rfl hT' (DA h0).2.1 w K0.out K1.out
theorem gz{L:List Int}(hL:L.length=12)(hT:RA L)(B:Bool)(h:DP L=B)(w:R):
 Av U 117 #[F8 L] w fun e w'=>e=Aj (AP B)/\I w.heap.size w w':=by rw[<- h];exact fW hL hT w
def Ul(L:List Int)(w:R)(e:Ending)(w':R):Prop:=
 (DP L=AE/\∃ v,e=Aj (AH #[v,J Y 0])/\OB w' w.heap.size v (Gj L)/\I w.heap.size w w')\/
 (DP L=Ay/\e=Aj (AH #[Ak Z 0 0,J Y 1])/\I w.heap.size w w')
theorem O5{L:List Int}(h:DP L=AE)(j:Nat)(hj:j<12):0<=num L j/\num L j<65536:=by
 have h1:=Tt h j hj;have:=Hm (Py j).2;have e:(256:Int) ^ 2=65536:=rfl;omega
theorem X9:∀ j,pos j<=8+2*j
 |0=>At _
 |j+1=>by have:=X9 j;have:=Py j;rw[pos];omega
theorem mS{L:List Int}(j:Nat)(hj:j<12)(x:Int)(hx:x=num L j)(hx0:0<=x/\x<65536)(k:Nat)(hk:k=Ih j)(W:R)(u:z)(hs:BSl W u (GU L j)):
 Av U 133 #[u,J .u64 x,J Y (k:Int)] W (JQ W (GU L (j+1))):=by
 have h1:=Py j;have h2:=X9 j;have h3:=EA L j;rw[GU,<- hx,<- hk];exact FK hs (by omega) x k k (by omega) (by omega) rfl hx0.1 (by omega)
theorem kx{L:List Int}(j:Nat)(hj:j<12)(x:Int)(hx:x=num L j)(hx0:0<=x/\x<65536)(k:Nat)(hk:k=Ih j)(W:R)(u:z)(hs:BSl W u (GU L j)):
 Av U 112 #[u,J .u64 x,J Y (k:Int)] W (JQ W (GU L (j+1))):=by
 have h1:=Py j;have h2:=X9 j;have h3:=EA L j;rw[GU,<- hx,<- hk];exact Im hs (by omega) x k k (by omega) (by omega) rfl hx0.1 (by omega)
theorem Sy(w2:R):BSl (w2.alloc (A #[J .u8 97,J .u8 115,J .u8 104,J .u8 108,J .u8 97,J .u8 114,J .u8 32,J .u8 49] 5 (8,9))) (Ak (H ⟨w2.heap.size,0,Z⟩) 8 8) Zv:=by
 refine⟨CH gy,AW ⟨_,8,rfl,by decide,fun j hj=>⟨by simp,rfl,?_⟩⟩⟩;have hj:j<8:=hj;have hh:(w2.alloc (A #[J .u8 97,J .u8 115,J .u8 104,J .u8 108,J .u8 97,J .u8 114,J .u8 32,J .u8 49] 5 (8,9))).heap[w2.heap.size]? =H (A #[J .u8 97,J .u8 115,J .u8 104,J .u8 108,J .u8 97,J .u8 114,J .u8 32,J .u8 49] 5 (8,9)):=by
  show(w2.heap.push _)[w2.heap.size]? =_
  simp
 rw[Br,Aq _ _ _ _ _ _ hh];have:j=0\/j=1\/j=2\/j=3\/j=4\/j=5\/j=6\/j=7:=by omega
 rcases this with rfl|rfl|rfl|rfl|rfl|rfl|rfl|rfl <;> rfl
theorem kJ(b st tg cu io ba t0 t1 t2 t3 t4 t5:Int)(L:List Int)(L2:L=[b,st,tg,cu,io,ba,t0,t1,t2,t3,t4,t5])(hf:DP L=AE)(w:R)
 (hF:∀ w,Av U 186 #[BN #[J Y b,J Y st,J Y tg,J Y cu,J Y io,J Y ba,J Y t0,J Y t1,J Y t2,J Y t3,J Y t4,J Y t5]] w fun e w'=>e=Aj (AP AE)/\I w.heap.size w w'):
 Av U 151 #[BN #[J Y b,J Y st,J Y tg,J Y cu,J Y io,J Y ba,J Y t0,J Y t1,J Y t2,J Y t3,J Y t4,J Y t5]] w fun e w'=>∃ v,e=Aj (AH #[v,J Y 0])/\OB w' w.heap.size v (Gj L)/\I w.heap.size w w':=by
 have hob:=As w (Ca L 135);have hh:=Ar w (Ca L 135);obtain⟨W1,hW1⟩:=nm (w.alloc (Ca L 135));rw[<- hW1] at hob hh;have Ko:w.alloc (A #[J Y b,J Y st,J Y tg,J Y cu,J Y io,J Y ba,J Y t0,J Y t1,J Y t2,J Y t3,J Y t4,J Y t5] 135)=W1:=by rw[hW1,L2];rfl
 have hlen:L.length=12:=by rw[L2];rfl
 have Ed:w.heap.size<W1.heap.size:=by rw[hW1];simp
 have H2:=wM Ko;have HH:=wM hh;have HLE:=wM hlen;have HFR:=wM hf;have K0:=wM hF;clear hF hh hW1 Ko L2 hlen hf;have kc:=fun(w:R) (C:Array z) (n c:Nat)=>E4 (P:=U) w 77 5 C n c Tryz.underlying77 Tryz.underlying5
 go_enter Tryz.func151,Tryz.ntmps151
 go_wp2_with (first
  |(go_at_call 186;rw[H2.out];refine(K0.out _).mono ?_;rintro e w2 ⟨rfl,hb2⟩;have hbe:I w.heap.size w w2:=hob.trans (hb2.mono hob.size))
  |(go_at_call 185;refine(PU _ _).mono ?_;rintro e w4 ⟨v4,rfl,hf4,hb4⟩;obtain⟨gf,cap,rfl,uH,Xc,Ii,tq⟩:=hf4.shape (by decide)))
 have hbm:=Sy w2;obtain⟨w3,hw3⟩:=nm (w2.alloc (A #[J .u8 97,J .u8 115,J .u8 104,J .u8 108,J .u8 97,J .u8 114,J .u8 32,J .u8 49] 5 (8,9)));rw[<- hw3] at hb4 hbm;have hb3:I w2.heap.size w2 w3:=by rw[hw3];exact As _ _
 have hb24:I w2.heap.size w2 w4:=hb3.trans (hb4.mono hb3.size);have hb04:I w.heap.size w w4:=hbe.trans (hb24.mono hbe.size);have WM:w.heap.size<w2.heap.size:=AA Ed hb2.size;have hh4:w4.heap[w.heap.size]? =H (Ca L 135):=by
  rw[hb24.block _ WM,hb2.block _ Ed];exact HH.out
 have hc4:=fun k hk=>Hv hh4 k hk
 rw[HLE.out] at hc4;have uI:w.heap.size<w4.heap.size:=AA WM hb24.size;have lO:=hbm.below hb4;have HC:=wM hc4;have HCF:=wM tq;have HB04:=wM hb04;clear hbm hw3 hb3 hb24 hh4 hc4 tq hb4 hf4 hb2 hbe hob WM Ed kc hb04;go_loopw [4,14] (fun u i wr=>∃ j:Nat,j<=12/\i=J Y j/\Hid (BSl wr u (GU L j))/\Hid (I w4.heap.size w4 wr)) (fun _ i _=>12-(intOf i).toNat)
 case atStart=>exact⟨0,by omega,rfl,lO,AC _ _⟩
 case round=>
  obtain⟨j,hj,rfl,HBS,HBR⟩:=hrel;clear lO;by_cases hlt:j<12
  . have hf:=HCF.out j hlt
    have hf1:wr.cell? ⟨gf,j*2,Z⟩=H (G (H ⟨w.heap.size,j,Z⟩)):=(by rw[HBR.out.cell uH];exact hf.1);have hf2:wr.cell? ⟨gf,j*2+1,Z⟩=H (J Y (Ih j:Int)):=(by rw[HBR.out.cell uH];exact hf.2);have hx0:=O5 HFR.out j hlt;obtain⟨x,hx⟩:=nm (num L j);have MW:wr.cell? ⟨w.heap.size,j,Z⟩=H (J Y x):=(by rw[HBR.out.cell uI,hx];exact HC.out j hlt);rw[<- hx] at hx0;have hwd:=Py j;obtain⟨k,hk⟩:=nm (Ih j);rw[<- hk] at hwd hf2;have HX:=wM hx;have HK:=wM hk;have ej:(j:Int)<12:=(by omega);have HPU:=wM (mS (L:=L) j hlt x hx hx0 k hk);clear hx hk hf;have Uz:w.heap.size<wr.heap.size:=AA uI HBR.out.size;go_wp2;have hbx:=As wr (A #[G (H ⟨w.heap.size,j,Z⟩),J Y (k:Int)] 282);have Q5:=Ar wr (A #[G (H ⟨w.heap.size,j,Z⟩),J Y (k:Int)] 282);generalize wr.alloc (A #[G (H ⟨w.heap.size,j,Z⟩),J Y (k:Int)] 282)=W5 at hbx Q5 |-
    have c0:W5.cell? ⟨wr.heap.size,0,Z⟩=H (G (H ⟨w.heap.size,j,Z⟩)):=(by rw[Aq _ _ _ _ _ _ Q5];rfl);have c1:W5.cell? ⟨wr.heap.size,1,Z⟩=H (J Y (k:Int)):=(by rw[Aq _ _ _ _ _ _ Q5];rfl);have c2:W5.cell? ⟨w.heap.size,j,Z⟩=H (J Y x):=(by rw[hbx.cell Uz];exact MW);have HBX:=wM (AM hbx 1);have HU:=wM (HBS.out.below HBX.out);change Hid (BSl W5.drew _ _) at HU;change Hid (I wr.heap.size wr W5.drew) at HBX;clear hbx Q5 MW hf1 hf2 Uz;go_still_tail 8,(by kernel_rfl)
    go_wp2_with (go_at_call 133;refine(HPU.out _ _ HU.out).mono ?_;rintro e w6 ⟨v6,rfl,hob6,hb6⟩)
    have HB6:=wM (HBX.out.trans (hb6.mono HBX.out.size));clear hb6;go_roundw
    case rel=>exact⟨j+1,by omega,by go_num,hob6.bsl,HBR.out.trans (HB6.out.mono HBR.out.size)⟩
    case measure=>simp[intOf];omega
  . obtain rfl:j=12:=by omega
    have HSE:=wM (La HBS.out (by rw[EA];decide));go_wp2_with (go_at_call 187;refine HSE.out.mono ?_;rintro e w7 ⟨v7,rfl,hob7,hb7⟩)
    go_ret2;have hB:=HB04.out.trans (HBR.out.mono HB04.out.size);exact⟨v7,rfl,hob7.more hB.size,hB.trans (hb7.mono hB.size)⟩
theorem aE{L:List Int}(hL:L.length=12)(hT:RA L)(w:R):Av U 151 #[F8 L] w (Ul L w):=by
 have h0:DP L=Ay\/DP L=AE:=by cases DP L <;> simp
 have KF:∀ B,DP L=B->_:=fun B h=>QL hL hT B h
 have hob:=As w (Ca L 135);obtain⟨W1,hW1⟩:=nm (w.alloc (Ca L 135));rw[<- hW1] at hob
 match L,hL with
 |[b,st,tg,cu,io,ba,t0,t1,t2,t3,t4,t5],_=>
  have Ko:w.alloc (A #[J Y b,J Y st,J Y tg,J Y cu,J Y io,J Y ba,J Y t0,J Y t1,J Y t2,J Y t3,J Y t4,J Y t5] 135)=W1:=by rw[hW1];rfl
  have H2:=wM Ko;show Av U 151 #[BN #[J Y b,J Y st,J Y tg,J Y cu,J Y io,J Y ba,J Y t0,J Y t1,J Y t2,J Y t3,J Y t4,J Y t5]] w (Ul _ w)
  rcases h0 with h0|h0
  . refine Av.mono ?_ fun e w' h=>AW ⟨h0,h⟩
    have K0:Hid (∀ w,Av U 186 #[BN #[J Y b,J Y st,J Y tg,J Y cu,J Y io,J Y ba,J Y t0,J Y t1,J Y t2,J Y t3,J Y t4,J Y t5]] w fun e w'=>e=Aj (AP Ay)/\I w.heap.size w w'):=wM (KF _ h0);clear KF h0 hW1 Ko hT;go_enter Tryz.func151,Tryz.ntmps151;go_wp2_with (first|(go_at_call 186;rw[H2.out];refine(K0.out _).mono ?_;rintro e w2 ⟨rfl,hb2⟩))
    go_ret2;exact⟨rfl,hob.trans (hb2.mono hob.size)⟩
  . refine Av.mono ?_ fun e w' h=>AU ⟨h0,h⟩
    exact kJ b st tg cu io ba t0 t1 t2 t3 t4 t5 _ rfl h0 w (KF _ h0)
def Kept(w w':R)(g:Nat):Prop:=w'.os=w.os/\w'.tape=w.tape/\w'.output=w.output/\w.heap.size<=w'.heap.size/\∀ k,k<w.heap.size->k≠g->w'.heap[k]? =w.heap[k]?
theorem Kept.refl(w:R)(g:Nat):Kept w w g:=⟨rfl,rfl,rfl,At _,fun _ _ _=>rfl⟩
theorem Kept.then{w w' w'':R}{g:Nat}(h:Kept w w' g)(hb:I w'.heap.size w' w''):Kept w w'' g:=
 ⟨hb.os.trans h.1,hb.tape.trans h.2.1,hb.output.trans h.2.2.1,AI h.2.2.2.1 hb.size,fun k hk hne=>by rw[hb.block k (AA hk h.2.2.2.1)];exact h.2.2.2.2 k hk hne⟩
theorem Kept.wrote{w w' w'':R}{g:Nat}(h:Kept w w' g)(hb:Wrote w' w'' g):Kept w w'' g:=
 ⟨hb.1.trans h.1,hb.2.1.trans h.2.1,hb.2.2.1.trans h.2.2.1,by rw[hb.2.2.2.1];exact h.2.2.2.1,fun k hk hne=>by rw[hb.2.2.2.2 k hne];exact h.2.2.2.2 k hk hne⟩
theorem Kept.below{w w':R}{g B:Nat}(h:Kept w w' g)(hB:B<=g)(hw:B<=w.heap.size):I B w w':=
 ⟨h.1,h.2.1,h.2.2.1,h.2.2.2.1,fun k hk=>h.2.2.2.2 k (AA hk hw) (by omega)⟩
theorem Kept.cell{w w':R}{g:Nat}(h:Kept w w' g){b o:Nat}(hb:b<w.heap.size)(hne:b≠g):w'.cell? ⟨b,o,Z⟩=w.cell? ⟨b,o,Z⟩:=by
 simp only[R.cell?];rw[h.2.2.2.2 b hb hne]
def Lq(c:List Int)(j:Nat):List Int:=(Bu 12).map fun i=>if i<j then Cl c (pos i) (Ih i) else 0
theorem GH(c:List Int)(j:Nat):(Lq c j).length=12:=by simp[Lq]
theorem js(c:List Int)(j:Nat)(hj:j<12):(Lq c j).set j (Cl c (pos j) (Ih j))=Lq c (j+1):=by
 apply Bg (by rw[AF,GH,GH]);intro i h1 h2;simp only[Lq,Ef,Co,Cc];by_cases e:j=i
 . subst e;rw[Au rfl,Au (by omega)]
 . rw[Ax e]
   by_cases h:i<j
   . rw[Au h,Au (by omega)]
   . rw[Ax h,Ax (by omega)]
theorem fR(c:List Int):Lq c 12=QQ c:=by
 unfold Lq QQ;apply Ck;intro i hi;rw[Au (Bd.1 hi)]
theorem lm{W:R}{g:Nat}{L:List Int}{T:Cg}(h:W.heap[g]? =H (Ca L T))(j:Nat)(y:Int):(W.setCell ⟨g,j,Z⟩ (J Y y)).heap[g]? =H (Ca (L.set j y) T):=by
 rw[A8 W g j _ _ _ h];simp[Ca]
theorem iE(j:Nat)(hj:j<12):pos j+Ih j<=252:=by
 have:∀ i,i<=12->pos i<=8+2*i:=fun i _=>by
  induction i with
  |zero=>exact At _
  |succ i ih=>have:=ih (by omega);rw[pos];unfold Ih;split <;> omega
 have:=this (j+1) (by omega);rw[pos] at this;omega
theorem jn{c:List Int}(hc:c.length=252)(j:Nat)(hj:j<12)(k:Nat)(hk:k=Ih j):PI c (pos j:Int) (k:Int)=Cl c (pos j) (Ih j):=by
 have:=iE j hj;have h1:1<=Ih j/\Ih j<=2:=by unfold Ih;split <;> omega
 unfold PI;rw[Au (by omega),hk];rfl
theorem VK{c:List Int}(hb:Fv c)(j:Nat):0<=Cl c (pos j) (Ih j)/\Cl c (pos j) (Ih j)<65536:=by
 have h:=EL (C3 hb) (pos j) (Ih j);have h1:1<=Ih j/\Ih j<=2:=by unfold Ih;split <;> omega
 have:=Hm h1.2;have e:(256:Int) ^ 2=65536:=rfl;omega
theorem aj:(U.info? 135).map (·.size)=H 12:=by kernel_rfl
theorem Ft{ops:Array BE}{rest:List BE}{o:BE}{a:Act}{w:R}{Q:Exit->Act->R->Prop}(Du:o.guard=Z)(x:Operand)(ho:o.op=.load 135 x)
 (g:Nat) (hx:a.eval x=G (H ⟨g,0,Z⟩)) (L:List Int) (hL:L.length=12) (T:Cg) (hg:w.heap[g]? =H (Ca L T)) (h:Cf U ops Q rest (a.put o.dst (F8 L)) w):Cf U ops Q (o :: rest) a w:=
 wpList_load_row Du 135 x ho g hx T _ (0,0) _ hg Tryz.underlying135 rfl (by rw[aj];simp[hL]) h
theorem UB(L:List Int):(L.map (J Y)).toArray.all (·.oneCell')=AE:=by
 rw[Array.all_eq_true'];intro v hv;simp at hv;obtain⟨x,_,rfl⟩:=hv;rfl
theorem CO{ops:Array BE}{rest:List BE}{o:BE}{a:Act}{w:R}{Q:Exit->Act->R->Prop}(Du:o.guard=Z)(x y:Operand)(ho:o.op=.store 135 x y)
 (g:Nat) (hx:a.eval x=G (H ⟨g,0,Z⟩)) (L M:List Int) (hy:a.eval y=F8 L) (hL:L.length=12) (hM:M.length=12) (T:Cg) (hg:w.heap[g]? =H (Ca M T))
 (h:∀ w',Wrote w w' g->w'.heap[g]? =H (Ca L T)->Cf U ops Q rest (a.put o.dst undef) w'):Cf U ops Q (o :: rest) a w:=
 C0 Du 135 x y ho g _ hx hy T _ hg (by rw[aj];simp[hL]) (by simp[hL,hM]) (UB L) (h _ (Wrote.setRow _ _ _) (CC _ _ _ _ _ _ hg))
theorem mz{fn:Func}{p:Tmp}(h:fn.results=#[.cell p 135])(tmps:Array z)(w:R)(g:Nat)(T:Cg)(L:List Int)(hL:L.length=12)(hp:tmps.getD p undef=G (H ⟨g,0,Z⟩))(hg:w.heap[g]? =H (Ca L T)):
 (results fn tmps).run U w=.ok (F8 L) w:=
 results_cell_row h tmps w g T _ (0,0) _ hp hg Tryz.underlying135 rfl (by rw[aj];simp[hL])
theorem PZ{w:R}{v:z}{c:List Int}(hs:BSl w v c)(hc:c.length=252):Av U 150 #[v] w fun e w'=>e=Aj (F8 (QQ c))/\I w.heap.size w w':=by
 have HS:=wM hs;have HCL:=wM hc;clear hs hc;have hw2:∃ w2,w2=(w.alloc (Ca (Lq c 0) 135)).alloc (Ca (Lq c 0) 135):=⟨_,rfl⟩;obtain⟨w2,hw2⟩:=hw2;have h2:(w.alloc (A #[J Y 0,J Y 0,J Y 0,J Y 0,J Y 0,J Y 0,J Y 0,J Y 0,J Y 0,J Y 0,J Y 0,J Y 0] 135)).alloc (A #[J Y 0,J Y 0,J Y 0,J Y 0,J Y 0,J Y 0,J Y 0,J Y 0,J Y 0,J Y 0,J Y 0,J Y 0] 135)=w2:=by rw[hw2];rfl
 have hb2:I w.heap.size w w2:=by rw[hw2];exact((AC _ _).alloc (At _) _).alloc (by simp) _
 have Il:w2.heap[w.heap.size]? =H (Ca (Lq c 0) 135):=by rw[hw2,@heap_alloc_old _ _ _ (by simp)];exact Ar _ _
 have hr1:w2.heap[w.heap.size+1]? =H (Ca (Lq c 0) 135):=by rw[hw2];exact heap_alloc2_new _ _ _
 have hz2:w2.heap.size=w.heap.size+2:=by rw[hw2];simp
 have H2:=wM h2;have HR0:=wM Il;have HR1:=wM hr1;clear h2 hw2 Il hr1;go_enter Tryz.func150,Tryz.ntmps150
 go_wp2_with (first
  |(go_at_call 185;rw[H2.out];refine(PU _ _).mono ?_;rintro e w4 ⟨v4,rfl,hf4,hb4⟩;obtain⟨gf,cap,rfl,uH,Xc,Ii,tq⟩:=hf4.shape (by decide)))
 obtain⟨gs,gF⟩:=nm (w.heap.size+1);have ZO:w4.heap[gs]? =H (Ca (Lq c 0) 135):=by rw[gF,hb4.block _ (by omega)];exact HR1.out
 have lP:w4.heap[w.heap.size]? =H (Ca (Lq c 0) 135):=by rw[hb4.block _ (by omega)];exact HR0.out
 have hb04:I w.heap.size w w4:=hb2.trans (hb4.mono (by omega));have sw:gs<w4.heap.size:=(Ah.1 ZO).1;have uJ:gf≠gs:=by omega
 have hwl:w.heap.size<w4.heap.size:=by omega
 rw[<- gF] at tq |-
 have HG:=wM gF;have HCF:=wM tq;have HB04:=wM hb04;have HGR:=wM lP;clear gF tq hb04 lP hb4 hf4 hz2 hb2 Ii Xc;go_loopw [4,11] (fun at_ i wr=>∃ j:Nat,j<=12/\i=J Y j/\at_=J Y (pos j:Int)/\Hid (wr.heap[gs]? =H (Ca (Lq c j) 135))/\Hid (Kept w4 wr gs)) (fun _ i _=>12-(intOf i).toNat)
 case atStart=>exact⟨0,by omega,rfl,rfl,ZO,Kept.refl _ _⟩
 case round=>
  obtain⟨j,hj,rfl,rfl,HRW,HKP⟩:=hrel;clear ZO;by_cases hlt:j<12
  . have hf:=HCF.out j hlt
    have hf1:wr.cell? ⟨gf,j*2,Z⟩=H (G (H ⟨gs,j,Z⟩)):=(by rw[HKP.out.cell uH uJ];exact hf.1);have hf2:wr.cell? ⟨gf,j*2+1,Z⟩=H (J Y (Ih j:Int)):=(by rw[HKP.out.cell uH uJ];exact hf.2);have qu:=VK HS.out.1 j;have hwd:1<=Ih j/\Ih j<=2:=by unfold Ih;split <;> omega
    have Kq:=iE j hlt;have WP:=jn HCL.out j hlt _ rfl;obtain⟨y,hy⟩:=nm (Cl c (pos j) (Ih j));rw[<- hy] at qu WP;have EN:pos (j+1)=pos j+Ih j:=rfl;obtain⟨P,hP⟩:=nm (pos j);obtain⟨k,hk⟩:=nm (Ih j);have hset:=js c j hlt;rw[<- hy] at hset;rw[<- hP] at Kq WP EN |-
    rw[<- hk] at hwd Kq WP EN hf2;have HGET:Hid (∀ W,BSl W v c->Av U 183 #[v,J Y (P:Int),J Y (k:Int)] W fun e w'=>∃ B,e=Aj (AH #[J .u64 y,AP B])/\W=w'):=wM fun W h=>by
     have:=MC h (by have:=HCL.out;omega) (P:Int) (k:Int) (by omega) (by omega);rw[WP] at this;exact this.mono fun e w' ⟨h1,h2⟩=>⟨_,h1,h2⟩
    have HSET:=wM hset;have ej:(j:Int)<12:=(by omega);have Uz:gs<wr.heap.size:=AA sw HKP.out.2.2.2.1;have HNX:=wM EN;have hbw:=HB04.out.trans (HKP.out.below (B:=w.heap.size) (by have:=HG.out;omega) (by omega));have HBW:=wM hbw;clear hy hP hk hset WP hf EN hbw;have lQ:wr.heap.size≠gs:=by omega
    go_wp2_with (first
     |(go_at_call 183
       have hb5:=As wr (A #[G (H ⟨gs,j,Z⟩),J Y (k:Int)] 282);have pp:=Ar wr (A #[G (H ⟨gs,j,Z⟩),J Y (k:Int)] 282);generalize wr.alloc (A #[G (H ⟨gs,j,Z⟩),J Y (k:Int)] 282)=W5 at hb5 pp |-
       have Db:W5.heap[gs]? =H (Ca (Lq c j) 135):=(hb5.block _ Uz).trans HRW.out;have c0:W5.cell? ⟨wr.heap.size,0,Z⟩=H (G (H ⟨gs,j,Z⟩)):=(by rw[Aq _ _ _ _ _ _ pp];rfl);have c1:W5.cell? ⟨wr.heap.size,1,Z⟩=H (J Y (k:Int)):=(by rw[Aq _ _ _ _ _ _ pp];rfl);have ck:=Hv Db j (by rw[GH];exact hlt);have fk:W5.frozen? ⟨gs,j,Z⟩=Ay:=(by simp[R.frozen?,Db,Ca]);have hw6:=Wrote.setCell W5 gs j (J Y y);have c6:(W5.setCell ⟨gs,j,Z⟩ (J Y y)).cell? ⟨wr.heap.size,1,Z⟩=H (J Y (k:Int)):=by
        simp only[R.cell?];rw[hw6.2.2.2.2 _ lQ];exact c1
       have hr6:=lm Db j y;rw[HSET.out] at hr6;have HK6:=wM ((HKP.out.then hb5).wrote hw6);have HR6:=wM hr6;have HB5:=wM (HBW.out.trans (hb5.mono HBW.out.size));clear hb5 pp Db hr6 hw6 hf1 hf2 lQ;refine(HGET.out _ (HS.out.below HB5.out)).mono ?_;rintro e w' ⟨B,rfl,rfl⟩))
    go_roundw
    case rel=>exact⟨j+1,by omega,by go_num,by rw[HNX.out];go_num,HR6.out,HK6.out⟩
    case measure=>simp[intOf];omega
  . obtain rfl:j=12:=by omega
    have sx:wr.heap[w.heap.size]? =H (Ca (Lq c 0) 135):=(by rw[HKP.out.2.2.2.2 _ hwl (by have:=HG.out;omega)];exact HGR.out);have hlen:=GH c 12;have uK:=GH c 0;have HBW:=wM (HB04.out.trans (HKP.out.below (B:=w.heap.size) (by have:=HG.out;omega) (by omega)))
    go_wp2_with (first
     |(with_reducible refine Ft rfl _ rfl gs rfl _ hlen _ HRW.out ?_)
     |(with_reducible refine CO rfl _ _ rfl w.heap.size rfl _ _ rfl hlen uK _ sx ?_;intro w7 hw7 NT))
    refine AS (mz rfl _ _ w.heap.size _ _ hlen rfl NT) rfl ⟨by rw[fR],HBW.out.trans (hw7.below (At _) |>.mono (At _))⟩
def C8:List Int:=Aw 12 0
def rH(l:List Int)(w:R)(e:Ending)(w':R):Prop:=
 I w.heap.size w w'/\((qV l/\e=Aj (AH #[F8 (tP l),J Y 0]))\/(¬ qV l/\e=Aj (AH #[F8 C8,J Y 18])))
theorem Y9{c:List Int}(hb:Fv c):RA (QQ c):=fun i=>by
 by_cases hi:i<12
 . rw[af _ _ hi];have:=VK hb i;omega
 . unfold num;rw[An,A2 (by rw[Ht];omega)];decide
theorem o4{L:List Int}(hL:L.length=12)(hT:RA L)(h:DP L=Ay)(w:R):Av U 151 #[F8 L] w fun e w'=>e=Aj (AH #[Ak Z 0 0,J Y 1])/\I w.heap.size w w':=
 (aE hL hT w).mono fun e w' ho=>ho.elim (fun h1=>by rw[h] at h1;cases h1.1) fun h1=>h1.2
theorem ar{L:List Int}(hL:L.length=12)(hT:RA L)(h:DP L=AE)(w:R):Av U 151 #[F8 L] w fun e w'=>∃ v,e=Aj (AH #[v,J Y 0])/\OB w' w.heap.size v (Gj L)/\I w.heap.size w w':=
 (aE hL hT w).mono fun e w' ho=>ho.elim (fun h1=>h1.2) fun h1=>by rw[h] at h1;cases h1.1
theorem JV{fn:Func}{p u:Tmp}(h:fn.results=#[.cell p 135,.tmp u])(tmps:Array z)(w:R)(g:Nat)(T:Cg)(L:List Int)(x:z)(hL:L.length=12)(hp:tmps.getD p undef=G (H ⟨g,0,Z⟩))(hg:w.heap[g]? =H (Ca L T))(hx:tmps.getD u undef=x):
 (results fn tmps).run U w=.ok (AH #[F8 L,x]) w:=by
 rw[results_cell_tmp h,hp,hx];simp only[asAddr,Sem.run_pure,Result.andThen_ok];rw[run_loadVar_row w g T 135 _ (0,0) _ hg Tryz.underlying135 rfl (by rw[aj];simp[hL])];rfl
theorem jp{w:R}{v:z}{l:List Int}(hs:BSl w v l)(h:¬ Fx l):Av U 107 #[v] w fun e w'=>e=Aj (AH #[F8 C8,J Y 18])/\I w.heap.size w w':=by
 have hb1:=As w (Ca C8 135);have hr1:=Ar w (Ca C8 135);obtain⟨w1,hw1⟩:=nm (w.alloc (Ca C8 135));rw[<- hw1] at hb1 hr1;have h1:w.alloc (A #[J Y 0,J Y 0,J Y 0,J Y 0,J Y 0,J Y 0,J Y 0,J Y 0,J Y 0,J Y 0,J Y 0,J Y 0] 135)=w1:=by rw[hw1];rfl
 have SE:w.heap.size<w1.heap.size:=by rw[hw1];simp
 have H1:=wM h1;have HR1:=wM hr1;have HO:=wM (Se (hs.below hb1) h);clear hs h h1 hw1 hr1;go_enter Tryz.func107,Tryz.ntmps107
 go_wp2_with (first
  |(go_at_call 149;rw[H1.out];refine HO.out.mono ?_;rintro e w2 ⟨rfl,hb2⟩
    have hr2:w2.heap[w.heap.size]? =H (Ca C8 135):=(hb2.block _ SE).trans HR1.out)
  |(with_reducible refine CO rfl (.tmp 2) (.tmp 16) rfl w.heap.size rfl C8 C8 rfl rfl rfl _ hr2 ?_;intro w3 hw3 hr3))
 exact AS (JV rfl _ _ w.heap.size _ _ _ rfl rfl hr3 rfl) rfl ⟨rfl,(hb1.trans (hb2.mono hb1.size)).trans (hw3.below (At _))⟩
theorem lu{w:R}{v:z}{l:List Int}(hs:BSl w v l)(h:Fx l)(hf:DP (QQ (l.take 252))=Ay):Av U 107 #[v] w fun e w'=>e=Aj (AH #[F8 C8,J Y 18])/\I w.heap.size w w':=by
 have hb1:=As w (Ca C8 135);have hr1:=Ar w (Ca C8 135);obtain⟨w1,hw1⟩:=nm (w.alloc (Ca C8 135));rw[<- hw1] at hb1 hr1;have h1:w.alloc (A #[J Y 0,J Y 0,J Y 0,J Y 0,J Y 0,J Y 0,J Y 0,J Y 0,J Y 0,J Y 0,J Y 0,J Y 0] 135)=w1:=by rw[hw1];rfl
 have SE:w.heap.size<w1.heap.size:=by rw[hw1];simp
 have H1:=wM h1;have HR1:=wM hr1;have HO:=wM (J2 (hs.below hb1) h);have hlt:=MT h;have MZ:=Y9 (Es hs.1 252);have hrl:=Ht (l.take 252);obtain⟨c,hc⟩:=nm (l.take 252);rw[<- hc] at hlt HO hf MZ hrl;obtain⟨L,hL⟩:=nm (QQ c);rw[<- hL] at hf MZ hrl;have HL:=wM hL;have HLT:=wM hlt;have HEN:=wM (o4 hrl MZ hf);clear hs h h1 hw1 hr1 hc hf MZ hlt hL;go_enter Tryz.func107,Tryz.ntmps107
 go_wp2_with (first
  |(go_at_call 149;rw[H1.out];refine HO.out.mono ?_;rintro e w2 ⟨v2,rfl,hob2,hb2⟩)
  |(go_at_call 150;refine(PZ hob2.bsl HLT.out).mono ?_;rw[<- HL.out];rintro e w3 ⟨rfl,hb3⟩)
  |(with_reducible refine CO rfl (.tmp 6) (.tmp 18) rfl w3.heap.size rfl L C8 rfl hrl rfl _ (Ar w3 _) ?_
    intro w5 hw5 Db;have hb5:I w3.heap.size w3 w5:=(As w3 _).trans (hw5.below (At _)))
  |(with_reducible refine Ft rfl (.tmp 6) rfl w3.heap.size rfl L hrl _ Db ?_)
  |(go_at_call 151;refine(HEN.out _).mono ?_;rintro e w6 ⟨rfl,hb6⟩
    have hz2:=AA SE hb2.size;have I9:=AA hz2 hb3.size;have ZP:=AA I9 hb5.size;have hr6:w6.heap[w.heap.size]? =H (Ca C8 135):=(by rw[hb6.block _ ZP,hb5.block _ I9,hb3.block _ hz2,hb2.block _ SE];exact HR1.out);have hb26:I w2.heap.size w2 w6:=(hb3.trans (hb5.mono hb3.size)).trans (hb6.mono (AI hb3.size hb5.size));have hb06:I w.heap.size w w6:=(hb1.trans (hb2.mono hb1.size)).trans (hb26.mono (AI hb1.size hb2.size));clear hz2 I9 ZP hb26)
  |(with_reducible refine CO rfl (.tmp 2) (.tmp 32) rfl w.heap.size rfl C8 C8 rfl rfl rfl _ hr6 ?_;intro w7 hw7 NT))
 exact AS (JV rfl _ _ w.heap.size _ _ _ rfl rfl NT rfl) rfl ⟨rfl,hb06.trans (hw7.below (At _))⟩
theorem cG{w:R}{v:z}{l:List Int}(hs:BSl w v l)(h:Fx l)(hf:DP (QQ (l.take 252))=AE)(Rq:Gj (QQ (l.take 252))=l):Av U 107 #[v] w fun e w'=>e=Aj (AH #[F8 (QQ (l.take 252)),J Y 0])/\I w.heap.size w w':=by
 have hb1:=As w (Ca C8 135);have hr1:=Ar w (Ca C8 135);obtain⟨w1,hw1⟩:=nm (w.alloc (Ca C8 135));rw[<- hw1] at hb1 hr1;have h1:w.alloc (A #[J Y 0,J Y 0,J Y 0,J Y 0,J Y 0,J Y 0,J Y 0,J Y 0,J Y 0,J Y 0,J Y 0,J Y 0] 135)=w1:=by rw[hw1];rfl
 have SE:w.heap.size<w1.heap.size:=by rw[hw1];simp
 have H1:=wM h1;have HR1:=wM hr1;have HS:=wM hs;have HO:=wM (J2 (hs.below hb1) h);have hlt:=MT h;have MZ:=Y9 (Es hs.1 252);have hrl:=Ht (l.take 252);obtain⟨c,hc⟩:=nm (l.take 252);rw[<- hc] at hlt HO hf MZ hrl Rq |-
 obtain⟨L,hL⟩:=nm (QQ c);rw[<- hL] at hf MZ hrl Rq |-
 have HL:=wM hL;have HLT:=wM hlt;have HEN:=wM (ar hrl MZ hf);have HD:Hid (decide (Gj L=l)=AE):=wM (Az Rq);clear hs h h1 hw1 hr1 hc hf MZ hlt hL Rq;go_enter Tryz.func107,Tryz.ntmps107
 go_wp2_with (first
  |(go_at_call 149;rw[H1.out];refine HO.out.mono ?_;rintro e w2 ⟨v2,rfl,hob2,hb2⟩)
  |(go_at_call 150;refine(PZ hob2.bsl HLT.out).mono ?_;rw[<- HL.out];rintro e w3 ⟨rfl,hb3⟩)
  |(with_reducible refine CO rfl (.tmp 6) (.tmp 18) rfl w3.heap.size rfl L C8 rfl hrl rfl _ (Ar w3 _) ?_
    intro w5 hw5 Db;have hb5:I w3.heap.size w3 w5:=(As w3 _).trans (hw5.below (At _)))
  |(with_reducible refine Ft rfl (.tmp 6) rfl w3.heap.size rfl L hrl _ Db ?_)
  |(go_at_call 151;refine(HEN.out _).mono ?_;rintro e w6 ⟨v6,rfl,hob6,hb6⟩
    have hz2:=AA SE hb2.size;have I9:=AA hz2 hb3.size;have ZP:=AA I9 hb5.size;have hr6:w6.heap[w.heap.size]? =H (Ca C8 135):=(by rw[hb6.block _ ZP,hb5.block _ I9,hb3.block _ hz2,hb2.block _ SE];exact HR1.out);have uL:w6.heap[w3.heap.size]? =H (Ca L 135):=(by rw[hb6.block _ (Ah.1 Db).1];exact Db);have hb26:I w2.heap.size w2 w6:=(hb3.trans (hb5.mono hb3.size)).trans (hb6.mono (AI hb3.size hb5.size));have hb06:I w.heap.size w w6:=(hb1.trans (hb2.mono hb1.size)).trans (hb26.mono (AI hb1.size hb2.size));clear hz2 I9 ZP hb26)
  |(go_at_call 152;refine(Ek hob6.bsl (HS.out.below hb06)).mono ?_;rw[HD.out];rintro e w' ⟨rfl,rfl⟩)
  |(with_reducible refine Ft rfl (.tmp 6) rfl w3.heap.size rfl L hrl _ uL ?_)
  |(with_reducible refine CO rfl (.tmp 2) (.tmp 33) rfl w.heap.size rfl L C8 rfl hrl rfl _ hr6 ?_;intro w7 hw7 NT))
 exact AS (JV rfl _ _ w.heap.size _ _ _ hrl rfl NT rfl) rfl ⟨rfl,hb06.trans (hw7.below (At _))⟩
theorem Zs{w:R}{v:z}{l:List Int}(hs:BSl w v l)(h:Fx l)(hf:DP (QQ (l.take 252))=AE)(Rq:Gj (QQ (l.take 252))≠l):Av U 107 #[v] w fun e w'=>e=Aj (AH #[F8 C8,J Y 18])/\I w.heap.size w w':=by
 have hb1:=As w (Ca C8 135);have hr1:=Ar w (Ca C8 135);obtain⟨w1,hw1⟩:=nm (w.alloc (Ca C8 135));rw[<- hw1] at hb1 hr1;have h1:w.alloc (A #[J Y 0,J Y 0,J Y 0,J Y 0,J Y 0,J Y 0,J Y 0,J Y 0,J Y 0,J Y 0,J Y 0,J Y 0] 135)=w1:=by rw[hw1];rfl
 have SE:w.heap.size<w1.heap.size:=by rw[hw1];simp
 have H1:=wM h1;have HR1:=wM hr1;have HS:=wM hs;have HO:=wM (J2 (hs.below hb1) h);have hlt:=MT h;have MZ:=Y9 (Es hs.1 252);have hrl:=Ht (l.take 252);obtain⟨c,hc⟩:=nm (l.take 252);rw[<- hc] at hlt HO hf MZ hrl Rq;obtain⟨L,hL⟩:=nm (QQ c);rw[<- hL] at hf MZ hrl Rq;have HL:=wM hL;have HLT:=wM hlt;have HEN:=wM (ar hrl MZ hf);have HD:Hid (decide (Gj L=l)=Ay):=wM (AB Rq);clear hs h h1 hw1 hr1 hc hf MZ hlt hL Rq;go_enter Tryz.func107,Tryz.ntmps107
 go_wp2_with (first
  |(go_at_call 149;rw[H1.out];refine HO.out.mono ?_;rintro e w2 ⟨v2,rfl,hob2,hb2⟩)
  |(go_at_call 150;refine(PZ hob2.bsl HLT.out).mono ?_;rw[<- HL.out];rintro e w3 ⟨rfl,hb3⟩)
  |(with_reducible refine CO rfl (.tmp 6) (.tmp 18) rfl w3.heap.size rfl L C8 rfl hrl rfl _ (Ar w3 _) ?_
    intro w5 hw5 Db;have hb5:I w3.heap.size w3 w5:=(As w3 _).trans (hw5.below (At _)))
  |(with_reducible refine Ft rfl (.tmp 6) rfl w3.heap.size rfl L hrl _ Db ?_)
  |(go_at_call 151;refine(HEN.out _).mono ?_;rintro e w6 ⟨v6,rfl,hob6,hb6⟩
    have hz2:=AA SE hb2.size;have I9:=AA hz2 hb3.size;have ZP:=AA I9 hb5.size;have hr6:w6.heap[w.heap.size]? =H (Ca C8 135):=(by rw[hb6.block _ ZP,hb5.block _ I9,hb3.block _ hz2,hb2.block _ SE];exact HR1.out);have uL:w6.heap[w3.heap.size]? =H (Ca L 135):=(by rw[hb6.block _ (Ah.1 Db).1];exact Db);have hb26:I w2.heap.size w2 w6:=(hb3.trans (hb5.mono hb3.size)).trans (hb6.mono (AI hb3.size hb5.size));have hb06:I w.heap.size w w6:=(hb1.trans (hb2.mono hb1.size)).trans (hb26.mono (AI hb1.size hb2.size));clear hz2 I9 ZP hb26)
  |(go_at_call 152;refine(Ek hob6.bsl (HS.out.below hb06)).mono ?_;rw[HD.out];rintro e w' ⟨rfl,rfl⟩)
  |(with_reducible refine CO rfl (.tmp 2) (.tmp 32) rfl w.heap.size rfl C8 C8 rfl rfl rfl _ hr6 ?_;intro w7 hw7 NT))
 exact AS (JV rfl _ _ w.heap.size _ _ _ rfl rfl NT rfl) rfl ⟨rfl,hb06.trans (hw7.below (At _))⟩
theorem oF{w:R}{v:z}{l:List Int}(hs:BSl w v l):Av U 107 #[v] w (rH l w):=by
 by_cases h:Fx l
 . by_cases hf:DP (QQ (l.take 252))=AE
   . by_cases Rq:Gj (QQ (l.take 252))=l
     . exact(cG hs h hf Rq).mono fun e w' ⟨h1,h2⟩=>⟨h2,AU ⟨⟨h,hf,Rq⟩,h1⟩⟩
     . exact(Zs hs h hf Rq).mono fun e w' ⟨h1,h2⟩=>⟨h2,AW ⟨fun hh=>Rq hh.2.2,h1⟩⟩
   . exact(lu hs h (by simpa using hf)).mono fun e w' ⟨h1,h2⟩=>⟨h2,AW ⟨fun hh=>hf hh.2.1,h1⟩⟩
 . exact(jp hs h).mono fun e w' ⟨h1,h2⟩=>⟨h2,AW ⟨fun hh=>h hh.1,h1⟩⟩
def cF(x:z × Int):List z:=[x.1,J Y x.2]
theorem YA(x:z × Int):(cF x).length=2:=rfl
def wa(g j:Nat):z × Int:=(G (H ⟨g,j,Z⟩),(w7 j:Int))
def Pv(g k:Nat):List (z × Int):=(Bu 14).map fun j=>if j<k then wa g j else (G Z,0)
theorem Hc(g k:Nat):(Pv g k).length=14:=by simp[Pv]
theorem cz(g k:Nat):(Pv g k).set k (wa g k)=Pv g (k+1):=by
 apply Bg (by rw[AF,Hc,Hc]);intro i h1 h2;simp only[Pv,Ef,Co,Cc];by_cases e:k=i
 . subst e;rw[Au rfl,Au (by omega)]
 . rw[Ax e]
   by_cases h:i<k
   . rw[Au h,Au (by omega)]
   . rw[Ax h,Ax (by omega)]
def Hb(g k:Nat):List z:=(Pv g k).flatMap cF
theorem GK(g k:Nat):(Hb g k).length=28:=by rw[Hb,CM (s:=2) (fun x _=>YA x),Hc]
theorem UN(g k:Nat):∀ v∈Hb g k,v.oneCell'=AE:=fun v hv=>by
 obtain⟨x,hx,hv⟩:=List.mem_flatMap.1 hv;obtain⟨j,_,rfl⟩:=BZ.1 hx;simp[cF] at hv;rcases hv with rfl|rfl
 . split <;> rfl
 . rfl
theorem qR:(U.info? 229).map (·.size)=H 2:=by kernel_rfl
theorem OV:(U.info? 230).map (·.size)=H 28:=by kernel_rfl
theorem nE{fn:Func}{p:Tmp}(h:fn.results=#[.cell p 230])(tmps:Array z)(w:R)(g:Nat)(T:Cg)(C:List z)(hC:C.length=28)(hp:tmps.getD p undef=G (H ⟨g,0,Z⟩))(hg:w.heap[g]? =H (A C.toArray T (0,0))):
 (results fn tmps).run U w=.ok (BN C.toArray) w:=
 results_cell_row h tmps w g T _ (0,0) _ hp hg Tryz.underlying230 rfl (by rw[OV];simp[hC])
theorem Oy{ops:Array BE}{rest:List BE}{o:BE}{a:Act}{w:R}{Q:Exit->Act->R->Prop}(Du:o.guard=Z)(x y:Operand)(ho:o.op=.store 230 x y)
 (g:Nat) (hx:a.eval x=G (H ⟨g,0,Z⟩)) (C D:List z) (hy:a.eval y=BN C.toArray) (hC:C.length=28) (hD:D.length=28) (h1:∀ v∈C,v.oneCell'=AE) (T:Cg) (hg:w.heap[g]? =H (A D.toArray T (0,0)))
 (h:∀ w',Wrote w w' g->w'.heap[g]? =H (A C.toArray T (0,0))->Cf U ops Q rest (a.put o.dst undef) w'):Cf U ops Q (o :: rest) a w:=
 C0 Du 230 x y ho g _ hx hy T _ hg (by rw[OV];simp[hC]) (by simp[hC,hD]) (Gt h1) (h _ (Wrote.setRow _ _ _) (CC _ _ _ _ _ _ hg))
theorem Ju{ops:Array BE}{rest:List BE}{op:BE}{a:Act}{w:R}{Q:Exit->Act->R->Prop}(Du:op.guard=Z)(x y:Operand)(ho:op.op=.store 229 x y)
 (b g k:Nat) (hk:k<14) (m:Int) (hm:m=(w7 k:Int)) (hx:a.eval x=G (H ⟨b,k*2,Z⟩)) (hy:a.eval y=BN #[G (H ⟨g,k,Z⟩),J Y m])
 (hg:w.heap[b]? =H (A (Hb g k).toArray 230 (0,0)))
 (h:∀ w',Wrote w w' b->w'.heap[b]? =H (A (Hb g (k+1)).toArray 230 (0,0))->Cf U ops Q rest (a.put op.dst undef) w'):Cf U ops Q (op :: rest) a w:=by
 subst hm;refine EX (f:=cF) (s:=2) Du 229 x y ho qR b k (Pv g k) (wa g k) 230 hx hy hg (by rw[Hc];exact hk) (fun x _=>YA x) (YA _) ?_ fun w' h1 h2=>h w' h1 ?_
 . intro v hv
   simp[cF,wa] at hv;rcases hv with rfl|rfl <;> rfl
 . rw[cz] at h2;exact h2
theorem ep(g:Nat):Hb g 0=[G Z,J Y 0,G Z,J Y 0,G Z,J Y 0,G Z,J Y 0,G Z,J Y 0,G Z,J Y 0,G Z,J Y 0,G Z,J Y 0,G Z,J Y 0,G Z,J Y 0,G Z,J Y 0,G Z,J Y 0,G Z,J Y 0,G Z,J Y 0]:=rfl
theorem Qn(g:Nat):Hb g 3=[G (H ⟨g,0,Z⟩),J Y 1,G (H ⟨g,1,Z⟩),J Y 1,G (H ⟨g,2,Z⟩),J Y 4,G Z,J Y 0,G Z,J Y 0,G Z,J Y 0,G Z,J Y 0,G Z,J Y 0,G Z,J Y 0,G Z,J Y 0,G Z,J Y 0,G Z,J Y 0,G Z,J Y 0,G Z,J Y 0]:=rfl
theorem Ps{W:R}{g:Nat}{T:Cg}{D C:List z}(hg:W.heap[g]? =H (A D.toArray T (0,0)))(hl:C.length=D.length)(h1:∀ v∈C,v.oneCell'=AE):
 (W.setCells g 0 C).heap[g]? =H (A C.toArray T (0,0))/\Wrote W (W.setCells g 0 C) g:=by
 have e:=Fk hg (o:=0) (vs:=C) (by omega) h1;rw[e,EM D C hl];exact⟨CC _ _ _ _ _ _ hg,Wrote.setRow _ _ _⟩
theorem Pw(w:R)(g:Nat):Av U 132 #[G (H ⟨g,0,Z⟩)] w fun e w'=>e=Aj (BN (Hb g 14).toArray)/\I w.heap.size w w':=by
 have Il:=Ar w (A (Hb g 0).toArray 230);have hb0:=As w (A (Hb g 0).toArray 230);obtain⟨w1,hw1⟩:=nm (w.alloc (A (Hb g 0).toArray 230));rw[<- hw1] at Il hb0;have Ed:w1.heap.size=w.heap.size+1:=by rw[hw1];simp
 rw[ep] at hw1;have HW1:=wM hw1;have HR0:=wM Il;have hr1:=Ar w1 (A (Hb g 0).toArray 230);have hb1:=As w1 (A (Hb g 0).toArray 230);have hth:(w1.alloc (A #[G Z,J Y 0,G Z,J Y 0,G Z,J Y 0,G Z,J Y 0,G Z,J Y 0,G Z,J Y 0,G Z,J Y 0,G Z,J Y 0,G Z,J Y 0,G Z,J Y 0,G Z,J Y 0,G Z,J Y 0,G Z,J Y 0,G Z,J Y 0] 230)).drew.there w1.heap.size 0 ([G (H ⟨g,0,Z⟩),J Y 1,G (H ⟨g,1,Z⟩),J Y 1,G (H ⟨g,2,Z⟩),J Y 4,G Z,J Y 0,G Z,J Y 0,G Z,J Y 0,G Z,J Y 0,G Z,J Y 0,G Z,J Y 0,G Z,J Y 0,G Z,J Y 0,G Z,J Y 0,G Z,J Y 0,G Z,J Y 0]:List z).toArray.size:=Fg (w:=(w1.alloc (A #[G Z,J Y 0,G Z,J Y 0,G Z,J Y 0,G Z,J Y 0,G Z,J Y 0,G Z,J Y 0,G Z,J Y 0,G Z,J Y 0,G Z,J Y 0,G Z,J Y 0,G Z,J Y 0,G Z,J Y 0,G Z,J Y 0,G Z,J Y 0] 230)).drew) (t:=230) (cur:=Hb g 0) hr1 (by rw[GK];exact At _);have hone:∀ v∈([G (H ⟨g,0,Z⟩),J Y 1,G (H ⟨g,1,Z⟩),J Y 1,G (H ⟨g,2,Z⟩),J Y 4,G Z,J Y 0,G Z,J Y 0,G Z,J Y 0,G Z,J Y 0,G Z,J Y 0,G Z,J Y 0,G Z,J Y 0,G Z,J Y 0,G Z,J Y 0,G Z,J Y 0,G Z,J Y 0]:List z),v.oneCell'=AE:=by have:=UN g 3;rw[Qn] at this;exact this
 have hset:=Ps (W:=(w1.alloc (A #[G Z,J Y 0,G Z,J Y 0,G Z,J Y 0,G Z,J Y 0,G Z,J Y 0,G Z,J Y 0,G Z,J Y 0,G Z,J Y 0,G Z,J Y 0,G Z,J Y 0,G Z,J Y 0,G Z,J Y 0,G Z,J Y 0,G Z,J Y 0] 230)).drew) (g:=w1.heap.size) (T:=230) (D:=Hb g 0) (C:=[G (H ⟨g,0,Z⟩),J Y 1,G (H ⟨g,1,Z⟩),J Y 1,G (H ⟨g,2,Z⟩),J Y 4,G Z,J Y 0,G Z,J Y 0,G Z,J Y 0,G Z,J Y 0,G Z,J Y 0,G Z,J Y 0,G Z,J Y 0,G Z,J Y 0,G Z,J Y 0,G Z,J Y 0,G Z,J Y 0]) hr1 rfl hone;have hb12:=hb1.drew.trans (hset.2.below (At _));have HB12:=wM (hb0.trans (hb12.mono hb0.size));have HBX:=wM hb12;have HR3:=wM hset.1;have HSZ:=wM Ed;clear hw1 Il hset hr1 hb1 hb12 Ed;have hinf:(U.info? 230).map (·.size)=H ([G (H ⟨g,0,Z⟩),J Y 1,G (H ⟨g,1,Z⟩),J Y 1,G (H ⟨g,2,Z⟩),J Y 4,G Z,J Y 0,G Z,J Y 0,G Z,J Y 0,G Z,J Y 0,G Z,J Y 0,G Z,J Y 0,G Z,J Y 0,G Z,J Y 0,G Z,J Y 0,G Z,J Y 0,G Z,J Y 0]:List z).toArray.size:=OV;go_enter Tryz.func132,Tryz.ntmps132;go_wp2;rw[<- HW1.out];go_region_held3 (fun W=>True) (trivial) (fail)
 generalize (w1.alloc (A #[G Z,J Y 0,G Z,J Y 0,G Z,J Y 0,G Z,J Y 0,G Z,J Y 0,G Z,J Y 0,G Z,J Y 0,G Z,J Y 0,G Z,J Y 0,G Z,J Y 0,G Z,J Y 0,G Z,J Y 0,G Z,J Y 0,G Z,J Y 0] 230)).drew.setCells w1.heap.size 0 [G (H ⟨g,0,Z⟩),J Y 1,G (H ⟨g,1,Z⟩),J Y 1,G (H ⟨g,2,Z⟩),J Y 4,G Z,J Y 0,G Z,J Y 0,G Z,J Y 0,G Z,J Y 0,G Z,J Y 0,G Z,J Y 0,G Z,J Y 0,G Z,J Y 0,G Z,J Y 0,G Z,J Y 0,G Z,J Y 0]=w2 at HB12 HBX HR3 |-
 rw[<- Qn] at HR3;have uM:w2.heap[w.heap.size]? =H (A (Hb g 0).toArray 230 (0,0)):=(HBX.out.block _ (by have:=HSZ.out;omega)).trans HR0.out;have HR02:=wM uM;have hb2:=HB12.out;obtain⟨b,hb⟩:=nm w1.heap.size;have hne:w.heap.size≠b:=by have:=HSZ.out;omega
 have Lo:w.heap.size<=b:=by have:=HSZ.out;omega
 rw[<- hb] at HR3 |-
 clear hinf hth hone uM hb HBX HB12 HR0 HW1 HSZ hb0;go_wp2;go_loopw [18] (fun i wr=>∃ j:Nat,j<=10/\i=J Y j/\Hid (wr.heap[b]? =H (A (Hb g (3+j)).toArray 230 (0,0)))/\Hid (wr.heap[w.heap.size]? =H (A (Hb g 0).toArray 230 (0,0)))/\I w.heap.size w wr) (fun i _=>10-(intOf i).toNat)
 case atStart=>exact⟨0,by omega,rfl,HR3,HR02,hb2⟩
 case round=>
  obtain⟨j,hj,rfl,HR,HRZ,hbr⟩:=hrel;clear HR3 HR02 hb2;by_cases hlt:j<10
  . have ej:(j:Int)<10:=by omega
    have hw2:(2:Int)=(w7 (3+j):Int):=(by simp[Nm]);have HW2:=wM hw2;clear hw2;go_wp2_with (with_reducible refine Ju rfl (.tmp 29) (.tmp 28) rfl b g (3+j) (by omega) 2 HW2.out rfl rfl HR.out ?_;intro w4 hw4 hr4)
    go_roundw
    case rel=>exact⟨j+1,by omega,by go_num,hr4,(hw4.2.2.2.2 _ hne).trans HRZ.out,hbr.trans (hw4.below Lo)⟩
    case measure=>simp[intOf];omega
  . obtain rfl:j=10:=by omega
    go_wp2_with (first
     |(with_reducible refine Ju rfl (.tmp 35) (.tmp 34) rfl b g 13 (by omega) 2 rfl rfl rfl HR.out ?_;intro w4 hw4 hr4
       have M9:=(hw4.2.2.2.2 _ hne).trans HRZ.out)
     |(with_reducible refine wpList_load_row rfl 230 (.tmp 3) rfl b rfl 230 _ (0,0) _ hr4 Tryz.underlying230 rfl (by rw[OV];simp[GK]) ?_)
     |(with_reducible refine Oy rfl (.tmp 2) (.tmp 36) rfl w.heap.size rfl (Hb g 14) (Hb g 0) rfl (GK g 14) (GK g 0) (UN g 14) _ M9 ?_;intro w5 hw5 Db))
    exact AS (nE rfl _ _ w.heap.size _ _ (GK g 14) rfl Db) rfl ⟨rfl,(hbr.trans (hw4.below Lo)).trans (hw5.below (At _))⟩
theorem Z3(W:R)(g j:Nat)(hj:j<14):(Instr.index 230 (BN (Hb g 14).toArray) (J Y (j:Int))).run U W=.ok (BN #[G (H ⟨g,j,Z⟩),J Y (w7 j:Int)]) W:=by
 have e:Hb g 14=[G (H ⟨g,0,Z⟩),J Y 1,G (H ⟨g,1,Z⟩),J Y 1,G (H ⟨g,2,Z⟩),J Y 4,G (H ⟨g,3,Z⟩),J Y 2,G (H ⟨g,4,Z⟩),J Y 2,G (H ⟨g,5,Z⟩),J Y 2,G (H ⟨g,6,Z⟩),J Y 2,G (H ⟨g,7,Z⟩),J Y 2,G (H ⟨g,8,Z⟩),J Y 2,G (H ⟨g,9,Z⟩),J Y 2,G (H ⟨g,10,Z⟩),J Y 2,G (H ⟨g,11,Z⟩),J Y 2,G (H ⟨g,12,Z⟩),J Y 2,G (H ⟨g,13,Z⟩),J Y 2]:=rfl;rw[e];have a1:=Tryz.isAgg229;have z1:=Tryz.sizeOf229;have:j=0\/j=1\/j=2\/j=3\/j=4\/j=5\/j=6\/j=7\/j=8\/j=9\/j=10\/j=11\/j=12\/j=13:=by omega
 rcases this with rfl|rfl|rfl|rfl|rfl|rfl|rfl|rfl|rfl|rfl|rfl|rfl|rfl|rfl <;> simp[Instr.index,B9 Tryz.underlying230,asIntOf,go_sem,a1,z1] <;> rfl
theorem LR{w w':R}{row:Option Nat}(h:w.grownBy w' row)(b o:Nat)(hb:b<w.heap.size)(hne:∀ k,row=H k->k≠b):w'.cell? ⟨b,o,Z⟩=w.cell? ⟨b,o,Z⟩:=by
 apply A5;exact h.block b hb (fun e=>hne b e.symm rfl)
theorem Mn{ops:Array BE}{o:BE}{a:Act}{w:R}{K:Act->R->Prop}{Q:Exit->Act->R->Prop}{E:Prop}(Du:o.guard=Z)(s x:Operand)
 (ho:o.op=.call { callee:=.builtin .append,args:=#[s,x],argTypes:=#[77,77] })
 (B:Nat) (v:z) (l:List Int) (hs:a.eval s=v) (hown:OB w B v l) (u:z) (m:List Int) (hx:a.eval x=u) (hr:BSl w u m) (hm:0<m.length)
 (hlen:l.length+m.length<=140737488355328) (hB:B<=w.heap.size)
 (h:∀ v' w',OB w' B v' (l ++ m)->I B w w'->w.grownBy w' v.ownBlock->K (a.put o.dst v') w'):
 if Region.wanted o (yielded ops a.tmps)=AE then BE.wp U o a w K Q else E:=by
 have hw:Region.wanted o (yielded ops a.tmps)=AE:=by simp[Region.wanted,Du]
 rw[Au hw];obtain⟨i,h2,h3,h4,h5⟩:=Bf IB;obtain⟨ao,cap,rfl,Cx⟩:=hr.shape;have hby:=DL hown.1 hr.1;have e1:(l ++ m).length=l.length+m.length:=AD;have e2:(l ++ m).map (J .u8)=l.map (J .u8) ++ m.map (J .u8):=Cp;cases ao with
 |none=>
  rcases hr.2 with⟨_,hl⟩| ⟨_,_,hv,_⟩
  . rw[hl] at hm;simp at hm
  . simp at hv
 |some ad=>
  have Dc:∀ j v,(m.map (J .u8))[j]? =H v->w.cell? (ad.add j)=H v:=by
   intro j v hj;have MV:j<m.length:=by simpa using (Bb.1 hj).1
   obtain⟨ad',he,hc⟩:=Fi hr (fun _ _=>rfl) m.length (by simp;omega);obtain rfl:ad=ad':=by simpa using he
   exact hc j v (by simpa using hj)
  refine wp_append_own w s x 77 ho B 5 i (J .u8 0) 1 1 Tryz.underlying77 h2 h3 h4 h5 rfl (by decide) v l.length _ hs hown.2 ad m.length cap _ hx (by simp) Dc (ints_oneCell _ _) (by simp only[maxLen];omega) (by omega) hB fun v' w' h6 h7 _=>?_
  exact h v' w' ⟨hby,by rw[e1,e2];exact h6⟩ ((AC _ _).grown h7 hB fun k hk=>(hown.2.lt k hk).1) h7
theorem oM{w:R}{B:Nat}{v:z}{l:List Int}(h:OB w B v l)(n:Nat)(hn:l.length=n)(h0:0<n):∃ g cap,v=Ak (H ⟨g,0,Z⟩) n cap:=by
 rcases h.2.2 with⟨_,h1⟩| ⟨g,cap,cur,hv,_⟩
 . omega
 . exact⟨g,cap,by rw[hv,hn]⟩
theorem b8(kd ln sz d0 d1 d2 d3 d4 d5 d6 d7 d8 d9 mp:Int)(L:List Int)(L2:L=[kd,ln,sz,d0,d1,d2,d3,d4,d5,d6,d7,d8,d9,mp])(hf:Ec L=AE)(w:R):Av U 92 #[BN #[J Y kd,J Y ln,J Y sz,J Y d0,J Y d1,J Y d2,J Y d3,J Y d4,J Y d5,J Y d6,J Y d7,J Y d8,J Y d9,J Y mp]] w (JQ w (Ml L)):=by
 have hL:L.length=14:=by rw[L2];rfl
 have hb1:=As w (iO L 44);have hr1:=Ar w (iO L 44);obtain⟨W1,hW1⟩:=nm (w.alloc (iO L 44));rw[<- hW1] at hb1 hr1;have Ed:w.heap.size<W1.heap.size:=by rw[hW1];simp
 have HZ1:Hid (W1.heap.size=w.heap.size+1):=wM (by rw[hW1];simp);have H2:Hid (w.alloc (A #[J Y kd,J Y ln,J Y sz,J Y d0,J Y d1,J Y d2,J Y d3,J Y d4,J Y d5,J Y d6,J Y d7,J Y d8,J Y d9,J Y mp] 44)=W1):=wM (by rw[hW1,L2];rfl);have HR1:=wM hr1;have HF:=wM (H6 hL hf);have HL:=wM hL;obtain⟨M,M7⟩:∃ M:Nat,M=32:=⟨_,rfl⟩;have HMI:Hid ((32:Int)=(M:Int)):=wM (by omega);have SJ:M<=1000:=by omega
 clear hW1 hr1 L2 hf hL M7;go_enter Tryz.func92,Tryz.ntmps92
 go_wp2_with (first
  |(at_make;refine Dx _ rfl _ _ rfl 0 32 0 M rfl rfl rfl HMI.out (AT _) (by omega) ?_)
  |(go_at_call 132
    rw[H2.out];have hob2:=TW W1 M SJ;have hb2:I W1.heap.size W1 (W1.alloc (A (AK M (J .u8 0)) 5)):=As _ _;generalize W1.alloc (A (AK M (J .u8 0)) 5)=w2 at hob2 hb2 |-
    refine(Pw _ _).mono ?_;rintro e w3 ⟨rfl,hb3⟩))
 rw[HZ1.out] at hob2;have hb23:I W1.heap.size W1 w3:=hb2.trans (hb3.mono hb2.size);have hb03:I w.heap.size w w3:=hb1.trans (hb23.mono (Ct Ed));have hr3:w3.heap[w.heap.size]? =H (iO L 44):=(hb23.block _ Ed).trans HR1.out;have I9:w.heap.size<w3.heap.size:=AA Ed hb23.size;obtain⟨g,hg⟩:=nm w.heap.size;rw[<- hg] at hr3 I9 |-
 have hc3:∀ j,j<14->w3.cell? ⟨g,j,Z⟩=H (J Y (L.getD j 0)):=fun j hj=>Gp hr3 j (by rw[HL.out];exact hj)
 have HIX:=wM (fun W j hj=>Z3 W g j hj);obtain⟨F,hF⟩:=nm ((Hb g 14).toArray);rw[<- hF] at HIX |-
 have HOB3:=wM ((hob2.below hb3).more (B':=g+1) (by have:=HZ1.out;omega));rw[<- hg] at HOB3;have HC:=wM hc3;have uN:I g w w3:=by rw[hg];exact hb03
 have HG:=wM hg;clear hb03 hg hr3 hc3 hF hb23 hb3 hb2 hob2 hb1 Ed;go_loopw [3,8] (fun u i wr=>∃ j:Nat,j<=14/\i=J Y j/\Hid (OB wr (g+1) u (Ge L j))/\Hid (I g w wr)/\w3.heap.size<=wr.heap.size/\Hid (∀ j,j<14->wr.cell? ⟨g,j,Z⟩=H (J Y (L.getD j 0)))) (fun _ i _=>14-(intOf i).toNat)
 case atStart=>exact⟨0,by omega,rfl,HOB3,uN,At _,HC⟩
 case round=>
  clear HOB3 uN HC;obtain⟨j,hj,rfl,HOB,HBR,Ed,HC⟩:=hrel;by_cases hlt:j<14
  . have Rr:=HIX.out wr j hlt
    have hx0:=HF.out j hlt;have MW:=HC.out j hlt;have Jr:Ge L (j+1)=Ge L j ++ BT (L.getD j 0) (w7 j):=rfl;have hwd:=jJ j;have hlen:=EF L j;have uO:=qb j hlt;have uD:=Hm hwd.2;have e4:(256:Int) ^ 4=4294967296:=rfl;obtain⟨x,hx⟩:=nm (L.getD j 0);obtain⟨k,hk⟩:=nm (w7 j);rw[<- hx] at hx0 MW Jr;rw[<- hk] at hwd Rr Jr hx0 uO uD;have hx1:x<4294967296:=(by omega);have Xb:=hx0.1;have HCS:=wM Jr;have HPU:=wM (fun W=>FK (Kt W) (by simp) x (k:Int) k (by omega) (by omega) rfl Xb (by omega));have HLE:Hid ((Ge L j).length+(BT x k).length<=140737488355328):=wM (by rw[hlen,Bc];omega);have HKL:Hid (0<(BT x k).length):=wM (by rw[Bc];omega);have ej:(j:Int)<14:=(by omega);have Uz:g<wr.heap.size:=AA I9 Ed;clear hx hk Jr hx0 hlen uO uD e4;go_wp2;have hbx:=As wr (A #[G (H ⟨g,j,Z⟩),J Y (k:Int)] 229);have Q5:=Ar wr (A #[G (H ⟨g,j,Z⟩),J Y (k:Int)] 229);generalize wr.alloc (A #[G (H ⟨g,j,Z⟩),J Y (k:Int)] 229)=W5 at hbx Q5 |-
    have c0:W5.cell? ⟨wr.heap.size,0,Z⟩=H (G (H ⟨g,j,Z⟩)):=(by rw[Aq _ _ _ _ _ _ Q5];rfl);have c1:W5.cell? ⟨wr.heap.size,1,Z⟩=H (J Y (k:Int)):=(by rw[Aq _ _ _ _ _ _ Q5];rfl);have c2:W5.cell? ⟨g,j,Z⟩=H (J Y x):=(by rw[hbx.cell Uz];exact MW);obtain⟨q,hq⟩:=nm wr.heap.size;have hq5:q<W5.heap.size:=(by rw[hq];exact(Ah.1 Q5).1);have SH:g<W5.heap.size:=(by omega);have hown:=HOB.out.2.lt;have HNE:=wM (fun k hk=>(show k≠q/\k≠g by have h1:=hown k hk;omega));have te:IntKind.u64.wrap x=x:=IntWalk.u64_in _ (by omega);have HBX:=wM (AM hbx 1);have HU:=wM (HOB.out.below HBX.out);rw[<- hq] at c0 c1 |-
    have d0:W5.drew.cell? ⟨q,0,Z⟩=H (G (H ⟨g,j,Z⟩)):=c0;have d1:W5.drew.cell? ⟨q,1,Z⟩=H (J Y (k:Int)):=c1;have d2:W5.drew.cell? ⟨g,j,Z⟩=H (J Y x):=c2;change Hid (OB W5.drew _ _ _) at HU;change Hid (I wr.heap.size wr W5.drew) at HBX;clear hbx Q5 MW Rr hq c0 c1 c2 hown
    go_region_held3 (fun W=>W.cell? ⟨q,0,Z⟩=H (G (H ⟨g,j,Z⟩))/\W.cell? ⟨q,1,Z⟩=H (J Y (k:Int))/\W.cell? ⟨g,j,Z⟩=H (J Y x)) (first|exact⟨f0,f1,f2⟩|exact⟨e0,e1,e2⟩|exact⟨d0,d1,d2⟩) (first
     |(go_at_call 133;(with_reducible refine(HPU.out _).mono ?_);rintro e w6 ⟨v6,rfl,hob6,hb6⟩
       have HB6:=wM (HBX.out.trans (hb6.mono HBX.out.size));have e0:=(hb6.cell (p:=⟨q,0,Z⟩) hq5).trans d0;have e1:=(hb6.cell (p:=⟨q,1,Z⟩) hq5).trans d1;have e2:=(hb6.cell (p:=⟨g,j,Z⟩) SH).trans d2;have qv:q<w6.heap.size:=AA hq5 hb6.size;have hg6:g<w6.heap.size:=AA SH hb6.size)
     |(refine Mn rfl (.tmp 11) (.tmp 19) rfl (g+1) _ (Ge L j) rfl (HU.out.below hb6) v6 (BT x k) rfl hob6.bsl HKL.out HLE.out hg6 ?_
       intro v7 w7 hob7 hb7 tu;have f0:=(LR tu q 0 qv (fun k hk=>(HNE.out k hk).1)).trans e0;have f1:=(LR tu q 1 qv (fun k hk=>(HNE.out k hk).1)).trans e1;have f2:=(LR tu g j hg6 (fun k hk=>(HNE.out k hk).2)).trans e2))
    go_wp2;go_roundw
    case rel=>
     have h67:I g wr w7:=(HB6.out.mono (Ct Uz)).trans (hb7.mono (Nat.le_succ g));refine⟨j+1,by omega,by go_num,?_,HBR.out.trans h67,AI Ed h67.size,fun i hi=>?_⟩
     . show OB _ _ _ (Ge L (j+1))
       rw[HCS.out];exact hob7
     . rw[hb7.cell (p:=⟨g,i,Z⟩) (Nat.lt_succ_self g),HB6.out.cell (p:=⟨g,i,Z⟩) Uz];exact HC.out i hi
    case measure=>simp[intOf];omega
  . obtain rfl:j=14:=by omega
    obtain⟨gq,cq,rfl⟩:=oM HOB.out 28 (EF L 14) (by decide);have Lo:g+1<=wr.heap.size:=(by omega);have uP:=EF L 14;rw[rc] at uP;have HL28:Hid ((Ge L 14).length+4<=140737488355328):=wM (by omega);clear uP;go_wp2_with (at_builtin;refine G4 wr rfl (.tmp 22) (.tmp 25) rfl (g+1) _ (Ge L 14) rfl HOB.out 4 4 rfl rfl HL28.out Lo ?_;intro v8 w8 hob8 hb8)
    go_ret;have hbf:=HBR.out.trans (hb8.mono (Nat.le_succ g));have eg:=HG.out;exact⟨_,rfl,hob8.more (by omega),by rw[<- eg];exact hbf⟩
theorem fE{L:List Int}(hL:L.length=14)(hf:Ec L=AE)(w:R):Av U 92 #[BN (iC L).toArray] w (JQ w (Ml L)):=by
 match L,hL with
 |[kd,ln,sz,d0,d1,d2,d3,d4,d5,d6,d7,d8,d9,mp],_=>exact b8 kd ln sz d0 d1 d2 d3 d4 d5 d6 d7 d8 d9 mp _ rfl hf w
theorem XK:(U.info? 44).map (·.size)=H 14:=by kernel_rfl
theorem D3{ops:Array BE}{rest:List BE}{o:BE}{a:Act}{w:R}{Q:Exit->Act->R->Prop}(Du:o.guard=Z)(T:Cg)(x y:Operand)(ho:o.op=.store T x y)
 (g:Nat) (hx:a.eval x=G (H ⟨g,0,Z⟩)) (L D:List Int) (hy:a.eval y=BN (iC L).toArray) (hLD:D.length=L.length) (hi:(U.info? T).map (·.size)=H L.length) (T':Cg) (hg:w.heap[g]? =H (iO D T'))
 (h:∀ w',Wrote w w' g->w'.heap[g]? =H (iO L T')->Cf U ops Q rest (a.put o.dst undef) w'):Cf U ops Q (o :: rest) a w:=
 C0 Du T x y ho g _ hx hy T' _ hg (by rw[hi];simp[iC]) (by simp[iC,hLD]) (Gt (Qy L)) (h _ (Wrote.setRow _ _ _) (CC _ _ _ _ _ _ hg))
def NSl(w:R)(v:z)(O:List (List Int)):Prop:=
 F4 O/\((v=Ak Z 0 0/\O=[])\/∃ a cap,v=Ak (H a) O.length cap/\∀ j,j<O.length->a.block<w.heap.size/\a.spot=Z/\w.rangeAt a.block (a.off+j*14) (iC (O.getD j [])))
theorem NSl.open'{w:R}{v:z}{O:List (List Int)}(h:NSl w v O):∃ ao cap,v=Ak ao O.length cap/\(0<O.length->∃ b off,ao=H ⟨b,off,Z⟩/\b<w.heap.size/\
 ∀ j,j<O.length->w.rangeAt b (off+j*14) (iC (O.getD j []))):=by
 rcases h.2 with⟨hv,hk⟩| ⟨⟨b,off,spot⟩,cap,hv,hc⟩
 . exact⟨Z,0,by rw[hv,hk];rfl,fun h=>by rw[hk] at h;simp at h⟩
 . refine⟨_,cap,hv,fun h0=>?_⟩
   obtain⟨h1,h2,_⟩:=hc 0 h0;obtain rfl:spot=Z:=h2;exact⟨b,off,rfl,h1,fun j hj=>(hc j hj).2.2⟩
theorem NSl.shape{w:R}{v:z}{O:List (List Int)}(h:NSl w v O):∃ ao cap,v=Ak ao O.length cap:=by
 obtain⟨ao,cap,hv,_⟩:=h.open';exact⟨ao,cap,hv⟩
theorem NSl.at{w:R}{v:z}{O:List (List Int)}(h:NSl w v O)(h0:0<O.length):∃ b off cap,v=Ak (H ⟨b,off,Z⟩) O.length cap/\b<w.heap.size/\∀ j,j<O.length->w.rangeAt b (off+j*14) (iC (O.getD j [])):=by
 obtain⟨ao,cap,hv,hc⟩:=h.open';obtain⟨b,off,rfl,h1,h2⟩:=hc h0;exact⟨b,off,cap,hv,h1,h2⟩
theorem ju{w:R}(ao:Option Addr)(len cap:Nat)(h:len≠8):Av U 48 #[Ak ao len cap] w fun e w'=>e=Aj (AH #[Ak Z 0 0,J Y 1])/\w=w':=by
 have hne:((len:Int) != 8)=AE:=by simp;omega
 go_enter Tryz.func48,Tryz.ntmps48;go_wp2;go_ret2;exact⟨rfl,rfl⟩
def ai(O:List (List Int))(w:R)(e:Ending)(w':R):Prop:=
 (G7 O=AE/\∃ u,e=Aj (AH #[u,J Y 0])/\OB w' w.heap.size u (Gw O)/\I w.heap.size w w')\/
 (G7 O=Ay/\e=Aj (AH #[Ak Z 0 0,J Y 1])/\I w.heap.size w w')
theorem qY{w:R}{v:z}{O:List (List Int)}(hs:NSl w v O)(h8:O.length=8):Av U 48 #[v] w (ai O w):=by
 obtain⟨b,off,cap,rfl,hb,hc⟩:=hs.at (by omega);have H14:=wM hs.1;have HYE:=wM (QT h8);have HNO:=wM (fun k hk h=>aV (k:=k) h8 hk h);have H8:=wM h8;obtain⟨M,M7⟩:∃ M:Nat,M=256:=⟨_,rfl⟩;have HMI:Hid ((256:Int)=(M:Int)):=wM (by omega);have SJ:M<=1000:=by omega
 rw[h8] at hc |-
 have HC:=wM hc;clear hs hc h8 M7;go_enter Tryz.func48,Tryz.ntmps48;go_wp2_with (at_make;refine Dx _ rfl _ _ rfl 0 256 0 M rfl rfl rfl HMI.out (AT _) (by omega) ?_)
 have HOB3:=wM (TW w M SJ);have NU:I w.heap.size w (w.alloc (A (AK M (J .u8 0)) 5)):=As _ _;generalize w.alloc (A (AK M (J .u8 0)) 5)=w3 at HOB3 NU |-
 go_loopw [4,13] (fun u i wr=>∃ k:Nat,k<=8/\i=J Y k/\Hid (OB wr w.heap.size u (EQ O k))/\Hid (∀ j,j<k->Ec (O.getD j [])=AE)/\I w.heap.size w wr) (fun _ i _=>8-(intOf i).toNat)
 case atStart=>exact⟨0,by omega,rfl,HOB3,fun j hj=>absurd hj (A9 _),NU⟩
 case round=>
  obtain⟨k,hk,rfl,HOB,HK,hbr⟩:=hrel;clear HOB3 NU;by_cases hlt:k<8
  . have NS:=NN (HC.out k hlt) hbr hb
    have CU:=HNO.out k hlt;have h14:=Hj H14.out k (by rw[H8.out];exact hlt);have lR:EQ O (k+1)=EQ O k ++ Ml (O.getD k []):=rfl;obtain⟨x,hx⟩:=nm (O.getD k []);rw[<- hx] at NS lR CU h14;have ek:(k:Int)<8:=(by omega);have HX:=wM hx;have HPK:=wM lR;have HL:=wM (Fp O k);have HN1:=wM CU;have HRG:=wM NS;have HX14:Hid (zeroI.length=x.length):=wM h14.symm;have HI14:Hid ((U.info? 44).map (·.size)=H x.length):=wM (by rw[XK,h14]);have hz:(wr.alloc (A #[J Y 0,J Y 0,J Y 0,J Y 0,J Y 0,J Y 0,J Y 0,J Y 0,J Y 0,J Y 0,J Y 0,J Y 0,J Y 0,J Y 0] 44)).heap[wr.heap.size]? =H (iO zeroI 44):=Ar wr _;have hbz:=As wr (A #[J Y 0,J Y 0,J Y 0,J Y 0,J Y 0,J Y 0,J Y 0,J Y 0,J Y 0,J Y 0,J Y 0,J Y 0,J Y 0,J Y 0] 44);have mr:wr.heap.size<(wr.alloc (A #[J Y 0,J Y 0,J Y 0,J Y 0,J Y 0,J Y 0,J Y 0,J Y 0,J Y 0,J Y 0,J Y 0,J Y 0,J Y 0,J Y 0] 44)).heap.size:=(by simp);have HZ:=wM hz;have HBZ:=wM hbz;have HQZ:=wM mr;have u1:=Tryz.underlying44;obtain⟨B,hf⟩:∃ B,Ec x=B:=⟨_,rfl⟩;have HF:=wM hf;have KF:=wM (UH h14 B hf);have KW:=wM (fun h=>fE h14 (hf.trans h));clear hx lR CU NS h14 hz hbz mr hf;cases B
    . go_wp2_with (first
       |(with_reducible refine Bw rfl 44 (.tmp 15) rfl b (off+k*14) rfl x _ HRG.out u1 rfl HI14.out ?_)
       |(with_reducible refine D3 rfl 44 (.tmp 6) (.tmp 16) rfl wr.heap.size rfl x zeroI rfl HX14.out HI14.out _ HZ.out ?_
         intro w4 hw4 hr4;have NW:=Gn hr4;have hb4:=HBZ.out.trans (hw4.below (At _)))
       |(with_reducible refine Bw rfl 44 (.tmp 6) rfl wr.heap.size 0 rfl x _ NW u1 rfl HI14.out ?_)
       |(go_at_call 47;refine(KF.out _).mono ?_;rintro e w5 ⟨rfl,hb5⟩))
      go_ret2;exact AW ⟨HN1.out HF.out,rfl,(hbr.trans (hb4.mono hbr.size)).trans (hb5.mono (AI hbr.size hb4.size))⟩
    . have KWT:=wM (KW.out rfl)
      clear KW
      go_wp2_with (first
       |(with_reducible refine Bw rfl 44 (.tmp 15) rfl b (off+k*14) rfl x _ HRG.out u1 rfl HI14.out ?_)
       |(with_reducible refine D3 rfl 44 (.tmp 6) (.tmp 16) rfl wr.heap.size rfl x zeroI rfl HX14.out HI14.out _ HZ.out ?_
         intro w4 hw4 hr4;have NW:=Gn hr4;have hb4:=HBZ.out.trans (hw4.below (At _)))
       |(with_reducible refine Bw rfl 44 (.tmp 6) rfl wr.heap.size 0 rfl x _ NW u1 rfl HI14.out ?_)
       |(go_at_call 47;refine(KF.out _).mono ?_;rintro e w5 ⟨rfl,hb5⟩
         have hrg5:=NN NW hb5 (Ah.1 hr4).1;have HB5:=wM (hb4.trans (hb5.mono hb4.size));clear NW hb4 hb5 hw4)
       |(with_reducible refine Bw rfl 44 (.tmp 6) rfl wr.heap.size 0 rfl x _ hrg5 u1 rfl HI14.out ?_)
       |(go_at_call 92;refine(KWT.out _).mono ?_;rintro e w6 ⟨v6,rfl,hob6,hb6⟩
         have HB6:=wM (HB5.out.trans (hb6.mono HB5.out.size));have HB06:=wM (hbr.trans (HB6.out.mono hbr.size)))
       |(at_builtin
         refine BQ w6 rfl _ _ rfl w.heap.size _ (EQ O k) rfl (HOB.out.below HB6.out) w6 v6 (Ml x) rfl hob6.bsl (fun _ _=>rfl) (by rw[HL.out,Kb];omega) HB06.out.size ?_;intro v7 w7 hob7 hb7 _))
      go_roundw
      case rel=>
       refine⟨k+1,by omega,by go_num,by show OB _ _ _ (EQ O (k+1));rw[HPK.out];exact hob7,fun j hj=>?_,HB06.out.trans hb7⟩;by_cases e:j=k
       . subst e;rw[<- HX.out];exact HF.out
       . exact HK.out j (by omega)
      case measure=>simp[intOf];omega
  . obtain rfl:k=8:=by omega
    go_wp2;go_ret2;exact AU ⟨HYE.out HK.out,_,rfl,HOB.out,hbr⟩
theorem WL{w:R}{v:z}{O:List (List Int)}(hs:NSl w v O):Av U 48 #[v] w (ai O w):=by
 by_cases h:O.length=8
 . exact qY hs h
 . obtain⟨ao,cap,rfl⟩:=hs.shape
   refine(ju ao _ cap h).mono fun e w' ⟨he,hw⟩=>AW ⟨?_,he,by rw[<- hw];exact AC _ _⟩
   unfold G7;rw[AB h];rfl
theorem jo{fn:Func}{p:Tmp}(T:Cg)(h:fn.results=#[.cell p T])(tmps:Array z)(w:R)(g:Nat)(T':Cg)(L:List Int)(d:TypeDesc)(hu:U.underlying T=H d)(hd:d.isRow=AE)(hi:(U.info? T).map (·.size)=H L.length)
 (hp:tmps.getD p undef=G (H ⟨g,0,Z⟩)) (hg:w.heap[g]? =H (iO L T')):(results fn tmps).run U w=.ok (BN (iC L).toArray) w:=
 results_cell_row h tmps w g T' _ (0,0) _ hp hg hu (by cases d <;> first|rfl|cases hd) (by rw[hi];simp[iC])
theorem lj{w:R}{v:z}{c:List Int}(hs:BSl w v c)(hc:c.length=32):Av U 153 #[v] w fun e w'=>e=Aj (BN (iC (je c)).toArray)/\I w.heap.size w w':=by
 have HS:=wM hs;have HCL:=wM hc;clear hs hc;obtain⟨w2,hw2⟩:=nm ((w.alloc (iO zeroI 44)).alloc (iO zeroI 44));have h2:(w.alloc (A #[J Y 0,J Y 0,J Y 0,J Y 0,J Y 0,J Y 0,J Y 0,J Y 0,J Y 0,J Y 0,J Y 0,J Y 0,J Y 0,J Y 0] 44)).alloc (A #[J Y 0,J Y 0,J Y 0,J Y 0,J Y 0,J Y 0,J Y 0,J Y 0,J Y 0,J Y 0,J Y 0,J Y 0,J Y 0,J Y 0] 44)=w2:=by rw[hw2];rfl
 have hb2:I w.heap.size w w2:=by rw[hw2];exact((AC _ _).alloc (At _) _).alloc (by simp) _
 have Il:w2.heap[w.heap.size]? =H (iO zeroI 44):=by rw[hw2,@heap_alloc_old _ _ _ (by simp)];exact Ar _ _
 have hr1:w2.heap[w.heap.size+1]? =H (iO zeroI 44):=by rw[hw2];exact heap_alloc2_new _ _ _
 have hz2:w2.heap.size=w.heap.size+2:=by rw[hw2];simp
 have H2:=wM h2;have HR0:=wM Il;have HR1:=wM hr1;clear h2 hw2 Il hr1;go_enter Tryz.func153,Tryz.ntmps153
 go_wp2_with (first
  |(go_at_call 132;rw[H2.out];refine(Pw _ _).mono ?_;rintro e w4 ⟨rfl,hb4⟩))
 obtain⟨gs,gF⟩:=nm (w.heap.size+1);have ZO:w4.heap[gs]? =H (iO (G0 c 0) 44):=by rw[gF,hb4.block _ (by omega),XF];exact HR1.out
 have lP:w4.heap[w.heap.size]? =H (iO zeroI 44):=by rw[hb4.block _ (by omega)];exact HR0.out
 have hb04:I w.heap.size w w4:=hb2.trans (hb4.mono (by omega));have sw:gs<w4.heap.size:=(Ah.1 ZO).1;have hwl:w.heap.size<w4.heap.size:=by omega
 rw[<- gF];have HIX:=wM (fun W j hj=>Z3 W gs j hj);obtain⟨F,hF⟩:=nm ((Hb gs 14).toArray);rw[<- hF] at HIX |-
 have HG:=wM gF;have HB04:=wM hb04;have HGR:=wM lP;clear gF hb04 lP hb4 hz2 hb2 hF;go_loopw [4,10] (fun at_ i wr=>∃ j:Nat,j<=14/\i=J Y j/\at_=J Y (p7 j:Int)/\Hid (wr.heap[gs]? =H (iO (G0 c j) 44))/\Hid (KeptG w4 wr gs)) (fun _ i _=>14-(intOf i).toNat)
 case atStart=>exact⟨0,by omega,rfl,rfl,ZO,KeptG.refl _ _⟩
 case round=>
  obtain⟨j,hj,rfl,rfl,HRW,HKP⟩:=hrel;clear ZO;by_cases hlt:j<14
  . have Rr:=HIX.out wr j hlt
    have qu:=ud HS.out.1 j;have hwd:=jJ j;have Kq:=qb j hlt;have hcl:=HCL.out;have WP:=fun W (h:BSl W v c)=>Qx h (by omega) (p7 j) (w7 j) (p7 j:Int) (w7 j:Int) rfl rfl (by omega) (by omega) (by omega) _ rfl
    have hset:=fG c j;obtain⟨y,hy⟩:=nm (Cl c (p7 j) (w7 j));rw[<- hy] at qu WP hset;have EN:p7 (j+1)=p7 j+w7 j:=rfl;obtain⟨P,hP⟩:=nm (p7 j);obtain⟨k,hk⟩:=nm (w7 j);rw[<- hP] at Kq WP EN |-
    rw[<- hk] at hwd Kq WP EN Rr;have HGET:=wM WP;have HSET:=wM hset;have ej:(j:Int)<14:=(by omega);have Uz:gs<wr.heap.size:=AA sw HKP.out.2.2.2.1;have HNX:=wM EN;have hbw:=HB04.out.trans (HKP.out.below (B:=w.heap.size) (by have:=HG.out;omega) (by omega));have HBW:=wM hbw;clear hy hP hk hset WP EN hbw hcl;have lQ:wr.heap.size≠gs:=by omega
    go_wp2_with (first
     |(go_at_call 183
       have hb5:=As wr (A #[G (H ⟨gs,j,Z⟩),J Y (k:Int)] 229);have pp:=Ar wr (A #[G (H ⟨gs,j,Z⟩),J Y (k:Int)] 229);generalize wr.alloc (A #[G (H ⟨gs,j,Z⟩),J Y (k:Int)] 229)=W5 at hb5 pp |-
       have Db:W5.heap[gs]? =H (iO (G0 c j) 44):=(hb5.block _ Uz).trans HRW.out;have c0:W5.cell? ⟨wr.heap.size,0,Z⟩=H (G (H ⟨gs,j,Z⟩)):=(by rw[Aq _ _ _ _ _ _ pp];rfl);have c1:W5.cell? ⟨wr.heap.size,1,Z⟩=H (J Y (k:Int)):=(by rw[Aq _ _ _ _ _ _ pp];rfl);have ck:=Gp Db j (by rw[G6];exact hlt);have fk:=OR Db j;have hw6:=Wrote.setCell W5 gs j (J Y y);have c6:(W5.setCell ⟨gs,j,Z⟩ (J Y y)).cell? ⟨wr.heap.size,1,Z⟩=H (J Y (k:Int)):=by
        simp only[R.cell?];rw[hw6.2.2.2.2 _ lQ];exact c1
       have hr6:=Tm Db j y;rw[HSET.out] at hr6;have HK6:=wM ((HKP.out.then hb5).wrote hw6);have HR6:=wM hr6;have HB5:=wM (HBW.out.trans (hb5.mono HBW.out.size));clear hb5 pp Db hr6 hw6 lQ;refine(HGET.out _ (HS.out.below HB5.out)).mono ?_;rintro e w' ⟨rfl,rfl⟩))
    go_roundw
    case rel=>exact⟨j+1,by omega,by go_num,by rw[HNX.out];go_num,HR6.out,HK6.out⟩
    case measure=>simp[intOf];omega
  . obtain rfl:j=14:=by omega
    have sx:wr.heap[w.heap.size]? =H (iO zeroI 44):=(by rw[HKP.out.2.2.2.2 _ hwl (by have:=HG.out;omega)];exact HGR.out);have hlen:=G6 c 14;have HRG:=wM (Gn HRW.out);have HI:Hid ((U.info? 44).map (·.size)=H (G0 c 14).length):=wM (by rw[XK,hlen]);have HZL:Hid (zeroI.length=(G0 c 14).length):=wM (by rw[hlen];rfl);have HBW:=wM (HB04.out.trans (HKP.out.below (B:=w.heap.size) (by have:=HG.out;omega) (by omega)));have u1:=Tryz.underlying44
    go_wp2_with (first
     |(with_reducible refine Bw rfl 44 (.tmp 3) rfl gs 0 rfl (G0 c 14) _ HRG.out u1 rfl HI.out ?_)
     |(with_reducible refine D3 rfl 44 (.tmp 2) (.tmp 31) rfl w.heap.size rfl (G0 c 14) zeroI rfl HZL.out HI.out _ sx ?_;intro w7 hw7 NT))
    refine AS (jo 44 rfl _ _ w.heap.size _ _ _ u1 rfl HI.out rfl NT) rfl ⟨by rw[ZG],HBW.out.trans (hw7.below (At _))⟩
theorem XC{O:List (List Int)}(h:F4 O):∀ x∈O,(iC x).length=14:=fun x hx=>by rw[Cz];exact h x hx
def nC(O:List (List Int)):List z:=O.flatMap iC
theorem K5{O:List (List Int)}(h:F4 O):(nC O).length=O.length*14:=CM (XC h)
def NR(w:R)(B:Nat)(T:Cg)(v:z)(O:List (List Int)):Prop:=F4 O/\w.ownsRow B T 14 v O.length (nC O)
theorem NR.sl{w:R}{B:Nat}{T:Cg}{v:z}{O:List (List Int)}(h:NR w B T v O):NSl w v O:=by
 refine⟨h.1,?_⟩;rcases h.2.2 with⟨hv,hl⟩| ⟨g,cap,cur,hv,hg,hh,Ii,Jq,Jr,ht⟩
 . exact AU ⟨hv,AO hl⟩
 . refine AW ⟨_,cap,hv,fun j hj=>⟨(Ah.1 hh).1,rfl,fun i u hu=>?_⟩⟩
   have hlen:(O.getD j []).length=14:=Hj h.1 j hj;have hi:i<14:=(by have:=(Bb.1 hu).1;rw[Cz,hlen] at this;exact this);have Lo:j*14+14<=O.length*14:=(by omega);show w.cell? ⟨g,0+j*14+i,Z⟩=_
   rw[Br,Aq _ _ _ _ _ _ hh];have hf:=Gb (f:=iC) (s:=14) (L:=O) (XC h.1) j hj;have e:O.getD j []=O[j]:=(by simp[hj]);rw[e,<- hf,AZ,Au hi,Bk] at hu;have ht':(cur.toList.take (O.length*14))[j*14+i]? =(nC O)[j*14+i]? :=(by rw[ht]);rw[AZ,Au (by omega)] at ht';rw[nC,hu] at ht'
   simpa using ht'
theorem NR.of_row{w:R}{B g:Nat}{T:Cg}{O:List (List Int)}(h:F4 O)(hB:B<=g)(hg:w.heap[g]? =H (A (nC O).toArray T (0,0)))(hm:O.length<=maxLen):NR w B T (Ak (H ⟨g,0,Z⟩) O.length O.length) O:=by
 refine⟨h,K5 h,AW ⟨g,O.length,_,rfl,hB,hg,At _,hm,by simp[K5 h],?_⟩⟩;rw[AR (by simp[K5 h])]
theorem qQ:(U.info? 44).map (fun i=>(i.zero,i.size,i.bytes))=H (H (BN #[J Y 0,J Y 0,J Y 0,J Y 0,J Y 0,J Y 0,J Y 0,J Y 0,J Y 0,J Y 0,J Y 0,J Y 0,J Y 0,J Y 0]),14,112):=by kernel_rfl
theorem VT{α:Type}(f:α->List z)(x:α)(s:Nat)(hs:(f x).length=s):∀ (n i:Nat),i<n*s->((Aw n x).flatMap f)[i]? =(f x)[i%s]?
 |0,i,h=>by omega
 |n+1,i,h=>by
  rw[List.replicate_succ,CD];by_cases hi:i<s
  . rw[BH (by omega),Gy hi]
  . rw[BR (by omega),hs,VT f x s hs n (i-s) (by rw[Nat.succ_mul] at h;omega),show i%s=(i-s)%s from Nat.mod_eq_sub_mod (by omega)]
theorem V7(n:Nat):madeCells (z.agg #[J Y 0,J Y 0,J Y 0,J Y 0,J Y 0,J Y 0,J Y 0,J Y 0,J Y 0,J Y 0,J Y 0,J Y 0,J Y 0,J Y 0]).cells (n*14)=(nC (Aw n zeroI)).toArray:=by
 have hl:(nC (Aw n zeroI)).length=n*14:=by
  rw[K5 (fun x hx=>by rw[BS hx];rfl),A3]
 apply Array.ext
 . simp[size_madeCells,hl]
 . intro i h1 h2
   have hi:i<n*14:=by simpa [size_madeCells] using h1
   have hz:=VT iC zeroI 14 rfl n i hi;have h3:(nC (Aw n zeroI))[i]? =H (J Y 0):=by
    rw[nC,hz];have:i%14<14:=Nat.mod_lt _ (by decide);have:i%14=0\/i%14=1\/i%14=2\/i%14=3\/i%14=4\/i%14=5\/i%14=6\/i%14=7\/i%14=8\/i%14=9\/i%14=10\/i%14=11\/i%14=12\/i%14=13:=(by omega);rcases this with e|e|e|e|e|e|e|e|e|e|e|e|e|e <;> rw[e] <;> rfl
   have h4:(nC (Aw n zeroI)).toArray[i]=J Y 0:=by
    have:=(Bb.1 h3).2
    simpa using this
   rw[h4];simp only[madeCells,z.cells,Array.getElem_map,Array.getElem_range];have:i%14<14:=Nat.mod_lt _ (by decide);have:i%14=0\/i%14=1\/i%14=2\/i%14=3\/i%14=4\/i%14=5\/i%14=6\/i%14=7\/i%14=8\/i%14=9\/i%14=10\/i%14=11\/i%14=12\/i%14=13:=(by omega);rcases this with e|e|e|e|e|e|e|e|e|e|e|e|e|e <;> simp[e]
theorem OH(w:R){ops:Array BE}{rest:List BE}{o:BE}{a:Act}{Q:Exit->Act->R->Prop}
 (hg:o.guard=Z) (l c:Operand) (JF:o.op=Op.makeSlice 88 l c) (C:Int) (n:Nat) (hl:a.eval l=J Y C) (hc:a.eval c=J Y C) (hC:C=n) (hn:n<=1000000)
 (hK:Cf U ops Q rest (a.put o.dst (Ak (H ⟨w.heap.size,0,Z⟩) n n)) (w.alloc (A (nC (Aw n zeroI)).toArray 44))):
 Cf U ops Q (o :: rest) a w:=by
 refine CA hg fun K hK'=>?_
 obtain⟨i,h2,h3,h4,h5⟩:=Bf qQ;subst hC;have CX:=run_make (P:=U) w 88 44 i (BN #[J Y 0,J Y 0,J Y 0,J Y 0,J Y 0,J Y 0,J Y 0,J Y 0,J Y 0,J Y 0,J Y 0,J Y 0,J Y 0,J Y 0]) Tryz.underlying88 h2 h3 Y Y n n (by omega) (by omega) (by rw[h5];omega) (by omega);unfold BE.wp;simp only[Cd,h4,V7] at CX;simp[execOp,JF,hl,hc,CX,Result.andThen];exact hK' _ _ hK
def t8(l:List Int)(w:R)(e:Ending)(w':R):Prop:=
 (qX l/\∃ g,e=Aj (AH #[Ak (H ⟨g,0,Z⟩) 8 8,J Y 0])/\w.heap.size<=g/\w'.heap[g]? =H (A (nC (Uh l 8)).toArray 44 (0,0))/\I w.heap.size w w')\/
 (¬ qX l/\e=Aj (AH #[Ak Z 0 0,J Y 18])/\I w.heap.size w w')
theorem UP{w:R}{v:z}{O:List (List Int)}(hs:NSl w v O)(h:G7 O=AE):Av U 48 #[v] w fun e w'=>∃ u,e=Aj (AH #[u,J Y 0])/\OB w' w.heap.size u (Gw O)/\I w.heap.size w w':=
 (WL hs).mono fun e w' ho=>ho.elim (fun h1=>h1.2) fun h1=>by rw[h] at h1;cases h1.1
theorem nV{w:R}{v:z}{O:List (List Int)}(hs:NSl w v O)(h:G7 O=Ay):Av U 48 #[v] w fun e w'=>e=Aj (AH #[Ak Z 0 0,J Y 1])/\I w.heap.size w w':=
 (WL hs).mono fun e w' ho=>ho.elim (fun h1=>by rw[h] at h1;cases h1.1) fun h1=>h1.2
theorem li{w:R}{v:z}{l:List Int}(hs:BSl w v l)(hl:l.length=256):Av U 108 #[v] w (t8 l w):=by
 obtain⟨b,off,cap,rfl,Cx,hb⟩:=hs.open' (by omega);obtain⟨M,M7⟩:∃ M:Nat,M=8:=⟨_,rfl⟩;have HMI:Hid ((8:Int)=(M:Int)):=wM (by omega);have SJ:M<=1000:=by omega
 have HM:=wM M7;have HS:=wM hs;have HL:=wM hl;have HMID:=wM (fun W (h:BSl W (Ak (H ⟨b,off,Z⟩) l.length cap) l) lo (hm:lo+32<=l.length)=>h.mid lo 32 hm);rw[hl] at HS HMID Cx |-
 clear M7 hs hl;go_enter Tryz.func108,Tryz.ntmps108;go_wp2_with (at_make;refine OH _ rfl _ _ rfl _ M rfl rfl HMI.out (by omega) ?_)
 have hz:(w.alloc (A (nC (Aw M zeroI)).toArray 44)).heap[w.heap.size]? =H (A (nC (EW l M 0)).toArray 44 (0,0)):=by
  rw[SW];exact Ar w _
 have hb2:I w.heap.size w (w.alloc (A (nC (Aw M zeroI)).toArray 44)):=As _ _;generalize w.alloc (A (nC (Aw M zeroI)).toArray 44)=w2 at hz hb2 |-
 have HZ:=wM hz;clear hz;go_loopw [14] (fun i wr=>∃ k:Nat,k<=M/\i=J Y k/\Hid (wr.heap[w.heap.size]? =H (A (nC (EW l M k)).toArray 44 (0,0)))/\I w.heap.size w wr) (fun i _=>M-(intOf i).toNat)
 case atStart=>exact⟨0,by omega,rfl,HZ,hb2⟩
 case round=>
  obtain⟨k,hk,rfl,HR,hbr⟩:=hrel;clear HZ hb2;by_cases hlt:k<M
  . have ekM:(k:Int)<(M:Int):=by omega
    have rW:k<8:=(by have:=HM.out;omega);have hsr:=HMID.out _ (HS.out.below hbr) (32*k) (by omega);have Xd:(l.drop (32*k)).take 32=Md l k:=rfl;rw[Xd] at hsr;have KR:=wM (lj hsr (TA HL.out k rW));have Kq:=U5 l M k;have hj:tR l k=je (Md l k):=rfl;rw[hj] at Kq;have M0:=Jp (Md l k);obtain⟨x,hx⟩:=nm (je (Md l k));rw[<- hx] at KR Kq M0;have HPS:=wM Kq;have HX14:=wM M0;have H14:=wM (XC (XP l M k));have HLK:Hid (k<(EW l M k).length):=wM (by rw[F9];exact hlt);have e32:32*k+32-32*k=32:=(by omega);have ee1:(k:Int)*32=((32*k:Nat):Int):=(by push_cast;omega);have ee2:((k:Int)+1)*32=((32*k+32:Nat):Int):=(by push_cast;omega);have HE32:=wM e32;have HE1:=wM ee1;have HE2:=wM ee2;have hc1:32*k+32<=cap:=(by omega);have MX:w.heap.size<wr.heap.size:=(Ah.1 HR.out).1;clear hx Kq hj M0 hsr Xd e32 ee1 ee2
    go_wp2_with (first
     |(with_reducible refine DY rfl (.tmp 19) (.tmp 21) (.tmp 24) rfl b off 256 cap rfl ((k:Int)*32) (((k:Int)+1)*32) rfl rfl (32*k) (32*k+32) 32 HE32.out HE1.out HE2.out (by omega) hc1 (by omega) ?_)
     |(go_at_call 153;refine KR.out.mono ?_;rintro e w3 ⟨rfl,hb3⟩
       have hr3:w3.heap[w.heap.size]? =H (A ((EW l M k).flatMap iC).toArray 44 (0,0)):=(hb3.block _ MX).trans HR.out)
     |(with_reducible refine EX (f:=iC) (s:=14) rfl 44 (.tmp 27) (.tmp 26) rfl XK w.heap.size k (EW l M k) x 44 rfl rfl hr3 HLK.out H14.out (by rw[Cz];exact HX14.out) (Qy x) ?_
       intro w4 hw4 hr4;rw[HPS.out] at hr4))
    go_roundw
    case rel=>exact⟨k+1,by omega,by go_num,hr4,(hbr.trans (hb3.mono hbr.size)).trans (hw4.below (At _))⟩
    case measure=>simp[intOf];omega
  . have hr:=HR.out
    have hkM:k=M:=(by omega);rw[hkM,T4] at hr;have hob:=NR.of_row (B:=w.heap.size) (rS l M) (At _) hr (by rw[LD];simp only[maxLen];omega);rw[LD] at hob;have hob2:NSl wr (Ak (H ⟨w.heap.size,0,Z⟩) M M) (Uh l 8):=by
     have:=hob.sl;rw[show Uh l 8=Uh l M by rw[HM.out]];exact this
    have HOB:Hid (wr.heap[w.heap.size]? =H (A (nC (Uh l 8)).toArray 44 (0,0))):=wM (by rw[show Uh l 8=Uh l M by rw[HM.out]];exact hr);have HBR:=wM hbr;clear hr hob;cases hf:G7 (Uh l 8)
    . have HF:=wM hf
      have KE:=wM (nV hob2 hf);clear hf hob2;go_wp2_with (go_at_call 48;refine KE.out.mono ?_;rintro e w3 ⟨rfl,hb3⟩)
      go_ret2;exact AW ⟨(fun h=>by have h2:=h.2.1;rw[HF.out] at h2;cases h2),rfl,hbr.trans (hb3.mono hbr.size)⟩
    . have HF:=wM hf
      have KE:=wM (UP hob2 hf);obtain⟨B,hB⟩:∃ B,decide (Gw (Uh l 8)=l)=B:=⟨_,rfl⟩;have HB:=wM hB;have KQ:=wM (fun W u (h1:BSl W u (Gw (Uh l 8))) (h2:BSl W (Ak (H ⟨b,off,Z⟩) 256 cap) l)=>Ek h1 h2);rw[hB] at KQ;clear hf hob2 hB;cases B
      . go_wp2_with (first
         |(go_at_call 48;refine KE.out.mono ?_;rintro e w3 ⟨u3,rfl,hob3,hb3⟩
           have hb03:=hbr.trans (hb3.mono hbr.size))
         |(go_at_call 152;refine(KQ.out _ _ hob3.bsl (HS.out.below hb03)).mono ?_;rintro e w4 ⟨rfl,rfl⟩))
        go_ret2;exact AW ⟨(fun h=>BB HB.out h.2.2),rfl,hb03⟩
      . go_wp2_with (first
         |(go_at_call 48;refine KE.out.mono ?_;rintro e w3 ⟨u3,rfl,hob3,hb3⟩
           have hb03:=hbr.trans (hb3.mono hbr.size))
         |(go_at_call 152;refine(KQ.out _ _ hob3.bsl (HS.out.below hb03)).mono ?_;rintro e w4 ⟨rfl,rfl⟩))
        go_ret2;exact AU ⟨⟨HL.out,HF.out,AX HB.out⟩,_,(by rw[HM.out];rfl),At _,(hb3.block _ (Ah.1 HOB.out).1).trans HOB.out,hb03⟩
end
section
open Go.RowKit BM
def FsAt(w:R)(bf:Nat)(p:z):Prop:=w.heap[bf]? =H (A #[p] 66 (0,0))
theorem FsAt.low{w w':R}{bf:Nat}{p:z}(h:FsAt w bf p)(hb:I w.heap.size w w'):FsAt w' bf p:=Bs h hb
theorem FsAt.cell{w:R}{bf:Nat}{p:z}(h:FsAt w bf p):w.cell? ⟨bf,0,Z⟩=H p:=by rw[Aq _ _ _ _ _ _ h];rfl
theorem SInv.xok{w:R}{P:Nat->Prop}{d p:z}{X:XSt}(h:SInv w P d p X):XOk X:=by
 obtain⟨_,_,_,_,_,_,_,_,_,_,_,_,_,hpl,_⟩:=h;exact hpl.ok
theorem Iq{w:R}{bf:Nat}{p:z}(h:FsAt w bf p):Av U 49 #[G (H ⟨bf,0,Z⟩)] w fun e w'=>e=Aj p/\w=w':=by
 have hc:=h.cell;clear h;go_enter Tryz.func49,Tryz.ntmps49;go_wp2;go_ret;exact⟨rfl,rfl⟩
theorem QC{w:R}{P:Nat->Prop}{d p:z}{X:XSt}{E:List Int}{n:Nat}(h:SInv w P d p X)(hn:n<X.cur.length)(ho:D6 n)(hE:X.cur.getD n []=E){W:R}(hb:I w.heap.size w W):
 Av U 104 #[p,J Y (n:Nat)] W fun e w'=>∃ v,e=Aj (AH #[v,J Y 0])/\BSl w' v E/\I W.heap.size W w':=
 (Mg (h.low hb) (n:=n) (by rw[<- h.xok.curLen];exact hn)).mono fun e w' ⟨v,l,a,b,c,f⟩=>⟨v,a,by rw[<- hE];exact(c ho) ▸ b,f⟩
theorem dl{w:R}{v:z}{L:List Int}(hs:BSl w v (Gj L))(hL:L.length=12)(hf:DP L=AE):Av U 107 #[v] w fun e w'=>e=Aj (AH #[F8 L,J Y 0])/\I w.heap.size w w':=by
 obtain⟨h1,h2⟩:=ox hL hf;refine(oF hs).mono fun e w' ⟨hb,ho⟩=>⟨?_,hb⟩
 rcases ho with⟨_,he⟩| ⟨hn,_⟩
 . rw[he,h2]
 . exact absurd h1 hn
theorem iQ{w:R}{v:z}{O:List (List Int)}(hs:BSl w v (Gw O))(hO:F4 O)(hf:G7 O=AE):Av U 108 #[v] w fun e w'=>∃ g,e=Aj (AH #[Ak (H ⟨g,0,Z⟩) 8 8,J Y 0])/\w.heap.size<=g/\w'.heap[g]? =H (A (nC O).toArray 44 (0,0))/\I w.heap.size w w':=by
 refine(li hs (Qj O)).mono fun e w' ho=>?_
 rcases ho with⟨_,g,he,hg,hr,hb⟩| ⟨hn,_⟩
 . rw[Z1 hO hf] at hr
   exact⟨g,he,hg,hr,hb⟩
 . exact absurd (ko hO hf) hn
section
variable {w:R}{P:Nat->Prop}{d p:z}{X:XSt}{S:List Int}{N:List (List Int)}{bf:Nat}
theorem LN(h:SInv w P d p X)(hf:FsAt w bf p)(hT:Tab X.cur S N){W:R}(hb:I w.heap.size w W):
 Av U 64 #[G (H ⟨bf,0,Z⟩)] W fun e w'=>e=Aj (AH #[F8 S,J Y 0])/\I W.heap.size W w':=by
 have hin:=E9 hT.sf (t:=0) (by decide);have Lo:=hT.le;have hb1:=As W (Ca C8 135);have hr1:=Ar W (Ca C8 135);obtain⟨w1,hw1⟩:=nm (W.alloc (Ca C8 135));rw[<- hw1] at hb1 hr1;have h1:W.alloc (A #[J Y 0,J Y 0,J Y 0,J Y 0,J Y 0,J Y 0,J Y 0,J Y 0,J Y 0,J Y 0,J Y 0,J Y 0] 135)=w1:=by rw[hw1];rfl
 have Kr:=hb.trans (hb1.mono hb.size);have H1:=wM h1;have KB:=wM (Iq (hf.low Kr));have KG:=wM (QC (n:=0) h (by omega) (AU (by decide)) hT.g0 Kr);have KD:=wM (fun(W:R) (v:z) (hs:BSl W v (Gj S))=>dl hs hT.s12 hT.sf);have h12:=hT.s12;have HR1:Hid (∀ V,I w1.heap.size w1 V->V.heap[W.heap.size]? =H (Ca C8 135)):=wM fun V hv=>Bs hr1 hv
 clear hf hT hin Lo h hb Kr h1 hw1 hr1;go_enter Tryz.func64,Tryz.ntmps64
 go_wp2_with (first
  |(go_at_call 49;rw[H1.out];refine KB.out.mono ?_;rintro e w' ⟨rfl,rfl⟩)
  |(go_at_call 104;refine KG.out.mono ?_;rintro e w2 ⟨v,rfl,hv,hb2⟩)
  |(go_at_call 107;refine(KD.out _ _ hv).mono ?_;rintro e w3 ⟨rfl,hb3⟩)
  |(with_reducible refine CO rfl (.tmp 6) (.tmp 20) rfl w3.heap.size rfl S C8 rfl h12 rfl _ (Ar w3 _) ?_
    intro w5 hw5 Db;have hb5:I w3.heap.size w3 w5:=(As w3 _).trans (hw5.below (At _));have hb15:=(hb2.trans (hb3.mono hb2.size)).trans (hb5.mono (AI hb2.size hb3.size));have hr6:=HR1.out _ hb15)
  |(with_reducible refine Ft rfl (.tmp 6) rfl w3.heap.size rfl S h12 _ Db ?_)
  |(with_reducible refine CO rfl (.tmp 2) (.tmp 25) rfl W.heap.size rfl S C8 rfl h12 rfl _ hr6 ?_;intro w7 hw7 NT))
 exact AS (JV rfl _ _ W.heap.size _ _ _ h12 rfl NT rfl) rfl ⟨rfl,(hb1.trans (hb15.mono hb1.size)).trans (hw7.below (At _))⟩
theorem Oj(h:SInv w P d p X)(hf:FsAt w bf p)(hT:Tab X.cur S N){t:Nat}(ht:t<6){W:R}(hb:I w.heap.size w W):
 Av U 65 #[G (H ⟨bf,0,Z⟩),J Y (CW S t:Nat)] W fun e w'=>∃ g,e=Aj (AH #[Ak (H ⟨g,0,Z⟩) 8 8,J Y 0])/\W.heap.size<=g/\w'.heap[g]? =H (A (nC (Jy N t)).toArray 44 (0,0))/\I W.heap.size W w':=by
 have hin:=E9 hT.sf ht;have Lo:=hT.le;obtain⟨h14,lN⟩:=hT.n.all ht;obtain⟨T,ZQ⟩:=nm (Jy N t);obtain⟨k,hk⟩:=nm (CW S t);have hg:=hT.tb t ht;rw[<- ZQ] at h14 lN hg |-
 rw[<- hk] at hin hg |-
 have KB:=wM (Iq (hf.low hb));have KG:=wM (QC (n:=k) h (by omega) hin.2.2.2.2.1 hg hb);have KD:=wM (fun(W:R) (v:z) (hs:BSl W v (Gw T))=>iQ hs h14 lN);clear hf hT hin Lo h hb hg ZQ h14 lN hk;go_enter Tryz.func65,Tryz.ntmps65
 go_wp2_with (first
  |(go_at_call 49;refine KB.out.mono ?_;rintro e w' ⟨rfl,rfl⟩)
  |(go_at_call 104;refine KG.out.mono ?_;rintro e w1 ⟨v,rfl,hv,hb1⟩)
  |(go_at_call 108;refine(KD.out _ _ hv).mono ?_;rintro e w2 ⟨g,rfl,hg1,hr,hb2⟩))
 go_ret2;exact⟨g,rfl,AI hb1.size hg1,hr,hb1.trans (hb2.mono hb1.size)⟩
end
end
end Go.Proofs.YtfpdajplfmakhaaGreatDoor
