/- What the law rests on. -/
import Derived.Test.YtdefiimcmecnnaaGreatQC6
open Go.Value renaming int->J,slice->Ak,pointer->G,tuple->AO,bool->A1,agg->BD
open Go.IntKind renaming i64->Y
open Go.Proofs.Tryz renaming prog->Ae
open Option renaming none->Z,some->H
open Go.Ending renaming returned->Ag
open Go renaming World->I,Value->Aq,Calls->AA,Oper->BS,wpList->Cn
open Go.Obj renaming cells->Ar
open Go.RowKit renaming Below->At
open List renaming replicate->AD,range->Co
open Bool renaming false->AI,true->AL
open Or renaming inl->AN,inr->Ba
open Array renaming replicate->A3
open Int renaming toNat_natCast->B5
namespace Go.Proofs.YtdefiimcmecnnaaGreat
set_option maxHeartbeats 12000000
set_option linter.unusedVariables false
set_option maxRecDepth 100000
section
open Go.RowKit
theorem RB{L:List Int}(hL:L.length=12)(hT:TD L)(B:Bool)(h:D7 L=B)(w:I):
 AA Ae 195 #[Gy L] w fun e w'=>e=Ag (A1 B)/\At w.heap.size w w':=by rw[<- h];exact Zk hL hT w
theorem iD(b st tg cu io ba t0 t1 t2 t3 t4 t5:Int)(L:List Int)(M5:L=[b,st,tg,cu,io,ba,t0,t1,t2,t3,t4,t5])(hT:TD L)(hb1:b<=768)(w:I)
 (hF:∀ w,AA Ae 92 #[J Y b] w fun e w'=>e=Ag (A1 AL)/\w=w')
 (hS:∀ w,AA Ae 143 #[BD #[J Y b,J Y st,J Y tg,J Y cu,J Y io,J Y ba,J Y t0,J Y t1,J Y t2,J Y t3,J Y t4,J Y t5]] w fun e w'=>e=Ag (A1 AL)/\At w.heap.size w w'):
 AA Ae 98 #[BD #[J Y b,J Y st,J Y tg,J Y cu,J Y io,J Y ba,J Y t0,J Y t1,J Y t2,J Y t3,J Y t4,J Y t5]] w fun e w'=>e=Ag (A1 (GT L))/\At w.heap.size w w':=by
 have hob:=Ay w (Cd L 118);have hh:=Aw w (Cd L 118);obtain⟨W1,hW1⟩:=nm (w.alloc (Cd L 118));rw[<- hW1] at hob hh;have M6:w.alloc (Ar #[J Y b,J Y st,J Y tg,J Y cu,J Y io,J Y ba,J Y t0,J Y t1,J Y t2,J Y t3,J Y t4,J Y t5] 118)=W1:=by rw[hW1,M5];rfl
 have eb:num L 0=b:=by rw[M5];rfl
 have hlen:L.length=12:=by rw[M5];rfl
 have H2:=vJ M6;have HH:=vJ hh;have HL:=vJ M5;have HLE:=vJ hlen;have HTO:=vJ hT;have K0:=vJ hF;have K1:=vJ hS;clear hF hS hh hW1 M6 hT M5 hlen;go_enter Tryz.func98,Tryz.ntmps98
 go_wp2_with (first
  |(go_at_call 92;with_reducible refine(K0.out _).mono ?_;rintro e w' ⟨rfl,rfl⟩)
  |(go_at_call 143;rw[H2.out];refine(K1.out _).mono ?_;rintro e w2 ⟨rfl,hb2⟩))
 have hbe:At w.heap.size w w2:=hob.trans (hb2.mono hob.size);have hh2:w2.heap[w.heap.size]? =H (Cd L 118):=(hb2.block _ (Al.1 HH.out).1).trans HH.out;have ax:=fun k hk=>Ih hh2 k hk
 rw[HLE.out] at ax;have HC:=vJ ax;clear ax hh2 hb2;go_loopw [14] (fun i wr=>∃ j:Nat,j<=6/\i=J Y j/\Hid (Mn L j=AL)/\At w.heap.size w wr/\Hid (∀ k,k<12->wr.cell? ⟨w.heap.size,k,Z⟩=H (J Y (num L k)))) (fun i _=>6-(intOf i).toNat)
 case atStart=>exact⟨0,by omega,rfl,rfl,hbe,HC⟩
 case round=>
  clear HC hbe;obtain⟨j,hj,rfl,HF,hbe,HC⟩:=hrel;by_cases hlt:j<6
  . have Oc:=HC.out (6+j) (by omega)
    have rD:=HTO.out (6+j);have cA:=HC.out 0 (by omega);rw[eb] at cA;obtain⟨x,hx⟩:=nm (num L (6+j));rw[<- hx] at Oc rD;have HX:=vJ hx;clear hx;have C6:¬ Yh L j->GT L=AI:=fun h=>by
     cases hf:GT L
     . rfl
     . exact absurd (LU hf j hlt) h
    have HNO:=vJ C6;clear C6;have ej:(j:Int)<6:=(by omega);rcases h1:decide (x<0) with _|_
    . have HH1:=vJ (BL h1)
      rcases h2:decide (b<=x) with _|_
      . have HH2:=vJ (BL h2)
        rcases h3:CJ x with _|_
        . have K2:=vJ (LK x rD AI h3)
          have HH3:=vJ h3;clear h3;go_wp2;go_quiet ((go_at_call 140;exact Ce (K2.out _)))
          go_wp2;clear h1 h2 cA;go_loopw [39] (fun i wr=>∃ k:Nat,k<=j/\i=J Y k/\Hid (∀ m,m<k->num L (6+m)≠num L (6+j))/\At w.heap.size w wr/\Hid (∀ k,k<12->wr.cell? ⟨w.heap.size,k,Z⟩=H (J Y (num L k)))) (fun i _=>j-(intOf i).toNat)
          case atStart=>exact⟨0,by omega,rfl,fun m hm=>absurd hm (A8 _),A2 hbe _,fun k hk=>HC.out k hk⟩
          case round=>
           clear HC hbe Oc;obtain⟨k,hk,rfl,HK,hbe,HC⟩:=hrel;by_cases rE:k<j
           . have hck:=HC.out (6+k) (by omega)
             have Oc:wr.cell? ⟨w.heap.size,6+j,Z⟩=H (J Y x):=(by rw[HX.out];exact HC.out (6+j) (by omega));obtain⟨y,hy⟩:=nm (num L (6+k));rw[<- hy] at hck;have HY:=vJ hy;clear hy;have elk:(k:Int)<(j:Int):=(by omega);have ek:(k:Int)<6:=(by omega);rcases h3:(y==x) with _|_
             . go_wp2
               go_quiet (fail)
               go_wp2;go_roundw
               case rel=>
                refine⟨k+1,by omega,by go_num,fun m hm=>?_,A2 hbe _,fun k hk=>HC.out k hk⟩;by_cases e:m=k
                . subst e;rw[<- HY.out,<- HX.out];intro e;rw[e] at h3;simp at h3
                . exact HK.out m (by omega)
               case measure=>simp[intOf];omega
             . have hr:=HNO.out (fun h=>h.2.2 k rE (by rw[<- HY.out,<- HX.out];simpa using h3))
               go_wp2;go_quiet (fail)
               go_wp2;go_ret;exact⟨by first|rfl|(rw [hr];rfl),A2 hbe _⟩
           . go_wp2
             go_roundw
             case rel=>
              obtain rfl:k=j:=by omega
              refine⟨k+1,by omega,by go_num,?_,hbe,HC⟩;show Mn L (k+1)=AL
              exact Q7 HF.out ⟨⟨by rw[<- HX.out];have:=HH1.out;omega,by rw[<- HX.out,eb];have:=HH2.out;omega⟩,by rw[<- HX.out];exact HH3.out,HK.out⟩
             case measure=>simp[intOf];omega
        . have hr:=HNO.out (fun h=>by have:=h.2.1;rw[<- HX.out,h3] at this;cases this)
          have K2:=vJ (LK x rD AL h3);clear h3;go_wp2;go_quiet ((go_at_call 140;exact Ce (K2.out _)))
          go_wp2;go_ret;exact⟨by first|rfl|(rw [hr];rfl),A2 hbe _⟩
      . have hr:=HNO.out (fun h=>by have:=h.1.2;rw[<- HX.out,eb] at this;have:=A7 h2;omega)
        have g2:b<=x:=A7 h2;go_wp2;go_quiet (fail)
        go_wp2;go_ret;exact⟨by first|rfl|(rw [hr];rfl),A2 hbe _⟩
    . have hr:=HNO.out (fun h=>by have:=h.1.1;rw[<- HX.out] at this;have:=A7 h1;omega)
      have g1:x<0:=A7 h1;go_wp2;go_quiet (fail)
      go_wp2;go_ret;exact⟨by first|rfl|(rw [hr];rfl),A2 hbe _⟩
  . go_wp2
    go_ret;obtain rfl:j=6:=by omega
    exact⟨by rw[GT,HF.out];rfl,hbe⟩
theorem dJ{L:List Int}(hL:L.length=12)(hT:TD L)(w:I):
 AA Ae 98 #[Gy L] w fun e w'=>e=Ag (A1 (D7 L))/\At w.heap.size w w':=by
 have h0:CY (num L 0)=AI\/CY (num L 0)=AL:=by cases CY (num L 0) <;> simp
 have h1:GH L=AI\/GH L=AL:=by cases GH L <;> simp
 have hm:=hT 0;have hT':=hT;have KF:∀ B,CY (num L 0)=B->_:=fun B h=>Ik (num L 0) hm B h
 have KS:∀ (hb:CY (num L 0)=AL) B,GH L=B->_:=fun hb B h=>YD hL hT hb B h
 have hr:D7 L=(CY (num L 0) && (GH L && GT L)):=rfl;have hob:=Ay w (Cd L 118);obtain⟨W1,hW1⟩:=nm (w.alloc (Cd L 118));rw[<- hW1] at hob
 match L,hL with
 |[b,st,tg,cu,io,ba,t0,t1,t2,t3,t4,t5],_=>
  have M6:w.alloc (Ar #[J Y b,J Y st,J Y tg,J Y cu,J Y io,J Y ba,J Y t0,J Y t1,J Y t2,J Y t3,J Y t4,J Y t5] 118)=W1:=by
   rw[hW1];rfl
  have H2:=vJ M6;show AA Ae 98 #[BD #[J Y b,J Y st,J Y tg,J Y cu,J Y io,J Y ba,J Y t0,J Y t1,J Y t2,J Y t3,J Y t4,J Y t5]] w fun e w'=>e=Ag (A1 (D7 _))/\At w.heap.size w w'
  rw[hr];change _<=_ at hm;rcases h0 with h0|h0
  . rw[h0]
    have K0:Hid (∀ w,AA Ae 92 #[J Y b] w fun e w'=>e=Ag (A1 AI)/\w=w'):=vJ (KF _ h0);clear KF KS hr h0 h1 hW1 M6 hT hm hT';go_enter Tryz.func98,Tryz.ntmps98;go_wp2_with (first|(go_at_call 92;with_reducible refine(K0.out _).mono ?_;rintro e w' ⟨rfl,rfl⟩))
    go_ret;exact⟨rfl,Ay _ _⟩
  . rw[h0,AP]
    have K0:Hid (∀ w,AA Ae 92 #[J Y b] w fun e w'=>e=Ag (A1 AL)/\w=w'):=vJ (KF _ h0);rcases h1 with h1|h1
    . rw[h1,Bool.false_and]
      have K1:Hid (∀ w,AA Ae 143 #[BD #[J Y b,J Y st,J Y tg,J Y cu,J Y io,J Y ba,J Y t0,J Y t1,J Y t2,J Y t3,J Y t4,J Y t5]] w fun e w'=>e=Ag (A1 AI)/\At w.heap.size w w'):=vJ (KS h0 _ h1);clear KF KS hr h0 h1 hW1 M6 hT hm hT';go_enter Tryz.func98,Tryz.ntmps98
      go_wp2_with (first
       |(go_at_call 92;with_reducible refine(K0.out _).mono ?_;rintro e w' ⟨rfl,rfl⟩)
       |(go_at_call 143;rw[H2.out];refine(K1.out _).mono ?_;rintro e w2 ⟨rfl,hb2⟩))
      go_ret;exact⟨rfl,hob.trans (hb2.mono hob.size)⟩
    . rw[h1,AP]
      have K1:Hid (∀ w,AA Ae 143 #[BD #[J Y b,J Y st,J Y tg,J Y cu,J Y io,J Y ba,J Y t0,J Y t1,J Y t2,J Y t3,J Y t4,J Y t5]] w fun e w'=>e=Ag (A1 AL)/\At w.heap.size w w'):=vJ (KS h0 _ h1);exact iD b st tg cu io ba t0 t1 t2 t3 t4 t5 _ rfl hT' (DI h0).2.1 w K0.out K1.out
theorem dv{L:List Int}(hL:L.length=12)(hT:TD L)(B:Bool)(h:D7 L=B)(w:I):
 AA Ae 98 #[Gy L] w fun e w'=>e=Ag (A1 B)/\At w.heap.size w w':=by rw[<- h];exact dJ hL hT w
def Vc(L:List Int)(w:I)(e:Ending)(w':I):Prop:=
 (D7 L=AL/\∃ v,e=Ag (AO #[v,J Y 0])/\OB w' w.heap.size v (GD L)/\At w.heap.size w w')\/
 (D7 L=AI/\e=Ag (AO #[Ak Z 0 0,J Y 1])/\At w.heap.size w w')
theorem Qr{L:List Int}(h:D7 L=AL)(j:Nat)(hj:j<12):0<=num L j/\num L j<65536:=by
 have h1:=U8 h j hj;have:=F8 (Qw j).2;have e:(256:Int) ^ 2=65536:=rfl;omega
theorem Yz:∀ j,pos j<=8+2*j
 |0=>AB _
 |j+1=>by have:=Yz j;have:=Qw j;rw[pos];omega
theorem n9{L:List Int}(j:Nat)(hj:j<12)(x:Int)(hx:x=num L j)(hx0:0<=x/\x<65536)(k:Nat)(hk:k=IG j)(W:I)(u:Aq)(hs:BSl W u (Hg L j)):
 AA Ae 158 #[u,J .u64 x,J Y (k:Int)] W (JZ W (Hg L (j+1))):=by
 have h1:=Qw j;have h2:=Yz j;have h3:=ET L j;rw[Hg,<- hx,<- hk];exact FX hs (by omega) x k k (by omega) (by omega) rfl hx0.1 (by omega)
theorem js{L:List Int}(j:Nat)(hj:j<12)(x:Int)(hx:x=num L j)(hx0:0<=x/\x<65536)(k:Nat)(hk:k=IG j)(W:I)(u:Aq)(hs:BSl W u (Hg L j)):
 AA Ae 79 #[u,J .u64 x,J Y (k:Int)] W (JZ W (Hg L (j+1))):=by
 have h1:=Qw j;have h2:=Yz j;have h3:=ET L j;rw[Hg,<- hx,<- hk];exact GO hs (by omega) x k k (by omega) (by omega) rfl hx0.1 (by omega)
theorem TS(w2:I):BSl (w2.alloc (Ar #[J .u8 97,J .u8 115,J .u8 104,J .u8 108,J .u8 97,J .u8 114,J .u8 32,J .u8 49] 5 (8,9))) (Ak (H ⟨w2.heap.size,0,Z⟩) 8 8) Yx:=by
 refine⟨CE eX,Ba ⟨_,8,rfl,by decide,fun j hj=>⟨by simp,rfl,?_⟩⟩⟩;have hj:j<8:=hj;have hh:(w2.alloc (Ar #[J .u8 97,J .u8 115,J .u8 104,J .u8 108,J .u8 97,J .u8 114,J .u8 32,J .u8 49] 5 (8,9))).heap[w2.heap.size]? =H (Ar #[J .u8 97,J .u8 115,J .u8 104,J .u8 108,J .u8 97,J .u8 114,J .u8 32,J .u8 49] 5 (8,9)):=by
  show(w2.heap.push _)[w2.heap.size]? =_
  simp
 rw[Bm,Az _ _ _ _ _ _ hh];have:j=0\/j=1\/j=2\/j=3\/j=4\/j=5\/j=6\/j=7:=by omega
 rcases this with rfl|rfl|rfl|rfl|rfl|rfl|rfl|rfl <;> rfl
theorem ky(b st tg cu io ba t0 t1 t2 t3 t4 t5:Int)(L:List Int)(M5:L=[b,st,tg,cu,io,ba,t0,t1,t2,t3,t4,t5])(hf:D7 L=AL)(w:I)
 (hF:∀ w,AA Ae 195 #[BD #[J Y b,J Y st,J Y tg,J Y cu,J Y io,J Y ba,J Y t0,J Y t1,J Y t2,J Y t3,J Y t4,J Y t5]] w fun e w'=>e=Ag (A1 AL)/\At w.heap.size w w'):
 AA Ae 170 #[BD #[J Y b,J Y st,J Y tg,J Y cu,J Y io,J Y ba,J Y t0,J Y t1,J Y t2,J Y t3,J Y t4,J Y t5]] w fun e w'=>∃ v,e=Ag (AO #[v,J Y 0])/\OB w' w.heap.size v (GD L)/\At w.heap.size w w':=by
 have hob:=Ay w (Cd L 149);have hh:=Aw w (Cd L 149);obtain⟨W1,hW1⟩:=nm (w.alloc (Cd L 149));rw[<- hW1] at hob hh;have M6:w.alloc (Ar #[J Y b,J Y st,J Y tg,J Y cu,J Y io,J Y ba,J Y t0,J Y t1,J Y t2,J Y t3,J Y t4,J Y t5] 149)=W1:=by rw[hW1,M5];rfl
 have hlen:L.length=12:=by rw[M5];rfl
 have En:w.heap.size<W1.heap.size:=by rw[hW1];simp
 have H2:=vJ M6;have HH:=vJ hh;have HLE:=vJ hlen;have HFR:=vJ hf;have K0:=vJ hF;clear hF hh hW1 M6 M5 hlen hf;have kc:=fun(w:I) (C:Array Aq) (n c:Nat)=>Lib.run_convert_bytes_const (P:=Ae) w 49 5 C n c Tryz.underlying49 Tryz.underlying5
 go_enter Tryz.func170,Tryz.ntmps170
 go_wp2_with (first
  |(go_at_call 195;rw[H2.out];refine(K0.out _).mono ?_;rintro e w2 ⟨rfl,hb2⟩;have hbe:At w.heap.size w w2:=hob.trans (hb2.mono hob.size))
  |(go_at_call 194;refine(QB _ _).mono ?_;rintro e w4 ⟨v4,rfl,hf4,hb4⟩;obtain⟨gf,cap,rfl,t8,XK,Hn,sN⟩:=hf4.shape (by decide)))
 have hbm:=TS w2;obtain⟨w3,hw3⟩:=nm (w2.alloc (Ar #[J .u8 97,J .u8 115,J .u8 104,J .u8 108,J .u8 97,J .u8 114,J .u8 32,J .u8 49] 5 (8,9)));rw[<- hw3] at hb4 hbm;have hb3:At w2.heap.size w2 w3:=by rw[hw3];exact Ay _ _
 have hb24:At w2.heap.size w2 w4:=hb3.trans (hb4.mono hb3.size);have hb04:At w.heap.size w w4:=hbe.trans (hb24.mono hbe.size);have Od:w.heap.size<w2.heap.size:=AH En hb2.size;have hh4:w4.heap[w.heap.size]? =H (Cd L 149):=by
  rw[hb24.block _ Od,hb2.block _ En];exact HH.out
 have hc4:=fun k hk=>Ih hh4 k hk
 rw[HLE.out] at hc4;have oR:w.heap.size<w4.heap.size:=AH Od hb24.size;have l_:=hbm.below hb4;have HC:=vJ hc4;have HCF:=vJ sN;have HB04:=vJ hb04;clear hbm hw3 hb3 hb24 hh4 hc4 sN hb4 hf4 hb2 hbe hob Od En kc hb04;go_loopw [4,14] (fun u i wr=>∃ j:Nat,j<=12/\i=J Y j/\Hid (BSl wr u (Hg L j))/\Hid (At w4.heap.size w4 wr)) (fun _ i _=>12-(intOf i).toNat)
 case atStart=>exact⟨0,by omega,rfl,l_,AM _ _⟩
 case round=>
  obtain⟨j,hj,rfl,HBS,HBR⟩:=hrel;clear l_;by_cases hlt:j<12
  . have hf:=HCF.out j hlt
    have hf1:wr.cell? ⟨gf,j*2,Z⟩=H (G (H ⟨w.heap.size,j,Z⟩)):=(by rw[HBR.out.cell t8];exact hf.1);have hf2:wr.cell? ⟨gf,j*2+1,Z⟩=H (J Y (IG j:Int)):=(by rw[HBR.out.cell t8];exact hf.2);have hx0:=Qr HFR.out j hlt;obtain⟨x,hx⟩:=nm (num L j);have Oc:wr.cell? ⟨w.heap.size,j,Z⟩=H (J Y x):=(by rw[HBR.out.cell oR,hx];exact HC.out j hlt);rw[<- hx] at hx0;have hwd:=Qw j;obtain⟨k,hk⟩:=nm (IG j);rw[<- hk] at hwd hf2;have HX:=vJ hx;have HK:=vJ hk;have ej:(j:Int)<12:=(by omega);have HPU:=vJ (n9 (L:=L) j hlt x hx hx0 k hk);clear hx hk hf;have XY:w.heap.size<wr.heap.size:=AH oR HBR.out.size;go_wp2;have hbx:=Ay wr (Ar #[G (H ⟨w.heap.size,j,Z⟩),J Y (k:Int)] 269);have Sh:=Aw wr (Ar #[G (H ⟨w.heap.size,j,Z⟩),J Y (k:Int)] 269);generalize wr.alloc (Ar #[G (H ⟨w.heap.size,j,Z⟩),J Y (k:Int)] 269)=W5 at hbx Sh |-
    have c0:W5.cell? ⟨wr.heap.size,0,Z⟩=H (G (H ⟨w.heap.size,j,Z⟩)):=(by rw[Az _ _ _ _ _ _ Sh];rfl);have c1:W5.cell? ⟨wr.heap.size,1,Z⟩=H (J Y (k:Int)):=(by rw[Az _ _ _ _ _ _ Sh];rfl);have c2:W5.cell? ⟨w.heap.size,j,Z⟩=H (J Y x):=(by rw[hbx.cell XY];exact Oc);have HBX:=vJ (A2 hbx 1);have HU:=vJ (HBS.out.below HBX.out);change Hid (BSl W5.drew _ _) at HU;change Hid (At wr.heap.size wr W5.drew) at HBX;clear hbx Sh Oc hf1 hf2 XY;go_still_tail 8,(by kernel_rfl)
    go_wp2_with (go_at_call 158;refine(HPU.out _ _ HU.out).mono ?_;rintro e w6 ⟨v6,rfl,hob6,hb6⟩)
    have HB6:=vJ (HBX.out.trans (hb6.mono HBX.out.size));clear hb6;go_roundw
    case rel=>exact⟨j+1,by omega,by go_num,hob6.bsl,HBR.out.trans (HB6.out.mono HBR.out.size)⟩
    case measure=>simp[intOf];omega
  . obtain rfl:j=12:=by omega
    have HSE:=vJ (L8 HBS.out (by rw[ET];decide));go_wp2_with (go_at_call 196;refine HSE.out.mono ?_;rintro e w7 ⟨v7,rfl,hob7,hb7⟩)
    go_ret2;have hB:=HB04.out.trans (HBR.out.mono HB04.out.size);exact⟨v7,rfl,hob7.more hB.size,hB.trans (hb7.mono hB.size)⟩
theorem bw{L:List Int}(hL:L.length=12)(hT:TD L)(w:I):AA Ae 170 #[Gy L] w (Vc L w):=by
 have h0:D7 L=AI\/D7 L=AL:=by cases D7 L <;> simp
 have KF:∀ B,D7 L=B->_:=fun B h=>RB hL hT B h
 have hob:=Ay w (Cd L 149);obtain⟨W1,hW1⟩:=nm (w.alloc (Cd L 149));rw[<- hW1] at hob
 match L,hL with
 |[b,st,tg,cu,io,ba,t0,t1,t2,t3,t4,t5],_=>
  have M6:w.alloc (Ar #[J Y b,J Y st,J Y tg,J Y cu,J Y io,J Y ba,J Y t0,J Y t1,J Y t2,J Y t3,J Y t4,J Y t5] 149)=W1:=by rw[hW1];rfl
  have H2:=vJ M6;show AA Ae 170 #[BD #[J Y b,J Y st,J Y tg,J Y cu,J Y io,J Y ba,J Y t0,J Y t1,J Y t2,J Y t3,J Y t4,J Y t5]] w (Vc _ w)
  rcases h0 with h0|h0
  . refine AA.mono ?_ fun e w' h=>Ba ⟨h0,h⟩
    have K0:Hid (∀ w,AA Ae 195 #[BD #[J Y b,J Y st,J Y tg,J Y cu,J Y io,J Y ba,J Y t0,J Y t1,J Y t2,J Y t3,J Y t4,J Y t5]] w fun e w'=>e=Ag (A1 AI)/\At w.heap.size w w'):=vJ (KF _ h0);clear KF h0 hW1 M6 hT;go_enter Tryz.func170,Tryz.ntmps170;go_wp2_with (first|(go_at_call 195;rw[H2.out];refine(K0.out _).mono ?_;rintro e w2 ⟨rfl,hb2⟩))
    go_ret2;exact⟨rfl,hob.trans (hb2.mono hob.size)⟩
  . refine AA.mono ?_ fun e w' h=>AN ⟨h0,h⟩
    exact ky b st tg cu io ba t0 t1 t2 t3 t4 t5 _ rfl h0 w (KF _ h0)
def Kept(w w':I)(g:Nat):Prop:=w'.os=w.os/\w'.tape=w.tape/\w'.output=w.output/\w.heap.size<=w'.heap.size/\∀ k,k<w.heap.size->k≠g->w'.heap[k]? =w.heap[k]?
theorem Kept.refl(w:I)(g:Nat):Kept w w g:=⟨rfl,rfl,rfl,AB _,fun _ _ _=>rfl⟩
theorem Kept.then{w w' w'':I}{g:Nat}(h:Kept w w' g)(hb:At w'.heap.size w' w''):Kept w w'' g:=
 ⟨hb.os.trans h.1,hb.tape.trans h.2.1,hb.output.trans h.2.2.1,AT h.2.2.2.1 hb.size,fun k hk hne=>by rw[hb.block k (AH hk h.2.2.2.1)];exact h.2.2.2.2 k hk hne⟩
theorem Kept.wrote{w w' w'':I}{g:Nat}(h:Kept w w' g)(hb:Wrote w' w'' g):Kept w w'' g:=
 ⟨hb.1.trans h.1,hb.2.1.trans h.2.1,hb.2.2.1.trans h.2.2.1,by rw[hb.2.2.2.1];exact h.2.2.2.1,fun k hk hne=>by rw[hb.2.2.2.2 k hne];exact h.2.2.2.2 k hk hne⟩
theorem Kept.below{w w':I}{g B:Nat}(h:Kept w w' g)(hB:B<=g)(hw:B<=w.heap.size):At B w w':=
 ⟨h.1,h.2.1,h.2.2.1,h.2.2.2.1,fun k hk=>h.2.2.2.2 k (AH hk hw) (by omega)⟩
theorem Kept.cell{w w':I}{g:Nat}(h:Kept w w' g){b o:Nat}(hb:b<w.heap.size)(hne:b≠g):w'.cell? ⟨b,o,Z⟩=w.cell? ⟨b,o,Z⟩:=by
 simp only[I.cell?];rw[h.2.2.2.2 b hb hne]
def Me(c:List Int)(j:Nat):List Int:=(Co 12).map fun i=>if i<j then Cc c (pos i) (IG i) else 0
theorem G6(c:List Int)(j:Nat):(Me c j).length=12:=by simp[Me]
theorem jQ(c:List Int)(j:Nat)(hj:j<12):(Me c j).set j (Cc c (pos j) (IG j))=Me c (j+1):=by
 apply Bi (by rw[AJ,G6,G6]);intro i h1 h2;simp only[Me,Cz,Ct,Cg];by_cases e:j=i
 . subst e;rw[AC rfl,AC (by omega)]
 . rw[AE e]
   by_cases h:i<j
   . rw[AC h,AC (by omega)]
   . rw[AE h,AE (by omega)]
theorem fM(c:List Int):Me c 12=RY c:=by
 unfold Me RY;apply CN;intro i hi;rw[AC (Bo.1 hi)]
theorem i8{W:I}{g:Nat}{L:List Int}{T:TypeId}(h:W.heap[g]? =H (Cd L T))(j:Nat)(y:Int):(W.setCell ⟨g,j,Z⟩ (J Y y)).heap[g]? =H (Cd (L.set j y) T):=by
 rw[Bs W g j _ _ _ h];simp[Cd]
theorem kh(j:Nat)(hj:j<12):pos j+IG j<=252:=by
 have:∀ i,i<=12->pos i<=8+2*i:=fun i _=>by
  induction i with
  |zero=>exact AB _
  |succ i ih=>have:=ih (by omega);rw[pos];unfold IG;split <;> omega
 have:=this (j+1) (by omega);rw[pos] at this;omega
theorem ko{c:List Int}(hc:c.length=252)(j:Nat)(hj:j<12)(k:Nat)(hk:k=IG j):Mg c (pos j:Int) (k:Int)=Cc c (pos j) (IG j):=by
 have:=kh j hj;have h1:1<=IG j/\IG j<=2:=by unfold IG;split <;> omega
 unfold Mg;rw[AC (by omega),hk];rfl
theorem VR{c:List Int}(hb:FJ c)(j:Nat):0<=Cc c (pos j) (IG j)/\Cc c (pos j) (IG j)<65536:=by
 have h:=D4 (CZ hb) (pos j) (IG j);have h1:1<=IG j/\IG j<=2:=by unfold IG;split <;> omega
 have:=F8 h1.2;have e:(256:Int) ^ 2=65536:=rfl;omega
theorem bY:(Ae.info? 149).map (·.size)=H 12:=by kernel_rfl
theorem FC{ops:Array BS}{rest:List BS}{o:BS}{a:Act}{w:I}{Q:Exit->Act->I->Prop}(Dn:o.guard=Z)(x:Operand)(ho:o.op=.load 149 x)
 (g:Nat) (hx:a.eval x=G (H ⟨g,0,Z⟩)) (L:List Int) (hL:L.length=12) (T:TypeId) (hg:w.heap[g]? =H (Cd L T)) (h:Cn Ae ops Q rest (a.put o.dst (Gy L)) w):Cn Ae ops Q (o :: rest) a w:=
 wpList_load_row Dn 149 x ho g hx T _ (0,0) _ hg Tryz.underlying149 rfl (by rw[bY];simp[hL]) h
theorem XC(L:List Int):(L.map (J Y)).toArray.all (·.oneCell')=AL:=by
 rw[Array.all_eq_true'];intro v hv;simp at hv;obtain⟨x,_,rfl⟩:=hv;rfl
theorem CO{ops:Array BS}{rest:List BS}{o:BS}{a:Act}{w:I}{Q:Exit->Act->I->Prop}(Dn:o.guard=Z)(x y:Operand)(ho:o.op=.store 149 x y)
 (g:Nat) (hx:a.eval x=G (H ⟨g,0,Z⟩)) (L M:List Int) (hy:a.eval y=Gy L) (hL:L.length=12) (hM:M.length=12) (T:TypeId) (hg:w.heap[g]? =H (Cd M T))
 (h:∀ w',Wrote w w' g->w'.heap[g]? =H (Cd L T)->Cn Ae ops Q rest (a.put o.dst undef) w'):Cn Ae ops Q (o :: rest) a w:=
 Do Dn 149 x y ho g _ hx hy T _ hg (by rw[bY];simp[hL]) (by simp[hL,hM]) (XC L) (h _ (Wrote.setRow _ _ _) (Cr _ _ _ _ _ _ hg))
theorem ov{fn:Func}{p:Tmp}(h:fn.results=#[.cell p 149])(tmps:Array Aq)(w:I)(g:Nat)(T:TypeId)(L:List Int)(hL:L.length=12)(hp:tmps.getD p undef=G (H ⟨g,0,Z⟩))(hg:w.heap[g]? =H (Cd L T)):
 (results fn tmps).run Ae w=.ok (Gy L) w:=
 results_cell_row h tmps w g T _ (0,0) _ hp hg Tryz.underlying149 rfl (by rw[bY];simp[hL])
theorem Rl{w:I}{v:Aq}{c:List Int}(hs:BSl w v c)(hc:c.length=252):AA Ae 169 #[v] w fun e w'=>e=Ag (Gy (RY c))/\At w.heap.size w w':=by
 have HS:=vJ hs;have HCL:=vJ hc;clear hs hc;have GN:∃ w2,w2=(w.alloc (Cd (Me c 0) 149)).alloc (Cd (Me c 0) 149):=⟨_,rfl⟩;obtain⟨w2,GN⟩:=GN;have h2:(w.alloc (Ar #[J Y 0,J Y 0,J Y 0,J Y 0,J Y 0,J Y 0,J Y 0,J Y 0,J Y 0,J Y 0,J Y 0,J Y 0] 149)).alloc (Ar #[J Y 0,J Y 0,J Y 0,J Y 0,J Y 0,J Y 0,J Y 0,J Y 0,J Y 0,J Y 0,J Y 0,J Y 0] 149)=w2:=by rw[GN];rfl
 have hb2:At w.heap.size w w2:=by rw[GN];exact((AM _ _).alloc (AB _) _).alloc (by simp) _
 have Kh:w2.heap[w.heap.size]? =H (Cd (Me c 0) 149):=by rw[GN,@heap_alloc_old _ _ _ (by simp)];exact Aw _ _
 have hr1:w2.heap[w.heap.size+1]? =H (Cd (Me c 0) 149):=by rw[GN];exact heap_alloc2_new _ _ _
 have JG:w2.heap.size=w.heap.size+2:=by rw[GN];simp
 have H2:=vJ h2;have HR0:=vJ Kh;have HR1:=vJ hr1;clear h2 GN Kh hr1;go_enter Tryz.func169,Tryz.ntmps169
 go_wp2_with (first
  |(go_at_call 194;rw[H2.out];refine(QB _ _).mono ?_;rintro e w4 ⟨v4,rfl,hf4,hb4⟩;obtain⟨gf,cap,rfl,t8,XK,Hn,sN⟩:=hf4.shape (by decide)))
 obtain⟨gs,lO⟩:=nm (w.heap.size+1);have ay:w4.heap[gs]? =H (Cd (Me c 0) 149):=by rw[lO,hb4.block _ (by omega)];exact HR1.out
 have lP:w4.heap[w.heap.size]? =H (Cd (Me c 0) 149):=by rw[hb4.block _ (by omega)];exact HR0.out
 have hb04:At w.heap.size w w4:=hb2.trans (hb4.mono (by omega));have rG:gs<w4.heap.size:=(Al.1 ay).1;have t_:gf≠gs:=by omega
 have hwl:w.heap.size<w4.heap.size:=by omega
 rw[<- lO] at sN |-
 have HG:=vJ lO;have HCF:=vJ sN;have HB04:=vJ hb04;have HGR:=vJ lP;clear lO sN hb04 lP hb4 hf4 JG hb2 Hn XK;go_loopw [4,11] (fun at_ i wr=>∃ j:Nat,j<=12/\i=J Y j/\at_=J Y (pos j:Int)/\Hid (wr.heap[gs]? =H (Cd (Me c j) 149))/\Hid (Kept w4 wr gs)) (fun _ i _=>12-(intOf i).toNat)
 case atStart=>exact⟨0,by omega,rfl,rfl,ay,Kept.refl _ _⟩
 case round=>
  obtain⟨j,hj,rfl,rfl,HRW,HKP⟩:=hrel;clear ay;by_cases hlt:j<12
  . have hf:=HCF.out j hlt
    have hf1:wr.cell? ⟨gf,j*2,Z⟩=H (G (H ⟨gs,j,Z⟩)):=(by rw[HKP.out.cell t8 t_];exact hf.1);have hf2:wr.cell? ⟨gf,j*2+1,Z⟩=H (J Y (IG j:Int)):=(by rw[HKP.out.cell t8 t_];exact hf.2);have ma:=VR HS.out.1 j;have hwd:1<=IG j/\IG j<=2:=by unfold IG;split <;> omega
    have M4:=kh j hlt;have cK:=ko HCL.out j hlt _ rfl;obtain⟨y,hy⟩:=nm (Cc c (pos j) (IG j));rw[<- hy] at ma cK;have E5:pos (j+1)=pos j+IG j:=rfl;obtain⟨P,hP⟩:=nm (pos j);obtain⟨k,hk⟩:=nm (IG j);have hset:=jQ c j hlt;rw[<- hy] at hset;rw[<- hP] at M4 cK E5 |-
    rw[<- hk] at hwd M4 cK E5 hf2;have HGET:Hid (∀ W,BSl W v c->AA Ae 181 #[v,J Y (P:Int),J Y (k:Int)] W fun e w'=>∃ B,e=Ag (AO #[J .u64 y,A1 B])/\W=w'):=vJ fun W h=>by
     have:=NO h (by have:=HCL.out;omega) (P:Int) (k:Int) (by omega) (by omega);rw[cK] at this;exact this.mono fun e w' ⟨h1,h2⟩=>⟨_,h1,h2⟩
    have HSET:=vJ hset;have ej:(j:Int)<12:=(by omega);have XY:gs<wr.heap.size:=AH rG HKP.out.2.2.2.1;have HNX:=vJ E5;have hbw:=HB04.out.trans (HKP.out.below (B:=w.heap.size) (by have:=HG.out;omega) (by omega));have HBW:=vJ hbw;clear hy hP hk hset cK hf E5 hbw;have lQ:wr.heap.size≠gs:=by omega
    go_wp2_with (first
     |(go_at_call 181
       have hb5:=Ay wr (Ar #[G (H ⟨gs,j,Z⟩),J Y (k:Int)] 269);have oS:=Aw wr (Ar #[G (H ⟨gs,j,Z⟩),J Y (k:Int)] 269);generalize wr.alloc (Ar #[G (H ⟨gs,j,Z⟩),J Y (k:Int)] 269)=W5 at hb5 oS |-
       have E3:W5.heap[gs]? =H (Cd (Me c j) 149):=(hb5.block _ XY).trans HRW.out;have c0:W5.cell? ⟨wr.heap.size,0,Z⟩=H (G (H ⟨gs,j,Z⟩)):=(by rw[Az _ _ _ _ _ _ oS];rfl);have c1:W5.cell? ⟨wr.heap.size,1,Z⟩=H (J Y (k:Int)):=(by rw[Az _ _ _ _ _ _ oS];rfl);have ck:=Ih E3 j (by rw[G6];exact hlt);have fk:W5.frozen? ⟨gs,j,Z⟩=AI:=(by simp[I.frozen?,E3,Cd]);have hw6:=Wrote.setCell W5 gs j (J Y y);have c6:(W5.setCell ⟨gs,j,Z⟩ (J Y y)).cell? ⟨wr.heap.size,1,Z⟩=H (J Y (k:Int)):=by
        simp only[I.cell?];rw[hw6.2.2.2.2 _ lQ];exact c1
       have hr6:=i8 E3 j y;rw[HSET.out] at hr6;have HK6:=vJ ((HKP.out.then hb5).wrote hw6);have HR6:=vJ hr6;have HB5:=vJ (HBW.out.trans (hb5.mono HBW.out.size));clear hb5 oS E3 hr6 hw6 hf1 hf2 lQ;refine(HGET.out _ (HS.out.below HB5.out)).mono ?_;rintro e w' ⟨B,rfl,rfl⟩))
    go_roundw
    case rel=>exact⟨j+1,by omega,by go_num,by rw[HNX.out];go_num,HR6.out,HK6.out⟩
    case measure=>simp[intOf];omega
  . obtain rfl:j=12:=by omega
    have rH:wr.heap[w.heap.size]? =H (Cd (Me c 0) 149):=(by rw[HKP.out.2.2.2.2 _ hwl (by have:=HG.out;omega)];exact HGR.out);have hlen:=G6 c 12;have ua:=G6 c 0;have HBW:=vJ (HB04.out.trans (HKP.out.below (B:=w.heap.size) (by have:=HG.out;omega) (by omega)))
    go_wp2_with (first
     |(with_reducible refine FC rfl _ rfl gs rfl _ hlen _ HRW.out ?_)
     |(with_reducible refine CO rfl _ _ rfl w.heap.size rfl _ _ rfl hlen ua _ rH ?_;intro w7 hw7 Vm))
    refine Bv (ov rfl _ _ w.heap.size _ _ hlen rfl Vm) rfl ⟨by rw[fM],HBW.out.trans (hw7.below (AB _) |>.mono (AB _))⟩
def Dc:List Int:=AD 12 0
def qf(l:List Int)(w:I)(e:Ending)(w':I):Prop:=
 At w.heap.size w w'/\((qH l/\e=Ag (AO #[Gy (tt l),J Y 0]))\/(¬ qH l/\e=Ag (AO #[Gy Dc,J Y 18])))
theorem Yj{c:List Int}(hb:FJ c):TD (RY c):=fun i=>by
 by_cases hi:i<12
 . rw[aK _ _ hi];have:=VR hb i;omega
 . unfold num;rw[An,A5 (by rw[Ir];omega)];decide
theorem mz{L:List Int}(hL:L.length=12)(hT:TD L)(h:D7 L=AI)(w:I):AA Ae 170 #[Gy L] w fun e w'=>e=Ag (AO #[Ak Z 0 0,J Y 1])/\At w.heap.size w w':=
 (bw hL hT w).mono fun e w' ho=>ho.elim (fun h1=>by rw[h] at h1;cases h1.1) fun h1=>h1.2
theorem bZ{L:List Int}(hL:L.length=12)(hT:TD L)(h:D7 L=AL)(w:I):AA Ae 170 #[Gy L] w fun e w'=>∃ v,e=Ag (AO #[v,J Y 0])/\OB w' w.heap.size v (GD L)/\At w.heap.size w w':=
 (bw hL hT w).mono fun e w' ho=>ho.elim (fun h1=>h1.2) fun h1=>by rw[h] at h1;cases h1.1
theorem Lg{fn:Func}{p u:Tmp}(h:fn.results=#[.cell p 149,.tmp u])(tmps:Array Aq)(w:I)(g:Nat)(T:TypeId)(L:List Int)(x:Aq)(hL:L.length=12)(hp:tmps.getD p undef=G (H ⟨g,0,Z⟩))(hg:w.heap[g]? =H (Cd L T))(hx:tmps.getD u undef=x):
 (results fn tmps).run Ae w=.ok (AO #[Gy L,x]) w:=by
 rw[results_cell_tmp h,hp,hx];simp only[asAddr,Sem.run_pure,Result.andThen_ok];rw[run_loadVar_row w g T 149 _ (0,0) _ hg Tryz.underlying149 rfl (by rw[bY];simp[hL])];rfl
theorem jT{w:I}{v:Aq}{l:List Int}(hs:BSl w v l)(h:¬ FG l):AA Ae 119 #[v] w fun e w'=>e=Ag (AO #[Gy Dc,J Y 18])/\At w.heap.size w w':=by
 have hb1:=Ay w (Cd Dc 149);have hr1:=Aw w (Cd Dc 149);obtain⟨w1,hw1⟩:=nm (w.alloc (Cd Dc 149));rw[<- hw1] at hb1 hr1;have h1:w.alloc (Ar #[J Y 0,J Y 0,J Y 0,J Y 0,J Y 0,J Y 0,J Y 0,J Y 0,J Y 0,J Y 0,J Y 0,J Y 0] 149)=w1:=by rw[hw1];rfl
 have SG:w.heap.size<w1.heap.size:=by rw[hw1];simp
 have H1:=vJ h1;have HR1:=vJ hr1;have HO:=vJ (Tl (hs.below hb1) h);clear hs h h1 hw1 hr1;go_enter Tryz.func119,Tryz.ntmps119
 go_wp2_with (first
  |(go_at_call 168;rw[H1.out];refine HO.out.mono ?_;rintro e w2 ⟨rfl,hb2⟩
    have hr2:w2.heap[w.heap.size]? =H (Cd Dc 149):=(hb2.block _ SG).trans HR1.out)
  |(with_reducible refine CO rfl (.tmp 2) (.tmp 16) rfl w.heap.size rfl Dc Dc rfl rfl rfl _ hr2 ?_;intro w3 hw3 hr3))
 exact Bv (Lg rfl _ _ w.heap.size _ _ _ rfl rfl hr3 rfl) rfl ⟨rfl,(hb1.trans (hb2.mono hb1.size)).trans (hw3.below (AB _))⟩
theorem jz{w:I}{v:Aq}{l:List Int}(hs:BSl w v l)(h:FG l)(hf:D7 (RY (l.take 252))=AI):AA Ae 119 #[v] w fun e w'=>e=Ag (AO #[Gy Dc,J Y 18])/\At w.heap.size w w':=by
 have hb1:=Ay w (Cd Dc 149);have hr1:=Aw w (Cd Dc 149);obtain⟨w1,hw1⟩:=nm (w.alloc (Cd Dc 149));rw[<- hw1] at hb1 hr1;have h1:w.alloc (Ar #[J Y 0,J Y 0,J Y 0,J Y 0,J Y 0,J Y 0,J Y 0,J Y 0,J Y 0,J Y 0,J Y 0,J Y 0] 149)=w1:=by rw[hw1];rfl
 have SG:w.heap.size<w1.heap.size:=by rw[hw1];simp
 have H1:=vJ h1;have HR1:=vJ hr1;have HO:=vJ (Kt (hs.below hb1) h);have hlt:=Nt h;have Oi:=Yj (Ez hs.1 252);have hrl:=Ir (l.take 252);obtain⟨c,hc⟩:=nm (l.take 252);rw[<- hc] at hlt HO hf Oi hrl;obtain⟨L,hL⟩:=nm (RY c);rw[<- hL] at hf Oi hrl;have HL:=vJ hL;have HLT:=vJ hlt;have HEN:=vJ (mz hrl Oi hf);clear hs h h1 hw1 hr1 hc hf Oi hlt hL;go_enter Tryz.func119,Tryz.ntmps119
 go_wp2_with (first
  |(go_at_call 168;rw[H1.out];refine HO.out.mono ?_;rintro e w2 ⟨v2,rfl,hob2,hb2⟩)
  |(go_at_call 169;refine(Rl hob2.bsl HLT.out).mono ?_;rw[<- HL.out];rintro e w3 ⟨rfl,hb3⟩)
  |(with_reducible refine CO rfl (.tmp 6) (.tmp 18) rfl w3.heap.size rfl L Dc rfl hrl rfl _ (Aw w3 _) ?_
    intro w5 hw5 E3;have hb5:At w3.heap.size w3 w5:=(Ay w3 _).trans (hw5.below (AB _)))
  |(with_reducible refine FC rfl (.tmp 6) rfl w3.heap.size rfl L hrl _ E3 ?_)
  |(go_at_call 170;refine(HEN.out _).mono ?_;rintro e w6 ⟨rfl,hb6⟩
    have JG:=AH SG hb2.size;have J7:=AH JG hb3.size;have ii:=AH J7 hb5.size;have hr6:w6.heap[w.heap.size]? =H (Cd Dc 149):=(by rw[hb6.block _ ii,hb5.block _ J7,hb3.block _ JG,hb2.block _ SG];exact HR1.out);have hb26:At w2.heap.size w2 w6:=(hb3.trans (hb5.mono hb3.size)).trans (hb6.mono (AT hb3.size hb5.size));have hb06:At w.heap.size w w6:=(hb1.trans (hb2.mono hb1.size)).trans (hb26.mono (AT hb1.size hb2.size));clear JG J7 ii hb26)
  |(with_reducible refine CO rfl (.tmp 2) (.tmp 32) rfl w.heap.size rfl Dc Dc rfl rfl rfl _ hr6 ?_;intro w7 hw7 Vm))
 exact Bv (Lg rfl _ _ w.heap.size _ _ _ rfl rfl Vm rfl) rfl ⟨rfl,hb06.trans (hw7.below (AB _))⟩
theorem fS{w:I}{v:Aq}{l:List Int}(hs:BSl w v l)(h:FG l)(hf:D7 (RY (l.take 252))=AL)(Sg:GD (RY (l.take 252))=l):AA Ae 119 #[v] w fun e w'=>e=Ag (AO #[Gy (RY (l.take 252)),J Y 0])/\At w.heap.size w w':=by
 have hb1:=Ay w (Cd Dc 149);have hr1:=Aw w (Cd Dc 149);obtain⟨w1,hw1⟩:=nm (w.alloc (Cd Dc 149));rw[<- hw1] at hb1 hr1;have h1:w.alloc (Ar #[J Y 0,J Y 0,J Y 0,J Y 0,J Y 0,J Y 0,J Y 0,J Y 0,J Y 0,J Y 0,J Y 0,J Y 0] 149)=w1:=by rw[hw1];rfl
 have SG:w.heap.size<w1.heap.size:=by rw[hw1];simp
 have H1:=vJ h1;have HR1:=vJ hr1;have HS:=vJ hs;have HO:=vJ (Kt (hs.below hb1) h);have hlt:=Nt h;have Oi:=Yj (Ez hs.1 252);have hrl:=Ir (l.take 252);obtain⟨c,hc⟩:=nm (l.take 252);rw[<- hc] at hlt HO hf Oi hrl Sg |-
 obtain⟨L,hL⟩:=nm (RY c);rw[<- hL] at hf Oi hrl Sg |-
 have HL:=vJ hL;have HLT:=vJ hlt;have HEN:=vJ (bZ hrl Oi hf);have HD:Hid (decide (GD L=l)=AL):=vJ (AF Sg);clear hs h h1 hw1 hr1 hc hf Oi hlt hL Sg;go_enter Tryz.func119,Tryz.ntmps119
 go_wp2_with (first
  |(go_at_call 168;rw[H1.out];refine HO.out.mono ?_;rintro e w2 ⟨v2,rfl,hob2,hb2⟩)
  |(go_at_call 169;refine(Rl hob2.bsl HLT.out).mono ?_;rw[<- HL.out];rintro e w3 ⟨rfl,hb3⟩)
  |(with_reducible refine CO rfl (.tmp 6) (.tmp 18) rfl w3.heap.size rfl L Dc rfl hrl rfl _ (Aw w3 _) ?_
    intro w5 hw5 E3;have hb5:At w3.heap.size w3 w5:=(Ay w3 _).trans (hw5.below (AB _)))
  |(with_reducible refine FC rfl (.tmp 6) rfl w3.heap.size rfl L hrl _ E3 ?_)
  |(go_at_call 170;refine(HEN.out _).mono ?_;rintro e w6 ⟨v6,rfl,hob6,hb6⟩
    have JG:=AH SG hb2.size;have J7:=AH JG hb3.size;have ii:=AH J7 hb5.size;have hr6:w6.heap[w.heap.size]? =H (Cd Dc 149):=(by rw[hb6.block _ ii,hb5.block _ J7,hb3.block _ JG,hb2.block _ SG];exact HR1.out);have ud:w6.heap[w3.heap.size]? =H (Cd L 149):=(by rw[hb6.block _ (Al.1 E3).1];exact E3);have hb26:At w2.heap.size w2 w6:=(hb3.trans (hb5.mono hb3.size)).trans (hb6.mono (AT hb3.size hb5.size));have hb06:At w.heap.size w w6:=(hb1.trans (hb2.mono hb1.size)).trans (hb26.mono (AT hb1.size hb2.size));clear JG J7 ii hb26)
  |(go_at_call 156;refine(EC hob6.bsl (HS.out.below hb06)).mono ?_;rw[HD.out];rintro e w' ⟨rfl,rfl⟩)
  |(with_reducible refine FC rfl (.tmp 6) rfl w3.heap.size rfl L hrl _ ud ?_)
  |(with_reducible refine CO rfl (.tmp 2) (.tmp 33) rfl w.heap.size rfl L Dc rfl hrl rfl _ hr6 ?_;intro w7 hw7 Vm))
 exact Bv (Lg rfl _ _ w.heap.size _ _ _ hrl rfl Vm rfl) rfl ⟨rfl,hb06.trans (hw7.below (AB _))⟩
theorem YA{w:I}{v:Aq}{l:List Int}(hs:BSl w v l)(h:FG l)(hf:D7 (RY (l.take 252))=AL)(Sg:GD (RY (l.take 252))≠l):AA Ae 119 #[v] w fun e w'=>e=Ag (AO #[Gy Dc,J Y 18])/\At w.heap.size w w':=by
 have hb1:=Ay w (Cd Dc 149);have hr1:=Aw w (Cd Dc 149);obtain⟨w1,hw1⟩:=nm (w.alloc (Cd Dc 149));rw[<- hw1] at hb1 hr1;have h1:w.alloc (Ar #[J Y 0,J Y 0,J Y 0,J Y 0,J Y 0,J Y 0,J Y 0,J Y 0,J Y 0,J Y 0,J Y 0,J Y 0] 149)=w1:=by rw[hw1];rfl
 have SG:w.heap.size<w1.heap.size:=by rw[hw1];simp
 have H1:=vJ h1;have HR1:=vJ hr1;have HS:=vJ hs;have HO:=vJ (Kt (hs.below hb1) h);have hlt:=Nt h;have Oi:=Yj (Ez hs.1 252);have hrl:=Ir (l.take 252);obtain⟨c,hc⟩:=nm (l.take 252);rw[<- hc] at hlt HO hf Oi hrl Sg;obtain⟨L,hL⟩:=nm (RY c);rw[<- hL] at hf Oi hrl Sg;have HL:=vJ hL;have HLT:=vJ hlt;have HEN:=vJ (bZ hrl Oi hf);have HD:Hid (decide (GD L=l)=AI):=vJ (AG Sg);clear hs h h1 hw1 hr1 hc hf Oi hlt hL Sg;go_enter Tryz.func119,Tryz.ntmps119
 go_wp2_with (first
  |(go_at_call 168;rw[H1.out];refine HO.out.mono ?_;rintro e w2 ⟨v2,rfl,hob2,hb2⟩)
  |(go_at_call 169;refine(Rl hob2.bsl HLT.out).mono ?_;rw[<- HL.out];rintro e w3 ⟨rfl,hb3⟩)
  |(with_reducible refine CO rfl (.tmp 6) (.tmp 18) rfl w3.heap.size rfl L Dc rfl hrl rfl _ (Aw w3 _) ?_
    intro w5 hw5 E3;have hb5:At w3.heap.size w3 w5:=(Ay w3 _).trans (hw5.below (AB _)))
  |(with_reducible refine FC rfl (.tmp 6) rfl w3.heap.size rfl L hrl _ E3 ?_)
  |(go_at_call 170;refine(HEN.out _).mono ?_;rintro e w6 ⟨v6,rfl,hob6,hb6⟩
    have JG:=AH SG hb2.size;have J7:=AH JG hb3.size;have ii:=AH J7 hb5.size;have hr6:w6.heap[w.heap.size]? =H (Cd Dc 149):=(by rw[hb6.block _ ii,hb5.block _ J7,hb3.block _ JG,hb2.block _ SG];exact HR1.out);have ud:w6.heap[w3.heap.size]? =H (Cd L 149):=(by rw[hb6.block _ (Al.1 E3).1];exact E3);have hb26:At w2.heap.size w2 w6:=(hb3.trans (hb5.mono hb3.size)).trans (hb6.mono (AT hb3.size hb5.size));have hb06:At w.heap.size w w6:=(hb1.trans (hb2.mono hb1.size)).trans (hb26.mono (AT hb1.size hb2.size));clear JG J7 ii hb26)
  |(go_at_call 156;refine(EC hob6.bsl (HS.out.below hb06)).mono ?_;rw[HD.out];rintro e w' ⟨rfl,rfl⟩)
  |(with_reducible refine CO rfl (.tmp 2) (.tmp 32) rfl w.heap.size rfl Dc Dc rfl rfl rfl _ hr6 ?_;intro w7 hw7 Vm))
 exact Bv (Lg rfl _ _ w.heap.size _ _ _ rfl rfl Vm rfl) rfl ⟨rfl,hb06.trans (hw7.below (AB _))⟩
theorem mM{w:I}{v:Aq}{l:List Int}(hs:BSl w v l):AA Ae 119 #[v] w (qf l w):=by
 by_cases h:FG l
 . by_cases hf:D7 (RY (l.take 252))=AL
   . by_cases Sg:GD (RY (l.take 252))=l
     . exact(fS hs h hf Sg).mono fun e w' ⟨h1,h2⟩=>⟨h2,AN ⟨⟨h,hf,Sg⟩,h1⟩⟩
     . exact(YA hs h hf Sg).mono fun e w' ⟨h1,h2⟩=>⟨h2,Ba ⟨fun hh=>Sg hh.2.2,h1⟩⟩
   . exact(jz hs h (by simpa using hf)).mono fun e w' ⟨h1,h2⟩=>⟨h2,Ba ⟨fun hh=>hf hh.2.1,h1⟩⟩
 . exact(jT hs h).mono fun e w' ⟨h1,h2⟩=>⟨h2,Ba ⟨fun hh=>h hh.1,h1⟩⟩
def cF(x:Aq × Int):List Aq:=[x.1,J Y x.2]
theorem Y7(x:Aq × Int):(cF x).length=2:=rfl
def vh(g j:Nat):Aq × Int:=(G (H ⟨g,j,Z⟩),(w7 j:Int))
def RU(g k:Nat):List (Aq × Int):=(Co 14).map fun j=>if j<k then vh g j else (G Z,0)
theorem Hq(g k:Nat):(RU g k).length=14:=by simp[RU]
theorem dW(g k:Nat):(RU g k).set k (vh g k)=RU g (k+1):=by
 apply Bi (by rw[AJ,Hq,Hq]);intro i h1 h2;simp only[RU,Cz,Ct,Cg];by_cases e:k=i
 . subst e;rw[AC rfl,AC (by omega)]
 . rw[AE e]
   by_cases h:i<k
   . rw[AC h,AC (by omega)]
   . rw[AE h,AE (by omega)]
def Hv(g k:Nat):List Aq:=(RU g k).flatMap cF
theorem GY(g k:Nat):(Hv g k).length=28:=by rw[Hv,CK (s:=2) (fun x _=>Y7 x),Hq]
theorem Xr(g k:Nat):∀ v∈Hv g k,v.oneCell'=AL:=fun v hv=>by
 obtain⟨x,hx,hv⟩:=List.mem_flatMap.1 hv;obtain⟨j,_,rfl⟩:=Cq.1 hx;simp[cF] at hv;rcases hv with rfl|rfl
 . split <;> rfl
 . rfl
theorem qA:(Ae.info? 244).map (·.size)=H 2:=by kernel_rfl
theorem Qd:(Ae.info? 245).map (·.size)=H 28:=by kernel_rfl
theorem mQ{fn:Func}{p:Tmp}(h:fn.results=#[.cell p 245])(tmps:Array Aq)(w:I)(g:Nat)(T:TypeId)(C:List Aq)(hC:C.length=28)(hp:tmps.getD p undef=G (H ⟨g,0,Z⟩))(hg:w.heap[g]? =H (Ar C.toArray T (0,0))):
 (results fn tmps).run Ae w=.ok (BD C.toArray) w:=
 results_cell_row h tmps w g T _ (0,0) _ hp hg Tryz.underlying245 rfl (by rw[Qd];simp[hC])
theorem PK{ops:Array BS}{rest:List BS}{o:BS}{a:Act}{w:I}{Q:Exit->Act->I->Prop}(Dn:o.guard=Z)(x y:Operand)(ho:o.op=.store 245 x y)
 (g:Nat) (hx:a.eval x=G (H ⟨g,0,Z⟩)) (C D:List Aq) (hy:a.eval y=BD C.toArray) (hC:C.length=28) (hD:D.length=28) (h1:∀ v∈C,v.oneCell'=AL) (T:TypeId) (hg:w.heap[g]? =H (Ar D.toArray T (0,0)))
 (h:∀ w',Wrote w w' g->w'.heap[g]? =H (Ar C.toArray T (0,0))->Cn Ae ops Q rest (a.put o.dst undef) w'):Cn Ae ops Q (o :: rest) a w:=
 Do Dn 245 x y ho g _ hx hy T _ hg (by rw[Qd];simp[hC]) (by simp[hC,hD]) (Dv h1) (h _ (Wrote.setRow _ _ _) (Cr _ _ _ _ _ _ hg))
theorem Ke{ops:Array BS}{rest:List BS}{op:BS}{a:Act}{w:I}{Q:Exit->Act->I->Prop}(Dn:op.guard=Z)(x y:Operand)(ho:op.op=.store 244 x y)
 (b g k:Nat) (hk:k<14) (m:Int) (hm:m=(w7 k:Int)) (hx:a.eval x=G (H ⟨b,k*2,Z⟩)) (hy:a.eval y=BD #[G (H ⟨g,k,Z⟩),J Y m])
 (hg:w.heap[b]? =H (Ar (Hv g k).toArray 245 (0,0)))
 (h:∀ w',Wrote w w' b->w'.heap[b]? =H (Ar (Hv g (k+1)).toArray 245 (0,0))->Cn Ae ops Q rest (a.put op.dst undef) w'):Cn Ae ops Q (op :: rest) a w:=by
 subst hm;refine Fh (f:=cF) (s:=2) Dn 244 x y ho qA b k (RU g k) (vh g k) 245 hx hy hg (by rw[Hq];exact hk) (fun x _=>Y7 x) (Y7 _) ?_ fun w' h1 h2=>h w' h1 ?_
 . intro v hv
   simp[cF,vh] at hv;rcases hv with rfl|rfl <;> rfl
 . rw[dW] at h2;exact h2
theorem g7(g:Nat):Hv g 0=[G Z,J Y 0,G Z,J Y 0,G Z,J Y 0,G Z,J Y 0,G Z,J Y 0,G Z,J Y 0,G Z,J Y 0,G Z,J Y 0,G Z,J Y 0,G Z,J Y 0,G Z,J Y 0,G Z,J Y 0,G Z,J Y 0,G Z,J Y 0]:=rfl
theorem RC(g:Nat):Hv g 3=[G (H ⟨g,0,Z⟩),J Y 1,G (H ⟨g,1,Z⟩),J Y 1,G (H ⟨g,2,Z⟩),J Y 4,G Z,J Y 0,G Z,J Y 0,G Z,J Y 0,G Z,J Y 0,G Z,J Y 0,G Z,J Y 0,G Z,J Y 0,G Z,J Y 0,G Z,J Y 0,G Z,J Y 0,G Z,J Y 0]:=rfl
theorem QA{W:I}{g:Nat}{T:TypeId}{D C:List Aq}(hg:W.heap[g]? =H (Ar D.toArray T (0,0)))(hl:C.length=D.length)(h1:∀ v∈C,v.oneCell'=AL):
 (W.setCells g 0 C).heap[g]? =H (Ar C.toArray T (0,0))/\Wrote W (W.setCells g 0 C) g:=by
 have e:=DH hg (o:=0) (vs:=C) (by omega) h1;rw[e,EW D C hl];exact⟨Cr _ _ _ _ _ _ hg,Wrote.setRow _ _ _⟩
theorem Qy(w:I)(g:Nat):AA Ae 172 #[G (H ⟨g,0,Z⟩)] w fun e w'=>e=Ag (BD (Hv g 14).toArray)/\At w.heap.size w w':=by
 have Kh:=Aw w (Ar (Hv g 0).toArray 245);have hb0:=Ay w (Ar (Hv g 0).toArray 245);obtain⟨w1,hw1⟩:=nm (w.alloc (Ar (Hv g 0).toArray 245));rw[<- hw1] at Kh hb0;have En:w1.heap.size=w.heap.size+1:=by rw[hw1];simp
 rw[g7] at hw1;have HW1:=vJ hw1;have HR0:=vJ Kh;have hr1:=Aw w1 (Ar (Hv g 0).toArray 245);have hb1:=Ay w1 (Ar (Hv g 0).toArray 245);have hth:(w1.alloc (Ar #[G Z,J Y 0,G Z,J Y 0,G Z,J Y 0,G Z,J Y 0,G Z,J Y 0,G Z,J Y 0,G Z,J Y 0,G Z,J Y 0,G Z,J Y 0,G Z,J Y 0,G Z,J Y 0,G Z,J Y 0,G Z,J Y 0,G Z,J Y 0] 245)).drew.there w1.heap.size 0 ([G (H ⟨g,0,Z⟩),J Y 1,G (H ⟨g,1,Z⟩),J Y 1,G (H ⟨g,2,Z⟩),J Y 4,G Z,J Y 0,G Z,J Y 0,G Z,J Y 0,G Z,J Y 0,G Z,J Y 0,G Z,J Y 0,G Z,J Y 0,G Z,J Y 0,G Z,J Y 0,G Z,J Y 0,G Z,J Y 0]:List Aq).toArray.size:=DX (w:=(w1.alloc (Ar #[G Z,J Y 0,G Z,J Y 0,G Z,J Y 0,G Z,J Y 0,G Z,J Y 0,G Z,J Y 0,G Z,J Y 0,G Z,J Y 0,G Z,J Y 0,G Z,J Y 0,G Z,J Y 0,G Z,J Y 0,G Z,J Y 0,G Z,J Y 0] 245)).drew) (t:=245) (cur:=Hv g 0) hr1 (by rw[GY];exact AB _);have hone:∀ v∈([G (H ⟨g,0,Z⟩),J Y 1,G (H ⟨g,1,Z⟩),J Y 1,G (H ⟨g,2,Z⟩),J Y 4,G Z,J Y 0,G Z,J Y 0,G Z,J Y 0,G Z,J Y 0,G Z,J Y 0,G Z,J Y 0,G Z,J Y 0,G Z,J Y 0,G Z,J Y 0,G Z,J Y 0,G Z,J Y 0]:List Aq),v.oneCell'=AL:=by have:=Xr g 3;rw[RC] at this;exact this
 have hset:=QA (W:=(w1.alloc (Ar #[G Z,J Y 0,G Z,J Y 0,G Z,J Y 0,G Z,J Y 0,G Z,J Y 0,G Z,J Y 0,G Z,J Y 0,G Z,J Y 0,G Z,J Y 0,G Z,J Y 0,G Z,J Y 0,G Z,J Y 0,G Z,J Y 0,G Z,J Y 0] 245)).drew) (g:=w1.heap.size) (T:=245) (D:=Hv g 0) (C:=[G (H ⟨g,0,Z⟩),J Y 1,G (H ⟨g,1,Z⟩),J Y 1,G (H ⟨g,2,Z⟩),J Y 4,G Z,J Y 0,G Z,J Y 0,G Z,J Y 0,G Z,J Y 0,G Z,J Y 0,G Z,J Y 0,G Z,J Y 0,G Z,J Y 0,G Z,J Y 0,G Z,J Y 0,G Z,J Y 0]) hr1 rfl hone;have hb12:=hb1.drew.trans (hset.2.below (AB _));have HB12:=vJ (hb0.trans (hb12.mono hb0.size));have HBX:=vJ hb12;have HR3:=vJ hset.1;have HSZ:=vJ En;clear hw1 Kh hset hr1 hb1 hb12 En;have hinf:(Ae.info? 245).map (·.size)=H ([G (H ⟨g,0,Z⟩),J Y 1,G (H ⟨g,1,Z⟩),J Y 1,G (H ⟨g,2,Z⟩),J Y 4,G Z,J Y 0,G Z,J Y 0,G Z,J Y 0,G Z,J Y 0,G Z,J Y 0,G Z,J Y 0,G Z,J Y 0,G Z,J Y 0,G Z,J Y 0,G Z,J Y 0,G Z,J Y 0]:List Aq).toArray.size:=Qd;go_enter Tryz.func172,Tryz.ntmps172;go_wp2;rw[<- HW1.out];go_region_held3 (fun W=>True) (trivial) (fail)
 generalize (w1.alloc (Ar #[G Z,J Y 0,G Z,J Y 0,G Z,J Y 0,G Z,J Y 0,G Z,J Y 0,G Z,J Y 0,G Z,J Y 0,G Z,J Y 0,G Z,J Y 0,G Z,J Y 0,G Z,J Y 0,G Z,J Y 0,G Z,J Y 0,G Z,J Y 0] 245)).drew.setCells w1.heap.size 0 [G (H ⟨g,0,Z⟩),J Y 1,G (H ⟨g,1,Z⟩),J Y 1,G (H ⟨g,2,Z⟩),J Y 4,G Z,J Y 0,G Z,J Y 0,G Z,J Y 0,G Z,J Y 0,G Z,J Y 0,G Z,J Y 0,G Z,J Y 0,G Z,J Y 0,G Z,J Y 0,G Z,J Y 0,G Z,J Y 0]=w2 at HB12 HBX HR3 |-
 rw[<- RC] at HR3;have ue:w2.heap[w.heap.size]? =H (Ar (Hv g 0).toArray 245 (0,0)):=(HBX.out.block _ (by have:=HSZ.out;omega)).trans HR0.out;have HR02:=vJ ue;have hb2:=HB12.out;obtain⟨b,hb⟩:=nm w1.heap.size;have hne:w.heap.size≠b:=by have:=HSZ.out;omega
 have Mi:w.heap.size<=b:=by have:=HSZ.out;omega
 rw[<- hb] at HR3 |-
 clear hinf hth hone ue hb HBX HB12 HR0 HW1 HSZ hb0;go_wp2;go_loopw [18] (fun i wr=>∃ j:Nat,j<=10/\i=J Y j/\Hid (wr.heap[b]? =H (Ar (Hv g (3+j)).toArray 245 (0,0)))/\Hid (wr.heap[w.heap.size]? =H (Ar (Hv g 0).toArray 245 (0,0)))/\At w.heap.size w wr) (fun i _=>10-(intOf i).toNat)
 case atStart=>exact⟨0,by omega,rfl,HR3,HR02,hb2⟩
 case round=>
  obtain⟨j,hj,rfl,HR,HRZ,hbr⟩:=hrel;clear HR3 HR02 hb2;by_cases hlt:j<10
  . have ej:(j:Int)<10:=by omega
    have GN:(2:Int)=(w7 (3+j):Int):=(by simp[ON]);have HW2:=vJ GN;clear GN;go_wp2_with (with_reducible refine Ke rfl (.tmp 29) (.tmp 28) rfl b g (3+j) (by omega) 2 HW2.out rfl rfl HR.out ?_;intro w4 hw4 hr4)
    go_roundw
    case rel=>exact⟨j+1,by omega,by go_num,hr4,(hw4.2.2.2.2 _ hne).trans HRZ.out,hbr.trans (hw4.below Mi)⟩
    case measure=>simp[intOf];omega
  . obtain rfl:j=10:=by omega
    go_wp2_with (first
     |(with_reducible refine Ke rfl (.tmp 35) (.tmp 34) rfl b g 13 (by omega) 2 rfl rfl rfl HR.out ?_;intro w4 hw4 hr4
       have Si:=(hw4.2.2.2.2 _ hne).trans HRZ.out)
     |(with_reducible refine wpList_load_row rfl 245 (.tmp 3) rfl b rfl 245 _ (0,0) _ hr4 Tryz.underlying245 rfl (by rw[Qd];simp[GY]) ?_)
     |(with_reducible refine PK rfl (.tmp 2) (.tmp 36) rfl w.heap.size rfl (Hv g 14) (Hv g 0) rfl (GY g 14) (GY g 0) (Xr g 14) _ Si ?_;intro w5 hw5 E3))
    exact Bv (mQ rfl _ _ w.heap.size _ _ (GY g 14) rfl E3) rfl ⟨rfl,(hbr.trans (hw4.below Mi)).trans (hw5.below (AB _))⟩
theorem bI(W:I)(g j:Nat)(hj:j<14):(Instr.index 245 (BD (Hv g 14).toArray) (J Y (j:Int))).run Ae W=.ok (BD #[G (H ⟨g,j,Z⟩),J Y (w7 j:Int)]) W:=by
 have e:Hv g 14=[G (H ⟨g,0,Z⟩),J Y 1,G (H ⟨g,1,Z⟩),J Y 1,G (H ⟨g,2,Z⟩),J Y 4,G (H ⟨g,3,Z⟩),J Y 2,G (H ⟨g,4,Z⟩),J Y 2,G (H ⟨g,5,Z⟩),J Y 2,G (H ⟨g,6,Z⟩),J Y 2,G (H ⟨g,7,Z⟩),J Y 2,G (H ⟨g,8,Z⟩),J Y 2,G (H ⟨g,9,Z⟩),J Y 2,G (H ⟨g,10,Z⟩),J Y 2,G (H ⟨g,11,Z⟩),J Y 2,G (H ⟨g,12,Z⟩),J Y 2,G (H ⟨g,13,Z⟩),J Y 2]:=rfl;rw[e];have a1:=Tryz.isAgg244;have z1:=Tryz.sizeOf244;have:j=0\/j=1\/j=2\/j=3\/j=4\/j=5\/j=6\/j=7\/j=8\/j=9\/j=10\/j=11\/j=12\/j=13:=by omega
 rcases this with rfl|rfl|rfl|rfl|rfl|rfl|rfl|rfl|rfl|rfl|rfl|rfl|rfl|rfl <;> simp[Instr.index,C2 Tryz.underlying245,asIntOf,go_sem,a1,z1] <;> rfl
theorem MX{w w':I}{row:Option Nat}(h:w.grownBy w' row)(b o:Nat)(hb:b<w.heap.size)(hne:∀ k,row=H k->k≠b):w'.cell? ⟨b,o,Z⟩=w.cell? ⟨b,o,Z⟩:=by
 apply Bh;exact h.block b hb (fun e=>hne b e.symm rfl)
theorem NK{ops:Array BS}{o:BS}{a:Act}{w:I}{K:Act->I->Prop}{Q:Exit->Act->I->Prop}{E:Prop}(Dn:o.guard=Z)(s x:Operand)
 (ho:o.op=.call { callee:=.builtin .append,args:=#[s,x],argTypes:=#[49,49] })
 (B:Nat) (v:Aq) (l:List Int) (hs:a.eval s=v) (hown:OB w B v l) (u:Aq) (m:List Int) (hx:a.eval x=u) (hr:BSl w u m) (hm:0<m.length)
 (hlen:l.length+m.length<=140737488355328) (hB:B<=w.heap.size)
 (h:∀ v' w',OB w' B v' (l ++ m)->At B w w'->w.grownBy w' v.ownBlock->K (a.put o.dst v') w'):
 if Region.wanted o (yielded ops a.tmps)=AL then BS.wp Ae o a w K Q else E:=by
 have hw:Region.wanted o (yielded ops a.tmps)=AL:=by simp[Region.wanted,Dn]
 rw[AC hw];obtain⟨i,h2,h3,h4,h5⟩:=By F7;obtain⟨ao,cap,rfl,Cm⟩:=hr.shape;have hby:=CS hown.1 hr.1;have e1:(l ++ m).length=l.length+m.length:=Ax;have e2:(l ++ m).map (J .u8)=l.map (J .u8) ++ m.map (J .u8):=Cv;cases ao with
 |none=>
  rcases hr.2 with⟨_,hl⟩| ⟨_,_,hv,_⟩
  . rw[hl] at hm;simp at hm
  . simp at hv
 |some ad=>
  have CX:∀ j v,(m.map (J .u8))[j]? =H v->w.cell? (ad.add j)=H v:=by
   intro j v hj;have MY:j<m.length:=by simpa using (Bj.1 hj).1
   obtain⟨ad',he,hc⟩:=ED hr (fun _ _=>rfl) m.length (by simp;omega);obtain rfl:ad=ad':=by simpa using he
   exact hc j v (by simpa using hj)
  refine wp_append_own w s x 49 ho B 5 i (J .u8 0) 1 1 Tryz.underlying49 h2 h3 h4 h5 rfl (by decide) v l.length _ hs hown.2 ad m.length cap _ hx (by simp) CX (ints_oneCell _ _) (by simp only[maxLen];omega) (by omega) hB fun v' w' h6 h7 _=>?_
  exact h v' w' ⟨hby,by rw[e1,e2];exact h6⟩ ((AM _ _).grown h7 hB fun k hk=>(hown.2.lt k hk).1) h7
theorem mV{w:I}{B:Nat}{v:Aq}{l:List Int}(h:OB w B v l)(n:Nat)(hn:l.length=n)(h0:0<n):∃ g cap,v=Ak (H ⟨g,0,Z⟩) n cap:=by
 rcases h.2.2 with⟨_,h1⟩| ⟨g,cap,cur,hv,_⟩
 . omega
 . exact⟨g,cap,by rw[hv,hn]⟩
theorem gQ(kd ln sz d0 d1 d2 d3 d4 d5 d6 d7 d8 d9 mp:Int)(L:List Int)(M5:L=[kd,ln,sz,d0,d1,d2,d3,d4,d5,d6,d7,d8,d9,mp])(hf:El L=AL)(w:I):AA Ae 125 #[BD #[J Y kd,J Y ln,J Y sz,J Y d0,J Y d1,J Y d2,J Y d3,J Y d4,J Y d5,J Y d6,J Y d7,J Y d8,J Y d9,J Y mp]] w (JZ w (NZ L)):=by
 have hL:L.length=14:=by rw[M5];rfl
 have hb1:=Ay w (iO L 80);have hr1:=Aw w (iO L 80);obtain⟨W1,hW1⟩:=nm (w.alloc (iO L 80));rw[<- hW1] at hb1 hr1;have En:w.heap.size<W1.heap.size:=by rw[hW1];simp
 have HZ1:Hid (W1.heap.size=w.heap.size+1):=vJ (by rw[hW1];simp);have H2:Hid (w.alloc (Ar #[J Y kd,J Y ln,J Y sz,J Y d0,J Y d1,J Y d2,J Y d3,J Y d4,J Y d5,J Y d6,J Y d7,J Y d8,J Y d9,J Y mp] 80)=W1):=vJ (by rw[hW1,M5];rfl);have HR1:=vJ hr1;have HF:=vJ (Iv hL hf);have HL:=vJ hL;obtain⟨M,Oj⟩:∃ M:Nat,M=32:=⟨_,rfl⟩;have HMI:Hid ((32:Int)=(M:Int)):=vJ (by omega);have TT:M<=1000:=by omega
 clear hW1 hr1 M5 hf hL Oj;go_enter Tryz.func125,Tryz.ntmps125
 go_wp2_with (first
  |(at_make;refine DC _ rfl _ _ rfl 0 32 0 M rfl rfl rfl HMI.out (AX _) (by omega) ?_)
  |(go_at_call 172
    rw[H2.out];have hob2:=Uf W1 M TT;have hb2:At W1.heap.size W1 (W1.alloc (Ar (A3 M (J .u8 0)) 5)):=Ay _ _;generalize W1.alloc (Ar (A3 M (J .u8 0)) 5)=w2 at hob2 hb2 |-
    refine(Qy _ _).mono ?_;rintro e w3 ⟨rfl,hb3⟩))
 rw[HZ1.out] at hob2;have hb23:At W1.heap.size W1 w3:=hb2.trans (hb3.mono hb2.size);have hb03:At w.heap.size w w3:=hb1.trans (hb23.mono (BO En));have hr3:w3.heap[w.heap.size]? =H (iO L 80):=(hb23.block _ En).trans HR1.out;have J7:w.heap.size<w3.heap.size:=AH En hb23.size;obtain⟨g,hg⟩:=nm w.heap.size;rw[<- hg] at hr3 J7 |-
 have hc3:∀ j,j<14->w3.cell? ⟨g,j,Z⟩=H (J Y (L.getD j 0)):=fun j hj=>GC hr3 j (by rw[HL.out];exact hj)
 have HIX:=vJ (fun W j hj=>bI W g j hj);obtain⟨F,hF⟩:=nm ((Hv g 14).toArray);rw[<- hF] at HIX |-
 have HOB3:=vJ ((hob2.below hb3).more (B':=g+1) (by have:=HZ1.out;omega));rw[<- hg] at HOB3;have HC:=vJ hc3;have uf:At g w w3:=by rw[hg];exact hb03
 have HG:=vJ hg;clear hb03 hg hr3 hc3 hF hb23 hb3 hb2 hob2 hb1 En;go_loopw [3,8] (fun u i wr=>∃ j:Nat,j<=14/\i=J Y j/\Hid (OB wr (g+1) u (Gn L j))/\Hid (At g w wr)/\w3.heap.size<=wr.heap.size/\Hid (∀ j,j<14->wr.cell? ⟨g,j,Z⟩=H (J Y (L.getD j 0)))) (fun _ i _=>14-(intOf i).toNat)
 case atStart=>exact⟨0,by omega,rfl,HOB3,uf,AB _,HC⟩
 case round=>
  clear HOB3 uf HC;obtain⟨j,hj,rfl,HOB,HBR,En,HC⟩:=hrel;by_cases hlt:j<14
  . have ip:=HIX.out wr j hlt
    have hx0:=HF.out j hlt;have Oc:=HC.out j hlt;have Hb:Gn L (j+1)=Gn L j ++ BN (L.getD j 0) (w7 j):=rfl;have hwd:=kT j;have hlen:=EO L j;have ug:=pz j hlt;have tR:=F8 hwd.2;have e4:(256:Int) ^ 4=4294967296:=rfl;obtain⟨x,hx⟩:=nm (L.getD j 0);obtain⟨k,hk⟩:=nm (w7 j);rw[<- hx] at hx0 Oc Hb;rw[<- hk] at hwd ip Hb hx0 ug tR;have hx1:x<4294967296:=(by omega);have Qb:=hx0.1;have HCS:=vJ Hb;have HPU:=vJ (fun W=>FX (IL W) (by simp) x (k:Int) k (by omega) (by omega) rfl Qb (by omega));have HLE:Hid ((Gn L j).length+(BN x k).length<=140737488355328):=vJ (by rw[hlen,Bc];omega);have HKL:Hid (0<(BN x k).length):=vJ (by rw[Bc];omega);have ej:(j:Int)<14:=(by omega);have XY:g<wr.heap.size:=AH J7 En;clear hx hk Hb hx0 hlen ug tR e4;go_wp2;have hbx:=Ay wr (Ar #[G (H ⟨g,j,Z⟩),J Y (k:Int)] 244);have Sh:=Aw wr (Ar #[G (H ⟨g,j,Z⟩),J Y (k:Int)] 244);generalize wr.alloc (Ar #[G (H ⟨g,j,Z⟩),J Y (k:Int)] 244)=W5 at hbx Sh |-
    have c0:W5.cell? ⟨wr.heap.size,0,Z⟩=H (G (H ⟨g,j,Z⟩)):=(by rw[Az _ _ _ _ _ _ Sh];rfl);have c1:W5.cell? ⟨wr.heap.size,1,Z⟩=H (J Y (k:Int)):=(by rw[Az _ _ _ _ _ _ Sh];rfl);have c2:W5.cell? ⟨g,j,Z⟩=H (J Y x):=(by rw[hbx.cell XY];exact Oc);obtain⟨q,hq⟩:=nm wr.heap.size;have Vn:q<W5.heap.size:=(by rw[hq];exact(Al.1 Sh).1);have TU:g<W5.heap.size:=(by omega);have hown:=HOB.out.2.lt;have HNE:=vJ (fun k hk=>(show k≠q/\k≠g by have h1:=hown k hk;omega));have pJ:IntKind.u64.wrap x=x:=Dh _ (by omega);have HBX:=vJ (A2 hbx 1);have HU:=vJ (HOB.out.below HBX.out);rw[<- hq] at c0 c1 |-
    have d0:W5.drew.cell? ⟨q,0,Z⟩=H (G (H ⟨g,j,Z⟩)):=c0;have d1:W5.drew.cell? ⟨q,1,Z⟩=H (J Y (k:Int)):=c1;have d2:W5.drew.cell? ⟨g,j,Z⟩=H (J Y x):=c2;change Hid (OB W5.drew _ _ _) at HU;change Hid (At wr.heap.size wr W5.drew) at HBX;clear hbx Sh Oc ip hq c0 c1 c2 hown
    go_region_held3 (fun W=>W.cell? ⟨q,0,Z⟩=H (G (H ⟨g,j,Z⟩))/\W.cell? ⟨q,1,Z⟩=H (J Y (k:Int))/\W.cell? ⟨g,j,Z⟩=H (J Y x)) (first|exact⟨f0,f1,f2⟩|exact⟨e0,e1,e2⟩|exact⟨d0,d1,d2⟩) (first
     |(go_at_call 158;(with_reducible refine(HPU.out _).mono ?_);rintro e w6 ⟨v6,rfl,hob6,hb6⟩
       have HB6:=vJ (HBX.out.trans (hb6.mono HBX.out.size));have e0:=(hb6.cell (p:=⟨q,0,Z⟩) Vn).trans d0;have e1:=(hb6.cell (p:=⟨q,1,Z⟩) Vn).trans d1;have e2:=(hb6.cell (p:=⟨g,j,Z⟩) TU).trans d2;have lR:q<w6.heap.size:=AH Vn hb6.size;have rI:g<w6.heap.size:=AH TU hb6.size)
     |(refine NK rfl (.tmp 11) (.tmp 19) rfl (g+1) _ (Gn L j) rfl (HU.out.below hb6) v6 (BN x k) rfl hob6.bsl HKL.out HLE.out rI ?_
       intro v7 w7 hob7 hb7 sO;have f0:=(MX sO q 0 lR (fun k hk=>(HNE.out k hk).1)).trans e0;have f1:=(MX sO q 1 lR (fun k hk=>(HNE.out k hk).1)).trans e1;have f2:=(MX sO g j rI (fun k hk=>(HNE.out k hk).2)).trans e2))
    go_wp2;go_roundw
    case rel=>
     have h67:At g wr w7:=(HB6.out.mono (BO XY)).trans (hb7.mono (Nat.le_succ g));refine⟨j+1,by omega,by go_num,?_,HBR.out.trans h67,AT En h67.size,fun i hi=>?_⟩
     . show OB _ _ _ (Gn L (j+1))
       rw[HCS.out];exact hob7
     . rw[hb7.cell (p:=⟨g,i,Z⟩) (Nat.lt_succ_self g),HB6.out.cell (p:=⟨g,i,Z⟩) XY];exact HC.out i hi
    case measure=>simp[intOf];omega
  . obtain rfl:j=14:=by omega
    obtain⟨gq,cq,rfl⟩:=mV HOB.out 28 (EO L 14) (by decide);have Mi:g+1<=wr.heap.size:=(by omega);have uh:=EO L 14;rw[qF] at uh;have HL28:Hid ((Gn L 14).length+4<=140737488355328):=vJ (by omega);clear uh;go_wp2_with (at_builtin;refine Ev wr rfl (.tmp 22) (.tmp 25) rfl (g+1) _ (Gn L 14) rfl HOB.out 4 4 rfl rfl HL28.out Mi ?_;intro v8 w8 hob8 hb8)
    go_ret;have hbf:=HBR.out.trans (hb8.mono (Nat.le_succ g));have eg:=HG.out;exact⟨_,rfl,hob8.more (by omega),by rw[<- eg];exact hbf⟩
theorem gZ{L:List Int}(hL:L.length=14)(hf:El L=AL)(w:I):AA Ae 125 #[BD (iC L).toArray] w (JZ w (NZ L)):=by
 match L,hL with
 |[kd,ln,sz,d0,d1,d2,d3,d4,d5,d6,d7,d8,d9,mp],_=>exact gQ kd ln sz d0 d1 d2 d3 d4 d5 d6 d7 d8 d9 mp _ rfl hf w
theorem YU:(Ae.info? 80).map (·.size)=H 14:=by kernel_rfl
theorem DA{ops:Array BS}{rest:List BS}{o:BS}{a:Act}{w:I}{Q:Exit->Act->I->Prop}(Dn:o.guard=Z)(T:TypeId)(x y:Operand)(ho:o.op=.store T x y)
 (g:Nat) (hx:a.eval x=G (H ⟨g,0,Z⟩)) (L D:List Int) (hy:a.eval y=BD (iC L).toArray) (hLD:D.length=L.length) (hi:(Ae.info? T).map (·.size)=H L.length) (T':TypeId) (hg:w.heap[g]? =H (iO D T'))
 (h:∀ w',Wrote w w' g->w'.heap[g]? =H (iO L T')->Cn Ae ops Q rest (a.put o.dst undef) w'):Cn Ae ops Q (o :: rest) a w:=
 Do Dn T x y ho g _ hx hy T' _ hg (by rw[hi];simp[iC]) (by simp[iC,hLD]) (Dv (QS L)) (h _ (Wrote.setRow _ _ _) (Cr _ _ _ _ _ _ hg))
def NSl(w:I)(v:Aq)(O:List (List Int)):Prop:=
 Gc O/\((v=Ak Z 0 0/\O=[])\/∃ a cap,v=Ak (H a) O.length cap/\∀ j,j<O.length->a.block<w.heap.size/\a.spot=Z/\w.rangeAt a.block (a.off+j*14) (iC (O.getD j [])))
theorem NSl.open'{w:I}{v:Aq}{O:List (List Int)}(h:NSl w v O):∃ ao cap,v=Ak ao O.length cap/\(0<O.length->∃ b off,ao=H ⟨b,off,Z⟩/\b<w.heap.size/\
 ∀ j,j<O.length->w.rangeAt b (off+j*14) (iC (O.getD j []))):=by
 rcases h.2 with⟨hv,hk⟩| ⟨⟨b,off,spot⟩,cap,hv,hc⟩
 . exact⟨Z,0,by rw[hv,hk];rfl,fun h=>by rw[hk] at h;simp at h⟩
 . refine⟨_,cap,hv,fun h0=>?_⟩
   obtain⟨h1,h2,_⟩:=hc 0 h0;obtain rfl:spot=Z:=h2;exact⟨b,off,rfl,h1,fun j hj=>(hc j hj).2.2⟩
theorem NSl.shape{w:I}{v:Aq}{O:List (List Int)}(h:NSl w v O):∃ ao cap,v=Ak ao O.length cap:=by
 obtain⟨ao,cap,hv,_⟩:=h.open';exact⟨ao,cap,hv⟩
theorem NSl.at{w:I}{v:Aq}{O:List (List Int)}(h:NSl w v O)(h0:0<O.length):∃ b off cap,v=Ak (H ⟨b,off,Z⟩) O.length cap/\b<w.heap.size/\∀ j,j<O.length->w.rangeAt b (off+j*14) (iC (O.getD j [])):=by
 obtain⟨ao,cap,hv,hc⟩:=h.open';obtain⟨b,off,rfl,h1,h2⟩:=hc h0;exact⟨b,off,cap,hv,h1,h2⟩
theorem lA{w:I}(ao:Option Addr)(len cap:Nat)(h:len≠8):AA Ae 83 #[Ak ao len cap] w fun e w'=>e=Ag (AO #[Ak Z 0 0,J Y 1])/\w=w':=by
 have hne:((len:Int) != 8)=AL:=by simp;omega
 go_enter Tryz.func83,Tryz.ntmps83;go_wp2;go_ret2;exact⟨rfl,rfl⟩
def aM(O:List (List Int))(w:I)(e:Ending)(w':I):Prop:=
 (Ho O=AL/\∃ u,e=Ag (AO #[u,J Y 0])/\OB w' w.heap.size u (GG O)/\At w.heap.size w w')\/
 (Ho O=AI/\e=Ag (AO #[Ak Z 0 0,J Y 1])/\At w.heap.size w w')
theorem qS{w:I}{v:Aq}{O:List (List Int)}(hs:NSl w v O)(h8:O.length=8):AA Ae 83 #[v] w (aM O w):=by
 obtain⟨b,off,cap,rfl,hb,hc⟩:=hs.at (by omega);have H14:=vJ hs.1;have HYE:=vJ (Qx h8);have HNO:=vJ (fun k hk h=>bq (k:=k) h8 hk h);have H8:=vJ h8;obtain⟨M,Oj⟩:∃ M:Nat,M=256:=⟨_,rfl⟩;have HMI:Hid ((256:Int)=(M:Int)):=vJ (by omega);have TT:M<=1000:=by omega
 rw[h8] at hc |-
 have HC:=vJ hc;clear hs hc h8 Oj;go_enter Tryz.func83,Tryz.ntmps83;go_wp2_with (at_make;refine DC _ rfl _ _ rfl 0 256 0 M rfl rfl rfl HMI.out (AX _) (by omega) ?_)
 have HOB3:=vJ (Uf w M TT);have O9:At w.heap.size w (w.alloc (Ar (A3 M (J .u8 0)) 5)):=Ay _ _;generalize w.alloc (Ar (A3 M (J .u8 0)) 5)=w3 at HOB3 O9 |-
 go_loopw [4,13] (fun u i wr=>∃ k:Nat,k<=8/\i=J Y k/\Hid (OB wr w.heap.size u (E6 O k))/\Hid (∀ j,j<k->El (O.getD j [])=AL)/\At w.heap.size w wr) (fun _ i _=>8-(intOf i).toNat)
 case atStart=>exact⟨0,by omega,rfl,HOB3,fun j hj=>absurd hj (A8 _),O9⟩
 case round=>
  obtain⟨k,hk,rfl,HOB,HK,hbr⟩:=hrel;clear HOB3 O9;by_cases hlt:k<8
  . have Pb:=OI (HC.out k hlt) hbr hb
    have C6:=HNO.out k hlt;have h14:=Hx H14.out k (by rw[H8.out];exact hlt);have aA:E6 O (k+1)=E6 O k ++ NZ (O.getD k []):=rfl;obtain⟨x,hx⟩:=nm (O.getD k []);rw[<- hx] at Pb aA C6 h14;have ek:(k:Int)<8:=(by omega);have HX:=vJ hx;have HPK:=vJ aA;have HL:=vJ (Fv O k);have HN1:=vJ C6;have HRG:=vJ Pb;have HX14:Hid (zeroI.length=x.length):=vJ h14.symm;have HI14:Hid ((Ae.info? 80).map (·.size)=H x.length):=vJ (by rw[YU,h14]);have hz:(wr.alloc (Ar #[J Y 0,J Y 0,J Y 0,J Y 0,J Y 0,J Y 0,J Y 0,J Y 0,J Y 0,J Y 0,J Y 0,J Y 0,J Y 0,J Y 0] 80)).heap[wr.heap.size]? =H (iO zeroI 80):=Aw wr _;have hbz:=Ay wr (Ar #[J Y 0,J Y 0,J Y 0,J Y 0,J Y 0,J Y 0,J Y 0,J Y 0,J Y 0,J Y 0,J Y 0,J Y 0,J Y 0,J Y 0] 80);have hqz:wr.heap.size<(wr.alloc (Ar #[J Y 0,J Y 0,J Y 0,J Y 0,J Y 0,J Y 0,J Y 0,J Y 0,J Y 0,J Y 0,J Y 0,J Y 0,J Y 0,J Y 0] 80)).heap.size:=(by simp);have HZ:=vJ hz;have HBZ:=vJ hbz;have HQZ:=vJ hqz;have u1:=Tryz.underlying80;obtain⟨B,hf⟩:∃ B,El x=B:=⟨_,rfl⟩;have HF:=vJ hf;have KF:=vJ (Wy h14 B hf);have KW:=vJ (fun h=>gZ h14 (hf.trans h));clear hx aA C6 Pb h14 hz hbz hqz hf;cases B
    . go_wp2_with (first
       |(with_reducible refine BK rfl 80 (.tmp 15) rfl b (off+k*14) rfl x _ HRG.out u1 rfl HI14.out ?_)
       |(with_reducible refine DA rfl 80 (.tmp 6) (.tmp 16) rfl wr.heap.size rfl x zeroI rfl HX14.out HI14.out _ HZ.out ?_
         intro w4 hw4 hr4;have Pc:=FN hr4;have hb4:=HBZ.out.trans (hw4.below (AB _)))
       |(with_reducible refine BK rfl 80 (.tmp 6) rfl wr.heap.size 0 rfl x _ Pc u1 rfl HI14.out ?_)
       |(go_at_call 82;refine(KF.out _).mono ?_;rintro e w5 ⟨rfl,hb5⟩))
      go_ret2;exact Ba ⟨HN1.out HF.out,rfl,(hbr.trans (hb4.mono hbr.size)).trans (hb5.mono (AT hbr.size hb4.size))⟩
    . have KWT:=vJ (KW.out rfl)
      clear KW
      go_wp2_with (first
       |(with_reducible refine BK rfl 80 (.tmp 15) rfl b (off+k*14) rfl x _ HRG.out u1 rfl HI14.out ?_)
       |(with_reducible refine DA rfl 80 (.tmp 6) (.tmp 16) rfl wr.heap.size rfl x zeroI rfl HX14.out HI14.out _ HZ.out ?_
         intro w4 hw4 hr4;have Pc:=FN hr4;have hb4:=HBZ.out.trans (hw4.below (AB _)))
       |(with_reducible refine BK rfl 80 (.tmp 6) rfl wr.heap.size 0 rfl x _ Pc u1 rfl HI14.out ?_)
       |(go_at_call 82;refine(KF.out _).mono ?_;rintro e w5 ⟨rfl,hb5⟩
         have hrg5:=OI Pc hb5 (Al.1 hr4).1;have HB5:=vJ (hb4.trans (hb5.mono hb4.size));clear Pc hb4 hb5 hw4)
       |(with_reducible refine BK rfl 80 (.tmp 6) rfl wr.heap.size 0 rfl x _ hrg5 u1 rfl HI14.out ?_)
       |(go_at_call 125;refine(KWT.out _).mono ?_;rintro e w6 ⟨v6,rfl,hob6,hb6⟩
         have HB6:=vJ (HB5.out.trans (hb6.mono HB5.out.size));have HB06:=vJ (hbr.trans (HB6.out.mono hbr.size)))
       |(at_builtin
         refine BY w6 rfl _ _ rfl w.heap.size _ (E6 O k) rfl (HOB.out.below HB6.out) w6 v6 (NZ x) rfl hob6.bsl (fun _ _=>rfl) (by rw[HL.out,Lz];omega) HB06.out.size ?_;intro v7 w7 hob7 hb7 _))
      go_roundw
      case rel=>
       refine⟨k+1,by omega,by go_num,by show OB _ _ _ (E6 O (k+1));rw[HPK.out];exact hob7,fun j hj=>?_,HB06.out.trans hb7⟩;by_cases e:j=k
       . subst e;rw[<- HX.out];exact HF.out
       . exact HK.out j (by omega)
      case measure=>simp[intOf];omega
  . obtain rfl:k=8:=by omega
    go_wp2;go_ret2;exact AN ⟨HYE.out HK.out,_,rfl,HOB.out,hbr⟩
theorem VM{w:I}{v:Aq}{O:List (List Int)}(hs:NSl w v O):AA Ae 83 #[v] w (aM O w):=by
 by_cases h:O.length=8
 . exact qS hs h
 . obtain⟨ao,cap,rfl⟩:=hs.shape
   refine(lA ao _ cap h).mono fun e w' ⟨he,hw⟩=>Ba ⟨?_,he,by rw[<- hw];exact AM _ _⟩
   unfold Ho;rw[AG h];rfl
theorem lu{fn:Func}{p:Tmp}(T:TypeId)(h:fn.results=#[.cell p T])(tmps:Array Aq)(w:I)(g:Nat)(T':TypeId)(L:List Int)(d:TypeDesc)(hu:Ae.underlying T=H d)(hd:d.isRow=AL)(hi:(Ae.info? T).map (·.size)=H L.length)
 (hp:tmps.getD p undef=G (H ⟨g,0,Z⟩)) (hg:w.heap[g]? =H (iO L T')):(results fn tmps).run Ae w=.ok (BD (iC L).toArray) w:=
 results_cell_row h tmps w g T' _ (0,0) _ hp hg hu (by cases d <;> first|rfl|cases hd) (by rw[hi];simp[iC])
theorem iT{w:I}{v:Aq}{c:List Int}(hs:BSl w v c)(hc:c.length=32):AA Ae 171 #[v] w fun e w'=>e=Ag (BD (iC (jR c)).toArray)/\At w.heap.size w w':=by
 have HS:=vJ hs;have HCL:=vJ hc;clear hs hc;obtain⟨w2,GN⟩:=nm ((w.alloc (iO zeroI 80)).alloc (iO zeroI 80));have h2:(w.alloc (Ar #[J Y 0,J Y 0,J Y 0,J Y 0,J Y 0,J Y 0,J Y 0,J Y 0,J Y 0,J Y 0,J Y 0,J Y 0,J Y 0,J Y 0] 80)).alloc (Ar #[J Y 0,J Y 0,J Y 0,J Y 0,J Y 0,J Y 0,J Y 0,J Y 0,J Y 0,J Y 0,J Y 0,J Y 0,J Y 0,J Y 0] 80)=w2:=by rw[GN];rfl
 have hb2:At w.heap.size w w2:=by rw[GN];exact((AM _ _).alloc (AB _) _).alloc (by simp) _
 have Kh:w2.heap[w.heap.size]? =H (iO zeroI 80):=by rw[GN,@heap_alloc_old _ _ _ (by simp)];exact Aw _ _
 have hr1:w2.heap[w.heap.size+1]? =H (iO zeroI 80):=by rw[GN];exact heap_alloc2_new _ _ _
 have JG:w2.heap.size=w.heap.size+2:=by rw[GN];simp
 have H2:=vJ h2;have HR0:=vJ Kh;have HR1:=vJ hr1;clear h2 GN Kh hr1;go_enter Tryz.func171,Tryz.ntmps171
 go_wp2_with (first
  |(go_at_call 172;rw[H2.out];refine(Qy _ _).mono ?_;rintro e w4 ⟨rfl,hb4⟩))
 obtain⟨gs,lO⟩:=nm (w.heap.size+1);have ay:w4.heap[gs]? =H (iO (Hm c 0) 80):=by rw[lO,hb4.block _ (by omega),ZB];exact HR1.out
 have lP:w4.heap[w.heap.size]? =H (iO zeroI 80):=by rw[hb4.block _ (by omega)];exact HR0.out
 have hb04:At w.heap.size w w4:=hb2.trans (hb4.mono (by omega));have rG:gs<w4.heap.size:=(Al.1 ay).1;have hwl:w.heap.size<w4.heap.size:=by omega
 rw[<- lO];have HIX:=vJ (fun W j hj=>bI W gs j hj);obtain⟨F,hF⟩:=nm ((Hv gs 14).toArray);rw[<- hF] at HIX |-
 have HG:=vJ lO;have HB04:=vJ hb04;have HGR:=vJ lP;clear lO hb04 lP hb4 JG hb2 hF;go_loopw [4,10] (fun at_ i wr=>∃ j:Nat,j<=14/\i=J Y j/\at_=J Y (p7 j:Int)/\Hid (wr.heap[gs]? =H (iO (Hm c j) 80))/\Hid (KeptG w4 wr gs)) (fun _ i _=>14-(intOf i).toNat)
 case atStart=>exact⟨0,by omega,rfl,rfl,ay,KeptG.refl _ _⟩
 case round=>
  obtain⟨j,hj,rfl,rfl,HRW,HKP⟩:=hrel;clear ay;by_cases hlt:j<14
  . have ip:=HIX.out wr j hlt
    have ma:=ta HS.out.1 j;have hwd:=kT j;have M4:=pz j hlt;have hcl:=HCL.out;have cK:=fun W (h:BSl W v c)=>Ri h (by omega) (p7 j) (w7 j) (p7 j:Int) (w7 j:Int) rfl rfl (by omega) (by omega) (by omega) _ rfl
    have hset:=fQ c j;obtain⟨y,hy⟩:=nm (Cc c (p7 j) (w7 j));rw[<- hy] at ma cK hset;have E5:p7 (j+1)=p7 j+w7 j:=rfl;obtain⟨P,hP⟩:=nm (p7 j);obtain⟨k,hk⟩:=nm (w7 j);rw[<- hP] at M4 cK E5 |-
    rw[<- hk] at hwd M4 cK E5 ip;have HGET:=vJ cK;have HSET:=vJ hset;have ej:(j:Int)<14:=(by omega);have XY:gs<wr.heap.size:=AH rG HKP.out.2.2.2.1;have HNX:=vJ E5;have hbw:=HB04.out.trans (HKP.out.below (B:=w.heap.size) (by have:=HG.out;omega) (by omega));have HBW:=vJ hbw;clear hy hP hk hset cK E5 hbw hcl;have lQ:wr.heap.size≠gs:=by omega
    go_wp2_with (first
     |(go_at_call 181
       have hb5:=Ay wr (Ar #[G (H ⟨gs,j,Z⟩),J Y (k:Int)] 244);have oS:=Aw wr (Ar #[G (H ⟨gs,j,Z⟩),J Y (k:Int)] 244);generalize wr.alloc (Ar #[G (H ⟨gs,j,Z⟩),J Y (k:Int)] 244)=W5 at hb5 oS |-
       have E3:W5.heap[gs]? =H (iO (Hm c j) 80):=(hb5.block _ XY).trans HRW.out;have c0:W5.cell? ⟨wr.heap.size,0,Z⟩=H (G (H ⟨gs,j,Z⟩)):=(by rw[Az _ _ _ _ _ _ oS];rfl);have c1:W5.cell? ⟨wr.heap.size,1,Z⟩=H (J Y (k:Int)):=(by rw[Az _ _ _ _ _ _ oS];rfl);have ck:=GC E3 j (by rw[Ht];exact hlt);have fk:=Qm E3 j;have hw6:=Wrote.setCell W5 gs j (J Y y);have c6:(W5.setCell ⟨gs,j,Z⟩ (J Y y)).cell? ⟨wr.heap.size,1,Z⟩=H (J Y (k:Int)):=by
        simp only[I.cell?];rw[hw6.2.2.2.2 _ lQ];exact c1
       have hr6:=Vb E3 j y;rw[HSET.out] at hr6;have HK6:=vJ ((HKP.out.then hb5).wrote hw6);have HR6:=vJ hr6;have HB5:=vJ (HBW.out.trans (hb5.mono HBW.out.size));clear hb5 oS E3 hr6 hw6 lQ;refine(HGET.out _ (HS.out.below HB5.out)).mono ?_;rintro e w' ⟨rfl,rfl⟩))
    go_roundw
    case rel=>exact⟨j+1,by omega,by go_num,by rw[HNX.out];go_num,HR6.out,HK6.out⟩
    case measure=>simp[intOf];omega
  . obtain rfl:j=14:=by omega
    have rH:wr.heap[w.heap.size]? =H (iO zeroI 80):=(by rw[HKP.out.2.2.2.2 _ hwl (by have:=HG.out;omega)];exact HGR.out);have hlen:=Ht c 14;have HRG:=vJ (FN HRW.out);have HI:Hid ((Ae.info? 80).map (·.size)=H (Hm c 14).length):=vJ (by rw[YU,hlen]);have HZL:Hid (zeroI.length=(Hm c 14).length):=vJ (by rw[hlen];rfl);have HBW:=vJ (HB04.out.trans (HKP.out.below (B:=w.heap.size) (by have:=HG.out;omega) (by omega)));have u1:=Tryz.underlying80
    go_wp2_with (first
     |(with_reducible refine BK rfl 80 (.tmp 3) rfl gs 0 rfl (Hm c 14) _ HRG.out u1 rfl HI.out ?_)
     |(with_reducible refine DA rfl 80 (.tmp 2) (.tmp 31) rfl w.heap.size rfl (Hm c 14) zeroI rfl HZL.out HI.out _ rH ?_;intro w7 hw7 Vm))
    refine Bv (lu 80 rfl _ _ w.heap.size _ _ _ u1 rfl HI.out rfl Vm) rfl ⟨by rw[af],HBW.out.trans (hw7.below (AB _))⟩
theorem Yl{O:List (List Int)}(h:Gc O):∀ x∈O,(iC x).length=14:=fun x hx=>by rw[Cx];exact h x hx
def nC(O:List (List Int)):List Aq:=O.flatMap iC
theorem LP{O:List (List Int)}(h:Gc O):(nC O).length=O.length*14:=CK (Yl h)
def NR(w:I)(B:Nat)(T:TypeId)(v:Aq)(O:List (List Int)):Prop:=Gc O/\w.ownsRow B T 14 v O.length (nC O)
theorem NR.sl{w:I}{B:Nat}{T:TypeId}{v:Aq}{O:List (List Int)}(h:NR w B T v O):NSl w v O:=by
 refine⟨h.1,?_⟩;rcases h.2.2 with⟨hv,hl⟩| ⟨g,cap,cur,hv,hg,hh,Hn,LD,Hb,ht⟩
 . exact AN ⟨hv,Bb hl⟩
 . refine Ba ⟨_,cap,hv,fun j hj=>⟨(Al.1 hh).1,rfl,fun i u hu=>?_⟩⟩
   have hlen:(O.getD j []).length=14:=Hx h.1 j hj;have hi:i<14:=(by have:=(Bj.1 hu).1;rw[Cx,hlen] at this;exact this);have Mi:j*14+14<=O.length*14:=(by omega);show w.cell? ⟨g,0+j*14+i,Z⟩=_
   rw[Bm,Az _ _ _ _ _ _ hh];have hf:=Gw (f:=iC) (s:=14) (L:=O) (Yl h.1) j hj;have e:O.getD j []=O[j]:=(by simp[hj]);rw[e,<- hf,AZ,AC hi,Bp] at hu;have ht':(cur.toList.take (O.length*14))[j*14+i]? =(nC O)[j*14+i]? :=(by rw[ht]);rw[AZ,AC (by omega)] at ht';rw[nC,hu] at ht'
   simpa using ht'
theorem NR.of_row{w:I}{B g:Nat}{T:TypeId}{O:List (List Int)}(h:Gc O)(hB:B<=g)(hg:w.heap[g]? =H (Ar (nC O).toArray T (0,0)))(hm:O.length<=maxLen):NR w B T (Ak (H ⟨g,0,Z⟩) O.length O.length) O:=by
 refine⟨h,LP h,Ba ⟨g,O.length,_,rfl,hB,hg,AB _,hm,by simp[LP h],?_⟩⟩;rw[AV (by simp[LP h])]
theorem qu:(Ae.info? 80).map (fun i=>(i.zero,i.size,i.bytes))=H (H (BD #[J Y 0,J Y 0,J Y 0,J Y 0,J Y 0,J Y 0,J Y 0,J Y 0,J Y 0,J Y 0,J Y 0,J Y 0,J Y 0,J Y 0]),14,112):=by kernel_rfl
theorem V6{α:Type}(f:α->List Aq)(x:α)(s:Nat)(hs:(f x).length=s):∀ (n i:Nat),i<n*s->((AD n x).flatMap f)[i]? =(f x)[i%s]?
 |0,i,h=>by omega
 |n+1,i,h=>by
  rw[List.replicate_succ,CD];by_cases hi:i<s
  . rw[BT (by omega),C5 hi]
  . rw[BG (by omega),hs,V6 f x s hs n (i-s) (by rw[Nat.succ_mul] at h;omega),show i%s=(i-s)%s from Nat.mod_eq_sub_mod (by omega)]
theorem WQ(n:Nat):madeCells (Aq.agg #[J Y 0,J Y 0,J Y 0,J Y 0,J Y 0,J Y 0,J Y 0,J Y 0,J Y 0,J Y 0,J Y 0,J Y 0,J Y 0,J Y 0]).cells (n*14)=(nC (AD n zeroI)).toArray:=by
 have hl:(nC (AD n zeroI)).length=n*14:=by
  rw[LP (fun x hx=>by rw[BR hx];rfl),A4]
 apply Array.ext
 . simp[size_madeCells,hl]
 . intro i h1 h2
   have hi:i<n*14:=by simpa [size_madeCells] using h1
   have hz:=V6 iC zeroI 14 rfl n i hi;have h3:(nC (AD n zeroI))[i]? =H (J Y 0):=by
    rw[nC,hz];have:i%14<14:=Gl _ (by decide);have:i%14=0\/i%14=1\/i%14=2\/i%14=3\/i%14=4\/i%14=5\/i%14=6\/i%14=7\/i%14=8\/i%14=9\/i%14=10\/i%14=11\/i%14=12\/i%14=13:=(by omega);rcases this with e|e|e|e|e|e|e|e|e|e|e|e|e|e <;> rw[e] <;> rfl
   have h4:(nC (AD n zeroI)).toArray[i]=J Y 0:=by
    have:=(Bj.1 h3).2
    simpa using this
   rw[h4];simp only[madeCells,Aq.cells,Array.getElem_map,Array.getElem_range];have:i%14<14:=Gl _ (by decide);have:i%14=0\/i%14=1\/i%14=2\/i%14=3\/i%14=4\/i%14=5\/i%14=6\/i%14=7\/i%14=8\/i%14=9\/i%14=10\/i%14=11\/i%14=12\/i%14=13:=(by omega);rcases this with e|e|e|e|e|e|e|e|e|e|e|e|e|e <;> simp[e]
theorem PZ(w:I){ops:Array BS}{rest:List BS}{o:BS}{a:Act}{Q:Exit->Act->I->Prop}
 (hg:o.guard=Z) (l c:Operand) (Mr:o.op=Op.makeSlice 140 l c) (C:Int) (n:Nat) (hl:a.eval l=J Y C) (hc:a.eval c=J Y C) (hC:C=n) (hn:n<=1000000)
 (hK:Cn Ae ops Q rest (a.put o.dst (Ak (H ⟨w.heap.size,0,Z⟩) n n)) (w.alloc (Ar (nC (AD n zeroI)).toArray 80))):
 Cn Ae ops Q (o :: rest) a w:=by
 refine CM hg fun K hK'=>?_
 obtain⟨i,h2,h3,h4,h5⟩:=By qu;subst hC;have DY:=run_make (P:=Ae) w 140 80 i (BD #[J Y 0,J Y 0,J Y 0,J Y 0,J Y 0,J Y 0,J Y 0,J Y 0,J Y 0,J Y 0,J Y 0,J Y 0,J Y 0,J Y 0]) Tryz.underlying140 h2 h3 Y Y n n (by omega) (by omega) (by rw[h5];omega) (by omega);unfold BS.wp;simp only[B5,h4,WQ] at DY;simp[execOp,Mr,hl,hc,DY,Result.andThen];exact hK' _ _ hK
def te(l:List Int)(w:I)(e:Ending)(w':I):Prop:=
 (qJ l/\∃ g,e=Ag (AO #[Ak (H ⟨g,0,Z⟩) 8 8,J Y 0])/\w.heap.size<=g/\w'.heap[g]? =H (Ar (nC (T9 l 8)).toArray 80 (0,0))/\At w.heap.size w w')\/
 (¬ qJ l/\e=Ag (AO #[Ak Z 0 0,J Y 18])/\At w.heap.size w w')
theorem WU{w:I}{v:Aq}{O:List (List Int)}(hs:NSl w v O)(h:Ho O=AL):AA Ae 83 #[v] w fun e w'=>∃ u,e=Ag (AO #[u,J Y 0])/\OB w' w.heap.size u (GG O)/\At w.heap.size w w':=
 (VM hs).mono fun e w' ho=>ho.elim (fun h1=>h1.2) fun h1=>by rw[h] at h1;cases h1.1
theorem ob{w:I}{v:Aq}{O:List (List Int)}(hs:NSl w v O)(h:Ho O=AI):AA Ae 83 #[v] w fun e w'=>e=Ag (AO #[Ak Z 0 0,J Y 1])/\At w.heap.size w w':=
 (VM hs).mono fun e w' ho=>ho.elim (fun h1=>by rw[h] at h1;cases h1.1) fun h1=>h1.2
theorem ks{w:I}{v:Aq}{l:List Int}(hs:BSl w v l)(hl:l.length=256):AA Ae 120 #[v] w (te l w):=by
 obtain⟨b,off,cap,rfl,Cm,hb⟩:=hs.open' (by omega);obtain⟨M,Oj⟩:∃ M:Nat,M=8:=⟨_,rfl⟩;have HMI:Hid ((8:Int)=(M:Int)):=vJ (by omega);have TT:M<=1000:=by omega
 have HM:=vJ Oj;have HS:=vJ hs;have HL:=vJ hl;have HMID:=vJ (fun W (h:BSl W (Ak (H ⟨b,off,Z⟩) l.length cap) l) lo (hm:lo+32<=l.length)=>h.mid lo 32 hm);rw[hl] at HS HMID Cm |-
 clear Oj hs hl;go_enter Tryz.func120,Tryz.ntmps120;go_wp2_with (at_make;refine PZ _ rfl _ _ rfl _ M rfl rfl HMI.out (by omega) ?_)
 have hz:(w.alloc (Ar (nC (AD M zeroI)).toArray 80)).heap[w.heap.size]? =H (Ar (nC (Fi l M 0)).toArray 80 (0,0)):=by
  rw[UR];exact Aw w _
 have hb2:At w.heap.size w (w.alloc (Ar (nC (AD M zeroI)).toArray 80)):=Ay _ _;generalize w.alloc (Ar (nC (AD M zeroI)).toArray 80)=w2 at hz hb2 |-
 have HZ:=vJ hz;clear hz;go_loopw [14] (fun i wr=>∃ k:Nat,k<=M/\i=J Y k/\Hid (wr.heap[w.heap.size]? =H (Ar (nC (Fi l M k)).toArray 80 (0,0)))/\At w.heap.size w wr) (fun i _=>M-(intOf i).toNat)
 case atStart=>exact⟨0,by omega,rfl,HZ,hb2⟩
 case round=>
  obtain⟨k,hk,rfl,HR,hbr⟩:=hrel;clear HZ hb2;by_cases hlt:k<M
  . have ekM:(k:Int)<(M:Int):=by omega
    have pF:k<8:=(by have:=HM.out;omega);have hsr:=HMID.out _ (HS.out.below hbr) (32*k) (by omega);have Sm:(l.drop (32*k)).take 32=NJ l k:=rfl;rw[Sm] at hsr;have KR:=vJ (iT hsr (T7 HL.out k pF));have M4:=Xp l M k;have hj:tj l k=jR (NJ l k):=rfl;rw[hj] at M4;have LF:=J0 (NJ l k);obtain⟨x,hx⟩:=nm (jR (NJ l k));rw[<- hx] at KR M4 LF;have HPS:=vJ M4;have HX14:=vJ LF;have H14:=vJ (Yl (YB l M k));have HLK:Hid (k<(Fi l M k).length):=vJ (by rw[Gv];exact hlt);have e32:32*k+32-32*k=32:=(by omega);have ee1:(k:Int)*32=((32*k:Nat):Int):=(by push_cast;omega);have ee2:((k:Int)+1)*32=((32*k+32:Nat):Int):=(by push_cast;omega);have HE32:=vJ e32;have HE1:=vJ ee1;have HE2:=vJ ee2;have hc1:32*k+32<=cap:=(by omega);have Ok:w.heap.size<wr.heap.size:=(Al.1 HR.out).1;clear hx M4 hj LF hsr Sm e32 ee1 ee2
    go_wp2_with (first
     |(with_reducible refine Ee rfl (.tmp 19) (.tmp 21) (.tmp 24) rfl b off 256 cap rfl ((k:Int)*32) (((k:Int)+1)*32) rfl rfl (32*k) (32*k+32) 32 HE32.out HE1.out HE2.out (by omega) hc1 (by omega) ?_)
     |(go_at_call 171;refine KR.out.mono ?_;rintro e w3 ⟨rfl,hb3⟩
       have hr3:w3.heap[w.heap.size]? =H (Ar ((Fi l M k).flatMap iC).toArray 80 (0,0)):=(hb3.block _ Ok).trans HR.out)
     |(with_reducible refine Fh (f:=iC) (s:=14) rfl 80 (.tmp 27) (.tmp 26) rfl YU w.heap.size k (Fi l M k) x 80 rfl rfl hr3 HLK.out H14.out (by rw[Cx];exact HX14.out) (QS x) ?_
       intro w4 hw4 hr4;rw[HPS.out] at hr4))
    go_roundw
    case rel=>exact⟨k+1,by omega,by go_num,hr4,(hbr.trans (hb3.mono hbr.size)).trans (hw4.below (AB _))⟩
    case measure=>simp[intOf];omega
  . have hr:=HR.out
    have hkM:k=M:=(by omega);rw[hkM,UB] at hr;have hob:=NR.of_row (B:=w.heap.size) (qL l M) (AB _) hr (by rw[Mx];simp only[maxLen];omega);rw[Mx] at hob;have hob2:NSl wr (Ak (H ⟨w.heap.size,0,Z⟩) M M) (T9 l 8):=by
     have:=hob.sl;rw[show T9 l 8=T9 l M by rw[HM.out]];exact this
    have HOB:Hid (wr.heap[w.heap.size]? =H (Ar (nC (T9 l 8)).toArray 80 (0,0))):=vJ (by rw[show T9 l 8=T9 l M by rw[HM.out]];exact hr);have HBR:=vJ hbr;clear hr hob;cases hf:Ho (T9 l 8)
    . have HF:=vJ hf
      have KE:=vJ (ob hob2 hf);clear hf hob2;go_wp2_with (go_at_call 83;refine KE.out.mono ?_;rintro e w3 ⟨rfl,hb3⟩)
      go_ret2;exact Ba ⟨(fun h=>by have h2:=h.2.1;rw[HF.out] at h2;cases h2),rfl,hbr.trans (hb3.mono hbr.size)⟩
    . have HF:=vJ hf
      have KE:=vJ (WU hob2 hf);obtain⟨B,hB⟩:∃ B,decide (GG (T9 l 8)=l)=B:=⟨_,rfl⟩;have HB:=vJ hB;have KQ:=vJ (fun W u (h1:BSl W u (GG (T9 l 8))) (h2:BSl W (Ak (H ⟨b,off,Z⟩) 256 cap) l)=>EC h1 h2);rw[hB] at KQ;clear hf hob2 hB;cases B
      . go_wp2_with (first
         |(go_at_call 83;refine KE.out.mono ?_;rintro e w3 ⟨u3,rfl,hob3,hb3⟩
           have hb03:=hbr.trans (hb3.mono hbr.size))
         |(go_at_call 156;refine(KQ.out _ _ hob3.bsl (HS.out.below hb03)).mono ?_;rintro e w4 ⟨rfl,rfl⟩))
        go_ret2;exact Ba ⟨(fun h=>BL HB.out h.2.2),rfl,hb03⟩
      . go_wp2_with (first
         |(go_at_call 83;refine KE.out.mono ?_;rintro e w3 ⟨u3,rfl,hob3,hb3⟩
           have hb03:=hbr.trans (hb3.mono hbr.size))
         |(go_at_call 156;refine(KQ.out _ _ hob3.bsl (HS.out.below hb03)).mono ?_;rintro e w4 ⟨rfl,rfl⟩))
        go_ret2;exact AN ⟨⟨HL.out,HF.out,A7 HB.out⟩,_,(by rw[HM.out];rfl),AB _,(hb3.block _ (Al.1 HOB.out).1).trans HOB.out,hb03⟩
theorem mE{w:I}{g:Nat}{O:List (List Int)}(hO:Gc O)(h8:O.length=8)(hr:w.heap[g]? =H (Ar (nC O).toArray 80 (0,0))):NSl w (Ak (H ⟨g,0,Z⟩) 8 8) O:=by
 have:=(NR.of_row (B:=g) hO (AB _) hr (by rw[h8];simp only[maxLen];omega)).sl
 rwa [h8] at this
end
section
open Go.RowKit BM
def FsAt(w:I)(bf:Nat)(p:Aq):Prop:=w.heap[bf]? =H (Ar #[p] 35 (0,0))
theorem FsAt.low{w w':I}{bf:Nat}{p:Aq}(h:FsAt w bf p)(hb:At w.heap.size w w'):FsAt w' bf p:=BA h hb
theorem FsAt.cell{w:I}{bf:Nat}{p:Aq}(h:FsAt w bf p):w.cell? ⟨bf,0,Z⟩=H p:=by rw[Az _ _ _ _ _ _ h];rfl
theorem FsAt.chg{w w':I}{P P':Nat->Prop}{bf:Nat}{p:Aq}(h:FsAt w bf p)(hc:Chg P P' w w')(hn:¬ P bf):FsAt w' bf p/\¬ P' bf:=by
 have:=hc.keep bf (Al.1 h).1 hn;exact⟨this.1.trans h,this.2⟩
theorem SInv.xok{w:I}{P:Nat->Prop}{d p:Aq}{X:XSt}(h:SInv w P d p X):XOk X:=by
 obtain⟨_,_,_,_,_,_,_,_,_,_,_,_,_,hpl,_⟩:=h;exact hpl.ok
theorem G8{w:I}{bf:Nat}{p:Aq}(h:FsAt w bf p):AA Ae 84 #[G (H ⟨bf,0,Z⟩)] w fun e w'=>e=Ag p/\w=w':=by
 have hc:=h.cell;clear h;go_enter Tryz.func84,Tryz.ntmps84;go_wp2;go_ret;exact⟨rfl,rfl⟩
theorem Rf{w:I}{P:Nat->Prop}{d p:Aq}{X:XSt}{E:List Int}{n:Nat}(h:SInv w P d p X)(hn:n<X.cur.length)(ho:Ei n)(hE:X.cur.getD n []=E){W:I}(hb:At w.heap.size w W):
 AA Ae 89 #[p,J Y (n:Nat)] W fun e w'=>∃ v,e=Ag (AO #[v,J Y 0])/\BSl w' v E/\At W.heap.size W w':=
 (N0 (h.low hb) (n:=n) (by rw[<- h.xok.curLen];exact hn)).mono fun e w' ⟨v,l,a,b,c,f⟩=>⟨v,a,by rw[<- hE];exact(c ho) ▸ b,f⟩
theorem eS{w:I}{v:Aq}{L:List Int}(hs:BSl w v (GD L))(hL:L.length=12)(hf:D7 L=AL):AA Ae 119 #[v] w fun e w'=>e=Ag (AO #[Gy L,J Y 0])/\At w.heap.size w w':=by
 obtain⟨h1,h2⟩:=na hL hf;refine(mM hs).mono fun e w' ⟨hb,ho⟩=>⟨?_,hb⟩
 rcases ho with⟨_,he⟩| ⟨hn,_⟩
 . rw[he,h2]
 . exact absurd h1 hn
theorem j_{w:I}{v:Aq}{O:List (List Int)}(hs:BSl w v (GG O))(hO:Gc O)(hf:Ho O=AL):AA Ae 120 #[v] w fun e w'=>∃ g,e=Ag (AO #[Ak (H ⟨g,0,Z⟩) 8 8,J Y 0])/\w.heap.size<=g/\w'.heap[g]? =H (Ar (nC O).toArray 80 (0,0))/\At w.heap.size w w':=by
 refine(ks hs (Q6 O)).mono fun e w' ho=>?_
 rcases ho with⟨_,g,he,hg,hr,hb⟩| ⟨hn,_⟩
 . rw[aS hO hf] at hr
   exact⟨g,he,hg,hr,hb⟩
 . exact absurd (jL hO hf) hn
section
variable {w:I}{P:Nat->Prop}{d p:Aq}{X:XSt}{S:List Int}{N:List (List Int)}{bf:Nat}
theorem MQ(h:SInv w P d p X)(hf:FsAt w bf p)(hT:Tab X.cur S N){W:I}(hb:At w.heap.size w W):
 AA Ae 80 #[G (H ⟨bf,0,Z⟩)] W fun e w'=>e=Ag (AO #[Gy S,J Y 0])/\At W.heap.size W w':=by
 have hin:=Fs hT.sf (t:=0) (by decide);have Mi:=hT.le;have hb1:=Ay W (Cd Dc 149);have hr1:=Aw W (Cd Dc 149);obtain⟨w1,hw1⟩:=nm (W.alloc (Cd Dc 149));rw[<- hw1] at hb1 hr1;have h1:W.alloc (Ar #[J Y 0,J Y 0,J Y 0,J Y 0,J Y 0,J Y 0,J Y 0,J Y 0,J Y 0,J Y 0,J Y 0,J Y 0] 149)=w1:=by rw[hw1];rfl
 have LG:=hb.trans (hb1.mono hb.size);have H1:=vJ h1;have KB:=vJ (G8 (hf.low LG));have KG:=vJ (Rf (n:=0) h (by omega) (AN (by decide)) hT.g0 LG);have KD:=vJ (fun(W:I) (v:Aq) (hs:BSl W v (GD S))=>eS hs hT.s12 hT.sf);have h12:=hT.s12;have HR1:Hid (∀ V,At w1.heap.size w1 V->V.heap[W.heap.size]? =H (Cd Dc 149)):=vJ fun V hv=>BA hr1 hv
 clear hf hT hin Mi h hb LG h1 hw1 hr1;go_enter Tryz.func80,Tryz.ntmps80
 go_wp2_with (first
  |(go_at_call 84;rw[H1.out];refine KB.out.mono ?_;rintro e w' ⟨rfl,rfl⟩)
  |(go_at_call 89;refine KG.out.mono ?_;rintro e w2 ⟨v,rfl,hv,hb2⟩)
  |(go_at_call 119;refine(KD.out _ _ hv).mono ?_;rintro e w3 ⟨rfl,hb3⟩)
  |(with_reducible refine CO rfl (.tmp 6) (.tmp 20) rfl w3.heap.size rfl S Dc rfl h12 rfl _ (Aw w3 _) ?_
    intro w5 hw5 E3;have hb5:At w3.heap.size w3 w5:=(Ay w3 _).trans (hw5.below (AB _));have hb15:=(hb2.trans (hb3.mono hb2.size)).trans (hb5.mono (AT hb2.size hb3.size));have hr6:=HR1.out _ hb15)
  |(with_reducible refine FC rfl (.tmp 6) rfl w3.heap.size rfl S h12 _ E3 ?_)
  |(with_reducible refine CO rfl (.tmp 2) (.tmp 25) rfl W.heap.size rfl S Dc rfl h12 rfl _ hr6 ?_;intro w7 hw7 Vm))
 exact Bv (Lg rfl _ _ W.heap.size _ _ _ h12 rfl Vm rfl) rfl ⟨rfl,(hb1.trans (hb15.mono hb1.size)).trans (hw7.below (AB _))⟩
theorem PG(h:SInv w P d p X)(hf:FsAt w bf p)(hT:Tab X.cur S N){t:Nat}(ht:t<6){W:I}(hb:At w.heap.size w W):
 AA Ae 81 #[G (H ⟨bf,0,Z⟩),J Y (Dj S t:Nat)] W fun e w'=>∃ g,e=Ag (AO #[Ak (H ⟨g,0,Z⟩) 8 8,J Y 0])/\W.heap.size<=g/\w'.heap[g]? =H (Ar (nC (J9 N t)).toArray 80 (0,0))/\At W.heap.size W w':=by
 have hin:=Fs hT.sf ht;have Mi:=hT.le;obtain⟨h14,im⟩:=hT.n.all ht;obtain⟨T,aB⟩:=nm (J9 N t);obtain⟨k,hk⟩:=nm (Dj S t);have hg:=hT.tb t ht;rw[<- aB] at h14 im hg |-
 rw[<- hk] at hin hg |-
 have KB:=vJ (G8 (hf.low hb));have KG:=vJ (Rf (n:=k) h (by omega) hin.2.2.2.2.1 hg hb);have KD:=vJ (fun(W:I) (v:Aq) (hs:BSl W v (GG T))=>j_ hs h14 im);clear hf hT hin Mi h hb hg aB h14 im hk;go_enter Tryz.func81,Tryz.ntmps81
 go_wp2_with (first
  |(go_at_call 84;refine KB.out.mono ?_;rintro e w' ⟨rfl,rfl⟩)
  |(go_at_call 89;refine KG.out.mono ?_;rintro e w1 ⟨v,rfl,hv,hb1⟩)
  |(go_at_call 120;refine(KD.out _ _ hv).mono ?_;rintro e w2 ⟨g,rfl,hg1,hr,hb2⟩))
 go_ret2;exact⟨g,rfl,AT hb1.size hg1,hr,hb1.trans (hb2.mono hb1.size)⟩
end
theorem Uh:(Ae.info? 142).map (·.size)=H 3:=by kernel_rfl
theorem Hf:(Ae.info? 80).map (·.size)=H 14:=by kernel_rfl
theorem V8{fn:Func}{p u:Tmp}(h:fn.results=#[.cell p 80,.tmp u])(tmps:Array Aq)(w:I)(g:Nat)(T:TypeId)(L:List Int)(x:Aq)(hL:L.length=14)(hp:tmps.getD p undef=G (H ⟨g,0,Z⟩))(hg:w.heap[g]? =H (iO L T))(hx:tmps.getD u undef=x):
 (results fn tmps).run Ae w=.ok (AO #[BD (iC L).toArray,x]) w:=by
 rw[results_cell_tmp h,hp,hx];simp only[asAddr,Sem.run_pure,Result.andThen_ok];rw[run_loadVar_row w g T 80 _ (0,0) _ hg Tryz.underlying80 rfl (by rw[Hf];simp[iC,hL])];rfl
theorem FI{ops:Array BS}{rest:List BS}{o:BS}{a:Act}{w:I}{Q:Exit->Act->I->Prop}(Dn:o.guard=Z)(x y:Operand)(ho:o.op=.store 80 x y)
 (g:Nat) (hx:a.eval x=G (H ⟨g,0,Z⟩)) (L M:List Int) (hy:a.eval y=BD (iC L).toArray) (hL:L.length=14) (hM:M.length=14) (T:TypeId) (hg:w.heap[g]? =H (iO M T))
 (h:∀ w',Wrote w w' g->w'.heap[g]? =H (iO L T)->Cn Ae ops Q rest (a.put o.dst undef) w'):Cn Ae ops Q (o :: rest) a w:=
 Do Dn 80 x y ho g _ hx hy T _ hg (by rw[Hf];simp[iC,hL]) (by simp[iC,hL,hM]) (XC L) (h _ (Wrote.setRow _ _ _) (Cr _ _ _ _ _ _ hg))
section
variable {w:I}{P:Nat->Prop}{d p:Aq}{X:XSt}{S:List Int}{N:List (List Int)}{bf:Nat}
theorem sy{n:Int}(hn:n<1\/47<n)(f:Aq)(W:I):AA Ae 77 #[f,J Y n] W fun e w'=>e=Ag (AO #[BD #[J Y 0,Ak Z 0 0,J Y 0],J Y 1])/\At W.heap.size W w':=by
 have hb1:=Ay W (Ar #[J Y 0,Ak Z 0 0,J Y 0] 142);have hr1:=Aw W (Ar #[J Y 0,Ak Z 0 0,J Y 0] 142);obtain⟨w1,hw1⟩:=nm (W.alloc (Ar #[J Y 0,Ak Z 0 0,J Y 0] 142));rw[<- hw1] at hb1 hr1;have H1:=vJ hw1.symm;have HR1:=vJ hr1;have KP:=vJ (gJ n hn);clear hn hw1 hr1;go_enter Tryz.func77,Tryz.ntmps77;go_upto_region 2 with(go_at_call 117;rw[H1.out];refine(KP.out _).mono ?_;rintro e w' ⟨rfl,rfl⟩)
 have hr2:=HR1.out;go_wp2_with (with_reducible refine BQ rfl 142 Uh (.tmp 4) (.tmp 18) rfl W.heap.size rfl _ _ _ _ _ _ rfl rfl rfl rfl _ hr2 ?_;intro w9 hw9 hr9)
 refine Bv (DK rfl Tryz.underlying142 Uh _ _ W.heap.size _ _ _ _ _ rfl hr9 rfl) rfl ⟨rfl,hb1.trans (hw9.below (AB _))⟩
theorem RN(h:SInv w P d p X)(hf:FsAt w bf p)(hT:Tab X.cur S N){n:Nat}(h0:1<=n)(Bu:n<48){W:I}(hb:At w.heap.size w W):
 AA Ae 77 #[G (H ⟨bf,0,Z⟩),J Y n] W fun e w'=>∃ g,e=Ag (AO #[BD #[J Y (Dj S (n / 8):Nat),Ak (H ⟨g,0,Z⟩) 8 8,J Y (n%8:Nat)],J Y 0])/\W.heap.size<=g/\
  w'.heap[g]? =H (Ar (nC (J9 N (n / 8))).toArray 80 (0,0))/\At W.heap.size W w':=by
 have ht:n / 8<6:=by omega
 have hj:n%8<8:=by omega
 have e1:(n:Int) / 8=((n / 8:Nat):Int):=by omega
 have e2:(n:Int)%8=((n%8:Nat):Int):=by omega
 have KP:=vJ (Zm (n:Int) (by omega) (by omega));rw[e1,e2] at KP;clear e1 e2;obtain⟨t,htt⟩:=nm (n / 8);obtain⟨j,pQ⟩:=nm (n%8);rw[<- htt] at KP ht |-
 rw[<- pQ] at KP hj |-
 clear htt pQ h0 Bu;have hb1:=Ay W (Ar #[J Y 0,Ak Z 0 0,J Y 0] 142);have hr1:=Aw W (Ar #[J Y 0,Ak Z 0 0,J Y 0] 142);obtain⟨w1,hw1⟩:=nm (W.alloc (Ar #[J Y 0,Ak Z 0 0,J Y 0] 142));rw[<- hw1] at hb1 hr1;have H1:=vJ hw1.symm;have LG:=hb.trans (hb1.mono hb.size);have HR1:Hid (∀ V,At w1.heap.size w1 V->V.heap[W.heap.size]? =H (Ar #[J Y 0,Ak Z 0 0,J Y 0] 142 (0,0))):=vJ fun V hv=>BA hr1 hv
 have KS:=vJ (MQ h hf hT LG);have HBW:=vJ LG;have KI:=vJ (fun(V:I) (hv:At w.heap.size w V)=>PG h hf hT ht hv);have h12:=hT.s12;have hin:=(Fs hT.sf ht).1;obtain⟨A,hA⟩:=nm (Dj S t);obtain⟨T,aB⟩:=nm (J9 N t);rw[<- hA] at KI hin |-
 rw[<- aB] at KI |-
 have et:(t:Int)<6:=by omega
 have et0:¬ (t:Int)<0:=by omega
 have HSC:Hid (∀ (V V':I),V.heap.size<V'.heap.size->V'.heap[V.heap.size]? =H (Cd S 149)->V'.cell? ⟨V.heap.size,6+t,Z⟩=H (J Y A)):=vJ fun V V' _ hr=>by
  rw[Ih hr (6+t) (by omega),hin]
 clear h hf hT hb LG hw1 hr1 hA aB hin ht;go_enter Tryz.func77,Tryz.ntmps77
 go_wp2_with (first
  |(go_at_call 117;rw[H1.out];refine(KP.out _).mono ?_;rintro e w' ⟨rfl,rfl⟩)
  |(go_at_call 80;refine KS.out.mono ?_;rintro e w2 ⟨rfl,hb2⟩)
  |(with_reducible refine CO rfl (.tmp 8) (.tmp 22) rfl w2.heap.size rfl S Dc rfl h12 rfl _ (Aw w2 _) ?_
    intro w3 hw3 hr3;have hb3:At w2.heap.size w2 w3:=(Ay w2 _).trans (hw3.below (AB _));have hl3:=(Al.1 hr3).1;have hb13:=hb2.trans (hb3.mono hb2.size);have c3:=HSC.out _ _ hl3 hr3)
  |(go_at_call 81;refine(KI.out _ (HBW.out.trans (hb13.mono HBW.out.size))).mono ?_;rintro e w4 ⟨g,rfl,hg4,hr4,hb4⟩
    have hb14:=hb13.trans (hb4.mono hb13.size);have hr6:=HR1.out _ hb14;have c4:=HSC.out _ _ (AH hl3 hb4.size) ((hb4.block _ hl3).trans hr3))
  |(with_reducible refine BQ rfl 142 Uh (.tmp 4) (.tmp 47) rfl W.heap.size rfl _ _ _ _ _ _ rfl rfl rfl rfl _ hr6 ?_;intro w9 hw9 hr9))
 have hne:g≠W.heap.size:=by
  have:=hb1.size;have:=hb13.size;have:=(Al.1 (HR1.out w1 (AM _ _))).1;omega
 refine Bv (DK rfl Tryz.underlying142 Uh _ _ W.heap.size _ _ _ _ _ rfl hr9 rfl) rfl ⟨g,rfl,?_,(hw9.2.2.2.2 g hne).trans hr4,(hb1.trans (hb14.mono hb1.size)).trans (hw9.below (AB _))⟩;have:=hb1.size;have:=hb13.size;omega
theorem GM(h:SInv w P d p X)(hf:FsAt w bf p)(hT:Tab X.cur S N){n:Nat}(h0:1<=n)(Bu:n<48){W:I}(hb:At w.heap.size w W):
 AA Ae 37 #[G (H ⟨bf,0,Z⟩),J Y n] W fun e w'=>e=Ag (AO #[BD (iC (N.getD n [])).toArray,J Y 0])/\At W.heap.size W w':=by
 have ht:n / 8<6:=by omega
 have hj:n%8<8:=by omega
 have hb1:=Ay W (iO zeroI 80);have hr1:=Aw W (iO zeroI 80);obtain⟨w1,hw1⟩:=nm (W.alloc (iO zeroI 80));rw[<- hw1] at hb1 hr1;have h1:W.alloc (Ar #[J Y 0,J Y 0,J Y 0,J Y 0,J Y 0,J Y 0,J Y 0,J Y 0,J Y 0,J Y 0,J Y 0,J Y 0,J Y 0,J Y 0] 80)=w1:=by rw[hw1];rfl
 have LG:=hb.trans (hb1.mono hb.size);have H1:=vJ h1;have HR1:Hid (∀ V,At w1.heap.size w1 V->V.heap[W.heap.size]? =H (iO zeroI 80)):=vJ fun V hv=>BA hr1 hv
 have KF:=vJ (RN h hf hT h0 Bu LG);obtain⟨A,hA⟩:=nm (Dj S (n / 8));obtain⟨T,aB⟩:=nm (J9 N (n / 8));have hx:(J9 N (n / 8)).getD (n%8) []=N.getD n []:=by rw[Rb N _ hj];congr 1;omega
 have LF:=hT.n.get Bu;have h14:=U4 hT.n.l14 (n / 8);have pR:=Ip hT.n.len ht;rw[<- hA,<- aB] at KF;rw[<- aB] at hx h14 pR;obtain⟨x,Sl⟩:=nm (N.getD n []);rw[<- Sl] at hx LF |-
 obtain⟨j,pQ⟩:=nm (n%8);rw[<- pQ] at KF hj hx;have HRG:Hid (∀ (V:I) (g:Nat),V.heap[g]? =H (Ar (nC T).toArray 80 (0,0))->V.rangeAt g (j*14) (iC x)):=vJ fun V g hr=>by
  have:=Ry (f:=iC) (s:=14) (k:=j) hr (fun y hy=>by rw[Cx];exact h14 y hy) (by omega);rw[<- hx,An,AS (by omega)];exact this
 have HX14:=vJ LF;have ej:(j:Int)<8:=by omega
 have u1:=Tryz.underlying80;clear h hf hT hb LG h1 hw1 hr1 hA aB hx h14 pR Sl pQ ht LF;go_enter Tryz.func37,Tryz.ntmps37
 go_wp2_with (first
  |(go_at_call 77;rw[H1.out];refine KF.out.mono ?_;rintro e w2 ⟨g,rfl,hg2,hr2,hb2⟩
    have hb23:=Ay w2 (Ar #[J Y A,Ak (H ⟨g,0,Z⟩) 8 8,J Y j] 142);have hb3:=hb2.trans (hb23.mono hb2.size);have hr3:=HR1.out _ hb3;have Pb:=HRG.out _ g (BA hr2 hb23))
  |(with_reducible refine BK rfl 80 (.tmp 22) rfl g (j*14) rfl x _ Pb u1 rfl (by rw[Hf,HX14.out]) ?_)
  |(with_reducible refine FI rfl (.tmp 4) (.tmp 23) rfl W.heap.size rfl x zeroI rfl HX14.out rfl _ hr3 ?_;intro w9 hw9 hr9))
 refine Bv (V8 rfl _ _ W.heap.size _ _ _ HX14.out rfl hr9 rfl) rfl ⟨rfl,(hb1.trans (hb3.mono hb1.size)).trans (hw9.below (AB _))⟩
end
section
variable {w:I}{P:Nat->Prop}{d p:Aq}{X:XSt}{O:List (Int × Int)}{k:Nat}
theorem Zw(h:SInv w P d p X)(hH:Has X.cur O k)(hO:OOk O k){m:Nat}(hm1:1<=m)(hm:m<=k):
 AA Ae 212 #[p,J Y (64*(m:Int))] w fun e w'=>e=Ag (AO #[J Y (Dm O (64*m)),J Y 0])/\At w.heap.size w w':=by
 have h12:=hO.k12;have KU:=vJ (WJ h hH hO hm1 hm);have KO:=vJ (fun(W:I)=>SU m hm1 (by omega) W);obtain⟨R,hR⟩:=nm (CQ O (64*m));have hc:=RE hO (64*m) (by omega);rw[<- hR] at hc KU;have h1:=nA (64*m);have h2:=Wr m hm1 (by omega);have KC:Hid (∀ W q r,BRow W q r R->AA Ae 235 #[G (H ⟨q,0,Z⟩)] W fun e w'=>e=Ag (J Y (Eo R))/\∃ m,w'=W.drewN m):=vJ fun W q r hb=>Q5 hb
 have hcl:=LY R;have hRl:R.length=64*m:=by rw[hR,EZ]
 obtain⟨C,hC⟩:=nm (Eo R);rw[<- hC] at KC hc hcl;obtain⟨U,hU⟩:=nm (Dm O (64*m));have HE:Hid ((C:Int)-(64*(m:Int)-(62*(m:Int)-42))=U):=vJ (by omega);have hC2:(C:Int)<=768:=by omega
 have hm12:(m:Int)<=12:=by omega
 have hm11:(1:Int)<=m:=by omega
 rw[<- hU];clear hR hc h1 h2 hcl hRl hC hU h hH hO hm hm1 h12;go_enter Tryz.func212,Tryz.ntmps212
 go_wp2_with (first
  |(go_at_call 234;refine KU.out.mono ?_;rintro e w1 ⟨q,r,rfl,hrow,hb1⟩)
  |(go_at_call 213;refine(KO.out _).mono ?_;rintro e w' ⟨rfl,rfl⟩)
  |(go_at_call 235;refine(KC.out _ _ _ hrow).mono ?_;rintro e w2 ⟨rfl,n,rfl⟩))
 go_ret2;exact⟨by first|rfl|(rw [HE.out];rfl),A2 hb1 _⟩
theorem ZD(h:SInv w P d p X)(hH:Has X.cur O k)(hO:OOk O k){m:Nat}(hm1:1<=m)(hm:m<=k)(g:Int):
 AA Ae 214 #[p,J Y (64*(m:Int)),J Y g] w fun e w'=>e=Ag (AO #[J Y (Hk O (64*m) (Hl (64*m) g)),J Y 0])/\At w.heap.size w w':=by
 have KU:=vJ (WJ h hH hO hm1 hm);rw[<- nk (show 0<64*m by omega)];obtain⟨R,hR⟩:=nm (CQ O (64*m));rw[<- hR] at KU |-
 have KC:Hid (∀ W q r,BRow W q r R->AA Ae 236 #[G (H ⟨q,0,Z⟩),J Y g] W fun e w'=>e=Ag (J Y (Lh R g))/\∃ m,w'=W.drewN m):=vJ fun W q r hb=>Zs hb g
 clear hR h hH hO hm hm1;go_enter Tryz.func214,Tryz.ntmps214
 go_wp2_with (first
  |(go_at_call 234;refine KU.out.mono ?_;rintro e w1 ⟨q,r,rfl,hrow,hb1⟩)
  |(go_at_call 236;refine(KC.out _ _ _ hrow).mono ?_;rintro e w2 ⟨rfl,n,rfl⟩))
 go_ret2;exact⟨rfl,A2 hb1 _⟩
end
end
section
open Go.RowKit Go.Maps
theorem PE{w w':I}{m b o:Nat}(h:w.grownBy w' (H m))(hb:b<w.heap.size)(hne:b≠m):w'.cell? ⟨b,o,Z⟩=w.cell? ⟨b,o,Z⟩:=by
 apply Bh;exact h.block b hb fun e=>hne (Bz e)
theorem addS_mem{N:List Int}{n y:Int}:y∈Fj N n ↔ y∈N\/y=n:=by
 unfold Fj;split
 . exact⟨AN,fun h=>h.elim id fun e=>by rw[e];assumption⟩
 . simp
section
variable {w:I}{P:Nat->Prop}{d p:Aq}{X:XSt}
theorem kR{Pd:Nat->Prop}{b be bp:Nat}{q:Int}{ek:List Int}{eg:Int->Aq}{ev:Int->List Int}{pk:List Int}{pg:Int->Aq}{pv:Int->List Int}{ds:DS}(h:SMem w Pd b be bp d q ek eg ev pk pg pv AL ds)
 {n:Int} {v:Aq} {l:List Int} (hv:BSl w v l) (hl:l.length=256) (hn:0<=n/\n<ds.F.length) (Mk:ds.F.length<=768) (hpl:pk.length<=37) (hroom:n∈pk\/pk.length<37):
 AA Ae 85 #[G (H ⟨b,0,Z⟩),.int Y n,v] w fun e w'=>e=Ag (.int Y 0)/\∃ u,SMem w' Pd b be bp d q ek eg ev (Fj pk n) (fun y=>if y=n then u else pg y) (fun y=>if y=n then l else pv y) AL ds/\
  (∀ g,u.ownBlock=H g->w.heap.size<=g/\g<w'.heap.size)/\w.heap.size<=w'.heap.size/\Ext (fun k=>k=bp) w w':=by
 have Vw:(Lit.int Y n).wf=AL:=iN (by omega);have KA:=vJ (Fo h AL);have KH:=vJ (Qn h n);rw[AF hn] at KH;have KL:=vJ (NC w n);rw[AF (by omega)] at KL;have c3:=h.c3;have Se:=h.mp.look_ok Vw;have hlen:=fun ty=>h.mp.len ty
 have KC:=vJ (fun W (hb:At w.heap.size w W)=>OS (hv.below hb) (by rw[hl];decide));have HB:=vJ (fun W (hb:At w.heap.size w W)=>h.below hb);have HW:=vJ Vw;have HP:=vJ hpl;have HLL:=vJ hl;obtain⟨ao,cap,rfl,_⟩:=hv.shape;rw[hl] at KC |-
 have HBL:=vJ h.bl;have HN:Hid (b<w.heap.size/\b≠bp):=vJ ⟨h.bl,fun e=>h.nb.2 e.symm⟩;refine AA.mono (R:=fun e w'=>e=Ag (.int Y 0)/\∃ u w3,OB w3 w.heap.size u l/\At w.heap.size w w3/\Mp w' bp (Fj pk n) (fun y=>if y=n then u else pg y)/\w3.grownBy w' (H bp)/\w'.heap.size=w3.heap.size) ?_ ?_
 . obtain⟨uu,rJ⟩:=nm ((if n∈pk then pg n else Ak Z 0 0))
   rw[<- rJ] at Se;obtain⟨m,hm⟩:=nm pk.length;rw[<- hm] at hlen HP hroom;have HM:=vJ hm;by_cases hin:n∈pk
   . rw[AF hin] at Se
     clear h hv hn Mk hroom hpl Vw rJ hin hl hm;go_enter Tryz.func85,Tryz.ntmps85
     go_wp2_with (first
      |(go_at_call 29;(with_reducible refine KA.out.mono ?_);rintro e w' ⟨rfl,rfl⟩)
      |(go_at_call 126;(with_reducible refine KH.out.mono ?_);rintro e w' ⟨rfl,rfl⟩)
      |(go_at_call 127;(with_reducible refine KL.out.mono ?_);rintro e w' ⟨rfl,rfl⟩))
     have KC1:=vJ (KC.out w.drew (A2 (AM _ _) 1));have d3:w.drew.cell? ⟨b,3,Z⟩=H (.map (H bp)):=c3
     go_region_held3 (fun W=>W.cell? ⟨b,3,Z⟩=H (.map (H bp))) (first|exact f3|exact e3|exact d3) (first
      |(go_at_call 128;(with_reducible refine KC1.out.mono ?_);rintro e w3 ⟨u,rfl,hob,hbe⟩
        have e3:=(hbe.cell (p:=⟨b,3,Z⟩) HBL.out).trans c3;have HOB:=vJ hob;have HBE:=vJ (show At w.heap.size w w3 from(A2 (AM _ _) 1).trans hbe);obtain⟨dd,rK⟩:=Blo.hdr (v:=u) ⟨hob.more (AX _),HLL.out⟩;obtain⟨w4,ui,l_,hg4,hs4⟩:=(HB.out _ HBE.out).mp.store HW.out rK (by have:=HP.out;have:=HM.out;omega);have f3:w4.cell? ⟨b,3,Z⟩=H (.map (H bp)):=(PE hg4 (AH HBL.out HBE.out.size) HN.out.2).trans e3;have HM4:=vJ l_;have HG4:=vJ hg4;have HS4:=vJ hs4;clear hob hbe rK l_ hg4 hs4))
     go_wp2;go_ret;exact⟨rfl,u,w3,HOB.out,HBE.out,HM4.out,HG4.out,HS4.out⟩
   . have uj:(m:Int)<37:=by have:=hroom.resolve_left hin;omega
     rw[AG hin] at Se;clear h hv hn Mk hroom hpl Vw rJ hin hl hm;go_enter Tryz.func85,Tryz.ntmps85
     go_wp2_with (first
      |(go_at_call 29;(with_reducible refine KA.out.mono ?_);rintro e w' ⟨rfl,rfl⟩)
      |(go_at_call 126;(with_reducible refine KH.out.mono ?_);rintro e w' ⟨rfl,rfl⟩)
      |(go_at_call 127;(with_reducible refine KL.out.mono ?_);rintro e w' ⟨rfl,rfl⟩))
     have KC1:=vJ (KC.out w.drew (A2 (AM _ _) 1));have d3:w.drew.cell? ⟨b,3,Z⟩=H (.map (H bp)):=c3
     go_region_held3 (fun W=>W.cell? ⟨b,3,Z⟩=H (.map (H bp))) (first|exact f3|exact e3|exact d3) (first
      |(go_at_call 128;(with_reducible refine KC1.out.mono ?_);rintro e w3 ⟨u,rfl,hob,hbe⟩
        have e3:=(hbe.cell (p:=⟨b,3,Z⟩) HBL.out).trans c3;have HOB:=vJ hob;have HBE:=vJ (show At w.heap.size w w3 from(A2 (AM _ _) 1).trans hbe);obtain⟨dd,rK⟩:=Blo.hdr (v:=u) ⟨hob.more (AX _),HLL.out⟩;obtain⟨w4,ui,l_,hg4,hs4⟩:=(HB.out _ HBE.out).mp.store HW.out rK (by have:=HP.out;have:=HM.out;omega);have f3:w4.cell? ⟨b,3,Z⟩=H (.map (H bp)):=(PE hg4 (AH HBL.out HBE.out.size) HN.out.2).trans e3;have HM4:=vJ l_;have HG4:=vJ hg4;have HS4:=vJ hs4;clear hob hbe rK l_ hg4 hs4))
     go_wp2;go_ret;exact⟨rfl,u,w3,HOB.out,HBE.out,HM4.out,HG4.out,HS4.out⟩
 . rintro e w' ⟨rfl,u,w3,hob,hbe,pS,hgr,En⟩
   have h3:=HB.out w3 hbe;have hblo:Blo w3 u l:=⟨hob.more (AX _),HLL.out⟩;have hk:∀ k,k<w3.heap.size->k≠bp->w'.heap[k]? =w3.heap[k]? :=fun k hk hn=>hgr.block k hk fun e=>hn (Bz e)
   have hext:Ext (fun k=>k=bp) w w':=(Ext.of_below hbe).trans (P2:=fun k=>k=bp) (Ext.of_grown hgr rfl) fun x _ e=>e
   refine⟨rfl,u,⟨?_,?_,h3.q0,?_,pS,h3.ne,?_,?_⟩,?_,hext.size,hext⟩
   . rw[hk b h3.bl fun e=>h3.nb.2 e.symm];exact h3.hb
   . exact h3.dk.same fun k hp=>hk k (h3.dk.lt k hp) fun e=>Mp.nd h3.dk h3.mp (e ▸ hp)
   . exact h3.me.keep (hk be h3.me.lt h3.ne)
   . exact fun x hx=>(h3.re x hx).keep fun g hg=>hk g ((h3.re x hx).lt hg) ((h3.re x hx).nm hg h3.mp)
   . intro x hx
     by_cases e:x=n
     . rw[AC e,AC e]
       exact hblo.keep fun g hg=>hk g (hblo.lt hg) (hblo.nm hg h3.mp)
     . rw[AE e,AE e]
       have hx':=(addS_mem.1 hx).resolve_right e;exact(h3.rp x hx').keep fun g hg=>hk g ((h3.rp x hx').lt hg) ((h3.rp x hx').nm hg h3.mp)
   . intro g hg
     have:=Ck hob.2 g hg;exact⟨this.1,by rw[En];exact this.2⟩
theorem NL(h:SInv w P d p X){n:Int}{v:Aq}{l:List Int}(hv:BSl w v l)(hn: -9223372036854775808<=n/\n<=9223372036854775807)(hj:Ei n.toNat):AA Ae 85 #[p,.int Y n,v] w (PJ SInv w P d p (kY X n l)):=by
 have h':=h;obtain⟨b,be,bp,Pd,q,ek,eg,ev,pk,pg,pv,rfl,hm,hpl,ho,hlt⟩:=h;have Vv:=hpl.ok.lst.1;have Mk:=hpl.n64.2;have Vw:(Lit.int Y n).wf=AL:=iN hn;have same:∀ z:Int,AA Ae 85 #[G (H ⟨b,0,Z⟩),.int Y n,v] w (fun e w'=>e=Ag (.int Y z)/\w=w')->AA Ae 85 #[G (H ⟨b,0,Z⟩),.int Y n,v] w (PJ SInv w P d (G (H ⟨b,0,Z⟩)) (z,X)):=fun z h=>h.mono fun e w' ⟨he,hw⟩=>by
  subst hw;exact⟨he,P,h',Chg.refl _ _⟩
 have KA:=vJ (Fo hm AL);have KH:=vJ (Qn hm n);have KL:=vJ (NC w n);obtain⟨ao,cap,rM,_⟩:=hv.shape;unfold kY;cases hw:X.wi
 . rw[AC rfl]
   refine same 17 ?_;rw[hw] at KA;clear h' hm hpl ho hlt Vv Mk same hv hj hn KH KL Vw;go_enter Tryz.func85,Tryz.ntmps85;go_wp2_with (go_at_call 29;(with_reducible refine KA.out.mono ?_);rintro e w' ⟨rfl,rfl⟩)
   go_ret;exact⟨rfl,rfl⟩
 . rw[AE (by decide)]
   rw[hw] at KA hm;obtain⟨aC,hcl,Om⟩:=hpl.wi1 hw;by_cases ha:n<0\/(X.is.length:Int)<=n\/l.length≠256
   . rw[AC ha]
     refine same 1 ?_;by_cases hr:0<=n/\n<X.ds.F.length
     . rw[AF hr] at KH
       rw[AF (by omega)] at KL;have hl:¬ (l.length:Int)=256:=(by omega);obtain⟨L,hL⟩:=nm l.length;rw[<- hL] at rM hl;subst rM;clear h' hm hpl ho hlt Vv Mk same hv hj hn Vw aC hcl Om ha hr hL;go_enter Tryz.func85,Tryz.ntmps85
       go_wp2_with (first
        |(go_at_call 29;(with_reducible refine KA.out.mono ?_);rintro e w' ⟨rfl,rfl⟩)
        |(go_at_call 126;(with_reducible refine KH.out.mono ?_);rintro e w' ⟨rfl,rfl⟩)
        |(go_at_call 127;(with_reducible refine KL.out.mono ?_);rintro e w' ⟨rfl,rfl⟩))
       go_ret;exact⟨rfl,rfl⟩
     . rw[AG hr] at KH
       clear h' hm hpl ho hlt Vv Mk same hv hj hn Vw aC hcl Om ha hr KL;go_enter Tryz.func85,Tryz.ntmps85
       go_wp2_with (first
        |(go_at_call 29;(with_reducible refine KA.out.mono ?_);rintro e w' ⟨rfl,rfl⟩)
        |(go_at_call 126;(with_reducible refine KH.out.mono ?_);rintro e w' ⟨rfl,rfl⟩))
       go_ret;exact⟨rfl,rfl⟩
   . rw[AE ha]
     have hr:0<=n/\n<X.ds.F.length:=(by omega);have hl:l.length=256:=(by omega);by_cases hf:n ∉ X.put/\37<=X.put.length
     . rw[AC hf]
       refine same 13 ?_;rw[aC] at hf;rw[AF hr] at KH;rw[AF (by omega)] at KL;have c3:=hm.c3;have Se:=hm.mp.look_ok Vw;have hlen:=fun ty=>hm.mp.len ty
       rw[AE hf.1,AG hf.1] at Se;have uj:37<=(pk.length:Int):=(by omega);obtain⟨m,hmm⟩:=nm pk.length;rw[<- hmm] at hlen uj;rw[hl] at rM;subst rM;clear h' hm hpl ho hlt Vv Mk same hv hj hn Vw aC hcl Om ha hr hf hl hmm;go_enter Tryz.func85,Tryz.ntmps85
       go_wp2_with (first
        |(go_at_call 29;(with_reducible refine KA.out.mono ?_);rintro e w' ⟨rfl,rfl⟩)
        |(go_at_call 126;(with_reducible refine KH.out.mono ?_);rintro e w' ⟨rfl,rfl⟩)
        |(go_at_call 127;(with_reducible refine KL.out.mono ?_);rintro e w' ⟨rfl,rfl⟩))
       go_ret;exact⟨rfl,rfl⟩
     . rw[AE hf]
       refine(kR hm hv hl hr (by omega) hpl.pl ?_).mono ?_
       . rw[aC] at hf
         by_cases hin:n∈pk
         . exact AN hin
         . refine Ba ?_
           have:¬ 37<=pk.length:=fun h=>hf ⟨hin,h⟩
           omega
       . rintro e w' ⟨rfl,u,hm',hu,En,hext⟩
         have hP:∀ k,k=bp->P k:=fun k e=>ho k (Ba (Ba (Ba (AN e))))
         refine⟨rfl,vm P w w',⟨b,be,bp,Pd,q,ek,eg,ev,Fj pk n,_,_,rfl,hm',?_,?_,?_⟩,(hext.sub hP).chg⟩
         . have hnn:((n.toNat:Nat):Int)=n:=Int.toNat_of_nonneg hr.1
           refine { hpl with ok:={ hpl.ok with call:=fun _=>by show(X.call.set _ _).length=_;rw[AJ];exact hcl },kp:=?_,pl:=?_,wi0:=fun e=>Bool.noConfusion (show AL=AI from e),wi1:=fun _=>⟨?_,?_,?_⟩ }
           . intro x hx
             rcases addS_mem.1 hx with hx|rfl
             . exact hpl.kp x hx
             . exact⟨hr.1,by show x<(X.is.length:Int);omega,hj⟩
           . unfold Fj
             split
             . exact hpl.pl
             . rename_i hin
               have:¬ 37<=pk.length:=fun h=>hf (by rw[aC];exact⟨hin,h⟩)
               rw[Ax,List.length_singleton];omega
           . show Fj X.put n=Fj pk n
             rw[aC]
           . show(X.call.set _ _).length=_
             rw[AJ];exact hcl
           . intro i hoi hi
             have hi':i<X.is.length:=hi;show(X.call.set n.toNat l).getD i []=_
             by_cases e:n.toNat=i
             . subst e
               rw[An,CB (by omega),AC (addS_mem.2 (Ba hnn)),AC hnn];rfl
             . have hne:(i:Int)≠n:=fun e'=>e (by omega)
               rw[An,Bw e,<- An,Om i hoi hi'];by_cases hin:(i:Int)∈pk
               . rw[AC hin,AC (addS_mem.2 (AN hin)),AE hne]
               . rw[AE hin,AE fun h=>hin ((addS_mem.1 h).resolve_right hne)]
         . intro k hk
           rcases hk with hk|rfl|rfl|rfl| ⟨x,hx,hg⟩| ⟨x,hx,hg⟩
           . exact AN (ho k (AN hk))
           . exact AN (ho _ (Ba (AN rfl)))
           . exact AN (ho _ (Ba (Ba (AN rfl))))
           . exact AN (ho _ (Ba (Ba (Ba (AN rfl)))))
           . exact AN (ho k (Ba (Ba (Ba (Ba (AN ⟨x,hx,hg⟩))))))
           . by_cases e:x=n
             . have hg:(if x=n then u else pg x).ownBlock=H k:=hg
               rw[AC e] at hg;exact Ba (hu k hg)
             . have hg:(if x=n then u else pg x).ownBlock=H k:=hg
               rw[AE e] at hg;exact AN (ho k (Ba (Ba (Ba (Ba (Ba ⟨x,(addS_mem.1 hx).resolve_right e,hg⟩))))))
         . rintro k (hk|hk)
           . exact AH (hlt k hk) En
           . exact hk.2
end
end
end Go.Proofs.YtdefiimcmecnnaaGreat
