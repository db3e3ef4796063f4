/- What the law rests on. -/
import Derived.Test.YtdefiimcmecnnaaGreatQC8
open Go.Value renaming int->J,slice->Ak,pointer->Am,tuple->AO,bool->A1,agg->BD
open Go.IntKind renaming i64->Y
open Go.Proofs.Tryz renaming prog->Ae
open Option renaming none->X,some->S
open Go.Ending renaming returned->Ag
open Go renaming World->Ah,Value->Aq,Calls->AA,Oper->BS,wpList->Cn
open Go.Obj renaming cells->Ar
open Go.RowKit renaming Below->At
open List renaming replicate->AD,nil_append->B0,length_cons->Ch
open Bool renaming false->AI,true->AL
open Or renaming inl->AN,inr->Ba
open Array renaming replicate->A3
open Int renaming toNat_natCast->B5
namespace Go.Proofs.YtdefiimcmecnnaaGreat
set_option maxHeartbeats 12000000
set_option linter.unusedVariables false
set_option maxRecDepth 100000
theorem Em:type_of% @List.pairwise_iff_getElem:=@List.pairwise_iff_getElem
section
open Go.RowKit
theorem Tw(w:Ah)(l:List Int)(hl:FJ l)(C:Array Aq)(hC:C=(l.map (J .u8)).toArray)(n:Nat)(hn:l.length=n):BSl (w.alloc (Ar C 5)) (Ak (S ⟨w.heap.size,0,X⟩) n n) l:=by
 subst hC hn;refine⟨hl,Ba ⟨⟨w.heap.size,0,X⟩,l.length,rfl,AB _,fun j hj=>⟨by simp,rfl,?_⟩⟩⟩;show(w.alloc _).cell? ⟨w.heap.size,0+j,X⟩=_
 rw[Bm,Az _ _ _ _ _ _ (Aw w _)];simp[hj]
theorem bu(n:Int)(h:0<=n/\n<=255):BN n 1=[n]:=by
 rw[Hz,Hy,B0];simp only[Nat.mul_zero,Int.pow_zero,Int.ediv_one];rw[Dw h.1 (by omega)]
theorem kw(x:List Int)(h0:0<=x.getD 0 0/\x.getD 0 0<=255)(h1:0<=x.getD 1 0/\x.getD 1 0<=255):Gn x 2=[x.getD 0 0,x.getD 1 0]:=by
 show([] ++ BN (x.getD 0 0) 1) ++ BN (x.getD 1 0) 1=_
 rw[bu _ h0,bu _ h1];rfl
theorem h_{w w':Ah}{row:Option Nat}(h:w.grownBy w' row)(b:Nat)(hb:b<w.heap.size)(hne:∀ k,row=S k->k≠b):w'.heap[b]? =w.heap[b]? :=
 h.block b hb (fun e=>hne b e.symm rfl)
theorem qE:(Ae.info? 121).map (·.size)=S 14:=by kernel_rfl
theorem fY{w:Ah}(ao:Option Addr)(len cap:Nat)(h:len≠8):AA Ae 59 #[Ak ao len cap] w fun e w'=>e=Ag (AO #[Ak X 0 0,J Y 1])/\w=w':=by
 have hne:((len:Int) != 8)=AL:=by simp;omega
 go_enter Tryz.func59,Tryz.ntmps59;go_wp2;go_ret2;exact⟨rfl,rfl⟩
theorem oD{w:Ah}{v:Aq}{O:List (List Int)}(hs:NSl w v O)(h8:O.length=8):AA Ae 59 #[v] w (aM O w):=by
 obtain⟨b,off,cap,rfl,hb,hc⟩:=hs.at (by omega);have H14:=vJ hs.1;have HYE:=vJ (Qx h8);have HNO:=vJ (fun k hk h=>bq (k:=k) h8 hk h);have H8:=vJ h8;rw[h8] at hc |-
 have HC:=vJ hc;clear hs hc h8;go_enter Tryz.func59,Tryz.ntmps59;go_wp2;go_loopw [4,13] (fun u i wr=>∃ k:Nat,k<=8/\i=J Y k/\Hid (OB wr w.heap.size u (E6 O k))/\Hid (∀ j,j<k->El (O.getD j [])=AL)/\At w.heap.size w wr) (fun _ i _=>8-(intOf i).toNat)
 case atStart=>exact⟨0,by omega,rfl,⟨Gq,E4 w _ _ _⟩,fun j hj=>absurd hj (A8 _),AM _ _⟩
 case round=>
  obtain⟨k,hk,rfl,HOB,HK,hbr⟩:=hrel;by_cases hlt:k<8
  . have Pb:=OI (HC.out k hlt) hbr hb
    have C6:=HNO.out k hlt;have h14:=Hx H14.out k (by rw[H8.out];exact hlt);have aA:E6 O (k+1)=E6 O k ++ NZ (O.getD k []):=rfl;obtain⟨x,hx⟩:=nm (O.getD k []);rw[<- hx] at Pb aA C6 h14;have ek:(k:Int)<8:=(by omega);have HX:=vJ hx;have HPK:=vJ aA;have HL:=vJ (Fv O k);have HN1:=vJ C6;have HRG:=vJ Pb;have HX14:Hid (zeroI.length=x.length):=vJ h14.symm;have HL14:=vJ h14;have HI14:Hid ((Ae.info? 121).map (·.size)=S x.length):=vJ (by rw[qE,h14]);have hz:(wr.alloc (Ar #[J Y 0,J Y 0,J Y 0,J Y 0,J Y 0,J Y 0,J Y 0,J Y 0,J Y 0,J Y 0,J Y 0,J Y 0,J Y 0,J Y 0] 121)).heap[wr.heap.size]? =S (iO zeroI 121):=Aw wr _;have hbz:=Ay wr (Ar #[J Y 0,J Y 0,J Y 0,J Y 0,J Y 0,J Y 0,J Y 0,J Y 0,J Y 0,J Y 0,J Y 0,J Y 0,J Y 0,J Y 0] 121);have HZ:=vJ hz;have HBZ:=vJ hbz;have u1:=Tryz.underlying121;obtain⟨B,hf⟩:∃ B,El x=B:=⟨_,rfl⟩;have HF:=vJ hf;have KF:=vJ (kN h14 B hf);clear hx aA C6 Pb h14 hz hbz hf;cases B
    . go_wp2_with (first
       |(with_reducible refine BK rfl 121 (.tmp 18) rfl b (off+k*14) rfl x _ HRG.out u1 rfl HI14.out ?_)
       |(with_reducible refine DA rfl 121 (.tmp 6) (.tmp 19) rfl wr.heap.size rfl x zeroI rfl HX14.out HI14.out _ HZ.out ?_
         intro w4 hw4 hr4;have Pc:=FN hr4;have hb4:=HBZ.out.trans (hw4.below (AB _)))
       |(with_reducible refine BK rfl 121 (.tmp 6) rfl wr.heap.size 0 rfl x _ Pc u1 rfl HI14.out ?_)
       |(go_at_call 97;refine(KF.out _).mono ?_;rintro e w5 ⟨rfl,hb5⟩))
      go_ret2;exact Ba ⟨HN1.out HF.out,rfl,(hbr.trans (hb4.mono hbr.size)).trans (hb5.mono (AT hbr.size hb4.size))⟩
    . have n0:=Iv HL14.out HF.out 0 (by decide)
      have n1:=Iv HL14.out HF.out 1 (by decide);have n2:=Iv HL14.out HF.out 2 (by decide);have n13:=Iv HL14.out HF.out 13 (by decide);rw[show w7 0=1 from rfl,show(256:Int) ^ 1=256 from rfl] at n0;rw[show w7 1=1 from rfl,show(256:Int) ^ 1=256 from rfl] at n1;rw[show w7 2=4 from rfl,show(256:Int) ^ 4=4294967296 from rfl] at n2;rw[show w7 13=2 from rfl,show(256:Int) ^ 2=65536 from rfl] at n13;have cP:=kw x (by omega) (by omega);have lS:Gn x 3=Gn x 2 ++ BN (x.getD 2 0) 4:=rfl;have aE:Gn x 14=Gn x 13 ++ BN (x.getD 13 0) 2:=rfl;have HD:=vJ (fun j (hj:j<10)=>Iv HL14.out HF.out (3+j) (by omega));have HGX:=vJ (fun(W:Ah) (h:W.heap[wr.heap.size]? =S (iO x 121)) j (hj:j<14)=>GC h j (by rw[HL14.out];exact hj));obtain⟨a0,e0⟩:=nm (x.getD 0 0);obtain⟨a1,e1⟩:=nm (x.getD 1 0);obtain⟨a2,e2⟩:=nm (x.getD 2 0);obtain⟨a13,e13⟩:=nm (x.getD 13 0);rw[<- e0] at n0 cP;rw[<- e1] at n1 cP;rw[<- e2] at n2 lS;rw[<- e13] at n13 aE;have E0:=vJ e0;have E1:=vJ e1;have E2:=vJ e2;have E13:=vJ e13;have HC2:=vJ cP;have HC3:=vJ lS;have HC14:=vJ aE;have HBB:Hid (FJ [a0,a1]):=vJ (CE fun y hy=>by simp at hy;omega);obtain⟨n00,n01⟩:=n0;obtain⟨n10,n11⟩:=n1;obtain⟨n20,n21⟩:=n2;obtain⟨n30,n31⟩:=n13;clear e0 e1 e2 e13 cP lS aE
      go_wp2_with (first
       |(with_reducible refine BK rfl 121 (.tmp 18) rfl b (off+k*14) rfl x _ HRG.out u1 rfl HI14.out ?_)
       |(with_reducible refine DA rfl 121 (.tmp 6) (.tmp 19) rfl wr.heap.size rfl x zeroI rfl HX14.out HI14.out _ HZ.out ?_
         intro w4 hw4 hr4;have Pc:=FN hr4;have hb4:=HBZ.out.trans (hw4.below (AB _)))
       |(with_reducible refine BK rfl 121 (.tmp 6) rfl wr.heap.size 0 rfl x _ Pc u1 rfl HI14.out ?_)
       |(go_at_call 97;refine(KF.out _).mono ?_;rintro e w5 ⟨rfl,hb5⟩
         have E3:=(hb5.block _ (Al.1 hr4).1).trans hr4;have TU:wr.heap.size<w5.heap.size:=(Al.1 E3).1;have c0:=HGX.out _ E3 0 (by decide);have c1:=HGX.out _ E3 1 (by decide);rw[<- E0.out] at c0;rw[<- E1.out] at c1;have HR5:=vJ E3;have HB5:=vJ (hb4.trans (hb5.mono hb4.size));clear Pc hb4 hb5 hw4 hr4 E3)
       |(at_builtin
         have hbx:=Ay w5 (Ar #[J .u8 a0,J .u8 a1] 5);have lT:=Tw w5 [a0,a1] HBB.out #[J .u8 a0,J .u8 a1] rfl 2 rfl;generalize w5.alloc (Ar #[J .u8 a0,J .u8 a1] 5)=w6 at hbx lT |-
         have hown:=HOB.out.2.lt;have h56:=HB5.out.trans (hbx.mono HB5.out.size);refine BY w6 rfl _ _ rfl w.heap.size _ (E6 O k) rfl (HOB.out.below h56) w6 _ [a0,a1] rfl lT (fun _ _=>rfl) (by rw[HL.out];simp;omega) (AT hbr.size h56.size) ?_;intro v7 w7' hob7 hb7 sO;have Vm:=(h_ sO wr.heap.size (AH TU hbx.size) (fun k hk e=>by have:=hown k hk;omega)).trans ((hbx.block _ TU).trans HR5.out);have c2:=HGX.out _ Vm 2 (by decide);rw[<- E2.out] at c2;have uA:wr.heap.size<w7'.heap.size:=(Al.1 Vm).1;have HR7:=vJ Vm;have HB7:=vJ ((hbr.trans (h56.mono hbr.size)).trans hb7);clear hbx lT hown h56 hb7 sO Vm c0 c1)
       |(go_at_call 79;refine(GO hob7.bsl (by rw[Ax,HL.out];simp;omega) a2 4 4 (by omega) (by omega) rfl n20 (by omega)).mono ?_;rintro e w8 ⟨v8,rfl,hob8,hb8⟩))
      have ie:=(hb8.block _ uA).trans HR7.out;have hg8:wr.heap.size<w8.heap.size:=(Al.1 ie).1;have h78:At w.heap.size w w8:=HB7.out.trans (hb8.mono HB7.out.size);have pR:(E6 O k ++ [a0,a1]) ++ BN a2 4=E6 O k ++ Gn x 3:=(by rw[HC3.out,HC2.out,AQ]);rw[pR] at hob8;have HOB8:=vJ (hob8.more HB7.out.size);have HR8:=vJ ie;have HB8:=vJ h78;obtain⟨g,hg⟩:=nm wr.heap.size;rw[<- hg] at HGX HR8 hg8 |-
      have HZF:Hid (FJ [0,0,0,0]):=vJ (CW 4);clear ie h78 pR hob8 hb8 c2 hob7 HR7 HB7 HR5 HB5 HZ HBZ TU uA hg;have uB:At w8.heap.size w8 w8:=AM _ _;go_loopw [4,37] (fun u i wi=>∃ j:Nat,j<=10/\i=J Y j/\Hid (OB wi w.heap.size u (E6 O k ++ Gn x (3+j)))/\At w8.heap.size w8 wi) (fun _ i _=>10-(intOf i).toNat)
      case atStart=>exact⟨0,by omega,rfl,HOB8,uB⟩
      case round=>
       obtain⟨j,hj,rfl,HOI,hbi⟩:=hrel;clear HOB8 uB;have hri:=(hbi.block _ hg8).trans HR8.out;have rU:=HB8.out.trans (hbi.mono HB8.out.size);by_cases uC:j<10
       . have cj:=HGX.out _ hri (3+j) (by omega)
         have nj:=HD.out j uC;have ri:Gn x (3+j+1)=Gn x (3+j) ++ BN (x.getD (3+j) 0) (w7 (3+j)):=rfl;rw[ON,show(256:Int) ^ 2=65536 from rfl] at nj;rw[ON] at ri;have hlen:(E6 O k ++ Gn x (3+j)).length<=140737488355300:=(by rw[Ax,HL.out,EO,Yi];omega);obtain⟨y,hy⟩:=nm (x.getD (3+j) 0);rw[<- hy] at cj nj ri;obtain⟨nj0,nj1⟩:=nj;have HCJ:=vJ ri;have HLE:=vJ hlen;have HWI:=vJ rU;have ej:(j:Int)<10:=(by omega);clear hy ri hlen hri rU;go_wp2_with (go_at_call 79;refine(GO HOI.out.bsl HLE.out y 2 2 (by omega) (by omega) rfl nj0 (by omega)).mono ?_;rintro e w9 ⟨v9,rfl,hob9,hb9⟩)
         go_roundw
         case rel=>
          refine⟨j+1,by omega,by go_num,?_,hbi.trans (hb9.mono hbi.size)⟩;show OB _ _ _ (E6 O k ++ Gn x (3+j+1))
          rw[HCJ.out,<- AQ];exact hob9.more HWI.out.size
         case measure=>simp[intOf];omega
       . obtain rfl:j=10:=by omega
         have c13:=HGX.out _ hri 13 (by decide);rw[<- E13.out] at c13;have HO13:=HOI;change Hid (OB _ _ _ (E6 O k ++ Gn x 13)) at HO13;have hlen:(E6 O k ++ Gn x 13).length<=140737488355300:=(by rw[Ax,HL.out,EO];have:p7 13=26:=rfl;omega);have HLE:=vJ hlen;have HWI:=vJ rU;clear hlen hri rU HOI
         go_wp2_with (first
          |(go_at_call 79;refine(GO HO13.out.bsl HLE.out a13 2 2 (by omega) (by omega) rfl n30 (by omega)).mono ?_;rintro e w10 ⟨v10,rfl,hob10,hb10⟩
            have HB10:=vJ (HWI.out.trans (hb10.mono HWI.out.size));have hob10':=hob10.more HWI.out.size;clear hb10 hob10)
          |(at_builtin
            have hbx:=Ay w10 (Ar #[J .u8 0,J .u8 0,J .u8 0,J .u8 0] 5);have lT:=Tw w10 [0,0,0,0] HZF.out #[J .u8 0,J .u8 0,J .u8 0,J .u8 0] rfl 4 rfl;generalize w10.alloc (Ar #[J .u8 0,J .u8 0,J .u8 0,J .u8 0] 5)=w11 at hbx lT |-
            have h011:=HB10.out.trans (hbx.mono HB10.out.size);refine BY w11 rfl _ _ rfl w.heap.size _ _ rfl (hob10'.below hbx) w11 _ [0,0,0,0] rfl lT (fun _ _=>rfl) (by rw[Ax,Bc];have:=HLE.out;simp only[Ch,List.length_nil];omega) h011.size ?_;intro v12 w12 hob12 hb12 _))
         go_roundw
         case rel=>
          refine⟨k+1,by omega,by go_num,?_,fun j hj=>?_,h011.trans hb12⟩
          . show OB _ _ _ (E6 O (k+1))
            rw[HPK.out,NZ,HC14.out,<- AQ,<- AQ];exact hob12
          . by_cases e:j=k
            . subst e;rw[<- HX.out];exact HF.out
            . exact HK.out j (by omega)
         case measure=>simp[intOf];omega
  . obtain rfl:k=8:=by omega
    go_wp2;go_ret2;exact AN ⟨HYE.out HK.out,_,rfl,HOB.out,hbr⟩
theorem fP{w:Ah}{v:Aq}{O:List (List Int)}(hs:NSl w v O):AA Ae 59 #[v] w (aM O w):=by
 by_cases h:O.length=8
 . exact oD hs h
 . obtain⟨ao,cap,rfl⟩:=hs.shape
   refine(fY ao _ cap h).mono fun e w' ⟨he,hw⟩=>Ba ⟨?_,he,by rw[<- hw];exact AM _ _⟩
   unfold Ho;rw[AG h];rfl
theorem S3{w:Ah}{v:Aq}{O:List (List Int)}(hs:NSl w v O)(h:Ho O=AL):AA Ae 59 #[v] w fun e w'=>∃ u,e=Ag (AO #[u,J Y 0])/\OB w' w.heap.size u (GG O)/\At w.heap.size w w':=
 (fP hs).mono fun e w' ho=>ho.elim (fun h1=>h1.2) fun h1=>by rw[h] at h1;cases h1.1
theorem fw{w:Ah}{B g:Nat}(hg:w.heap[g]? =S (Ar (A3 256 (J .u8 0)) 5 (0,0))):BElt w B (Ak (S ⟨g,0,X⟩) 256 256) zb:=by
 refine⟨QJ hg,fun _=>⟨g,0,256,by rw[OO],(Al.1 hg).1,Ba ⟨_,hg⟩⟩⟩
theorem Ef{ops:Array BS}{rest:List BS}{op:BS}{a:Act}{w:Ah}{Q:Exit->Act->Ah->Prop}(Dn:op.guard=X)(x y:Operand)(ho:op.op=.store 49 x y)
 (B g n cap k:Nat) (L:List (List Int)) (l:List Int) (u:Aq) (hx:a.eval x=Am (S ⟨g,k,X⟩)) (hy:a.eval y=u) (hown:BBR w B (Ak (S ⟨g,0,X⟩) n cap) L) (hk:k<L.length) (hu:BElt w B u l)
 (h:∀ w',BBR w' B (Ak (S ⟨g,0,X⟩) n cap) (L.set k l)->At B w w'->Wrote w w' g->Cn Ae ops Q rest (a.put op.dst undef) w'):Cn Ae ops Q (op :: rest) a w:=by
 obtain⟨ao,cap',rfl,_⟩:=hu.1.shape;obtain⟨cur,hg,En,hB⟩:=hown.row;have hf:=frozen_of_row w g k _ _ hg;have hc:w.cell? ⟨g,k,X⟩=S (cur[k]'(by omega)):=by rw[Az _ _ _ _ _ _ hg];simp[show k<cur.size by omega]
 have hs:=hown.set hk hu;have hw:=Wrote.setCell w g k (Ak ao l.length cap');refine CM Dn fun K hK=>?_
 unfold BS.wp execOp;simp only[ho,hx,hy]
 go_simp
 exact hK _ _ (h _ hs (hw.below hB) hw)
theorem aW{w0 w:Ah}{B:Nat}{u:Aq}{l:List Int}(hs:BSl w0 u l)(hB:B<=w0.heap.size)(hl:l.length<=1000)(x:Int)(hx0:0<=x)(hx:x<=65535)(hb:At w0.heap.size w0 w):
 AA Ae 79 #[u,J .u64 x,J Y 2] w fun e w'=>∃ v,e=Ag v/\OB w' B v (l ++ BN x 2)/\At w0.heap.size w0 w':=
 (GO (hs.below hb) (by omega) x 2 2 (by omega) (by omega) rfl hx0 (by omega)).mono fun e w' ⟨v,he,hob,hb2⟩=>⟨v,he,hob.more (AT hB hb.size),hb.trans (hb2.mono hb.size)⟩
theorem Yo{w:Ah}{b off cap:Nat}{O:List (Int × Int)}(hO:O.length=64)(hB:OwB O)(hb:b<w.heap.size)
 (hc:∀ j,j<O.length->w.cell? ⟨b,off+j*2,X⟩=S (J .u16 (O.getD j (0,0)).1)/\w.cell? ⟨b,off+j*2+1,X⟩=S (J .u16 (O.getD j (0,0)).2))
 (hall:JW O 64=AL):AA Ae 53 #[Ak (S ⟨b,off,X⟩) 64 cap] w fun e w'=>∃ v,e=Ag (AO #[v,J Y 0])/\OB w' w.heap.size v (D3 O)/\At w.heap.size w w':=by
 have HC:=vJ hc;have HO:=vJ hO;have HBB:=vJ hB;have HAL:=vJ ((Nh O 64).1 hall);have pH:D3 O=EG O 64:=by unfold D3;rw[hO]
 have HPO:=vJ pH;clear hc hO hB hall pH;go_enter Tryz.func53,Tryz.ntmps53;go_wp2;go_loopw [4,11] (fun u i wr=>∃ k:Nat,k<=64/\i=J Y k/\Hid (OB wr w.heap.size u (EG O k))/\At w.heap.size w wr) (fun _ i _=>64-(intOf i).toNat)
 case atStart=>exact⟨0,by omega,rfl,(⟨Gq,E4 _ _ _ _⟩:OB _ _ _ []),AM _ _⟩
 case round=>
  obtain⟨k,hk,rfl,HU,hbr⟩:=hrel;by_cases hlt:k<64
  . have hck:=HC.out k (by rw[HO.out];exact hlt)
    have hbd:=HBB.out k;have hj:OU O k=GF (O.getD k (0,0)).1 (O.getD k (0,0)).2:=rfl;obtain⟨x,hx⟩:=nm ((O.getD k (0,0)).1);obtain⟨y,hy⟩:=nm ((O.getD k (0,0)).2);rw[<- hx,<- hy] at hck hbd hj;have c1:=(hbr.cell (p:=⟨b,off+k*2,X⟩) hb).trans hck.1;have c2:=(hbr.cell (p:=⟨b,off+k*2+1,X⟩) hb).trans hck.2;have ek:(k:Int)<64:=(by omega);have HPK:=vJ (Km O k x y hx hy);have hpl:=Fz O k;have HL1:Hid ((EG O k).length<=1000):=vJ (by omega);have HL2:Hid ((EG O k ++ BN x 2).length<=1000):=vJ (by rw[Ax,Bc];omega);clear hx hy hck hpl;have oH:=HAL.out k hlt;rw[hj] at oH;have HF:=vJ oH;clear oH hj;go_wp2_with (go_at_call 93;refine(OD x y hbd.1 hbd.2 AL HF.out _).mono ?_;rintro e w2 ⟨rfl,hb2⟩)
    have b0:b<wr.heap.size:=AH hb hbr.size;have b2:b<w2.drew.heap.size:=AH b0 hb2.size;have hbd2:At wr.heap.size wr w2.drew:=hb2.drew;have d1:w2.drew.cell? ⟨b,off+k*2,X⟩=S (J .u16 x):=(hbd2.cell (p:=⟨b,off+k*2,X⟩) b0).trans c1;have d2:w2.drew.cell? ⟨b,off+k*2+1,X⟩=S (J .u16 y):=(hbd2.cell (p:=⟨b,off+k*2+1,X⟩) b0).trans c2;have HC1:=vJ (fun W (h:At wr.heap.size wr W)=>(hbr.trans (h.mono hbr.size)));have HX:=vJ (fun W (h:At wr.heap.size wr W)=>And.intro ((h.cell (p:=⟨b,off+k*2,X⟩) b0).trans c1) ((h.cell (p:=⟨b,off+k*2+1,X⟩) b0).trans c2));have HP1:=vJ (fun W (h:At wr.heap.size wr W)=>aW (B:=w.heap.size) HU.out.bsl hbr.size HL1.out x hbd.1.1 hbd.1.2 h);have pJ:IntKind.u64.wrap x=x:=u64_in x hbd.1.1 (by omega);have hwy:IntKind.u64.wrap y=y:=u64_in y hbd.2.1 (by omega);clear c1 c2 hb2 b2
    go_region_held3 (fun W=>W.cell? ⟨b,off+k*2,X⟩=S (J .u16 x)/\W.cell? ⟨b,off+k*2+1,X⟩=S (J .u16 y)) (first|exact⟨f1,f2⟩|exact⟨e1,e2⟩|exact⟨d1,d2⟩) (first
     |(go_at_call 79;(with_reducible refine(HP1.out _ hbd2).mono ?_);rintro e w3 ⟨v3,rfl,hs3,hb3⟩
       obtain⟨e1,e2⟩:=HX.out _ hb3;have HP2:=vJ (fun W (h:At w3.heap.size w3 W)=>aW (B:=w.heap.size) hs3.bsl (AT hbr.size hb3.size) HL2.out y hbd.2.1 hbd.2.2 h))
     |(go_at_call 79;(with_reducible refine(HP2.out _ (AM _ _)).mono ?_);rintro e w4 ⟨v4,rfl,hs4,hb4⟩
       obtain⟨f1,f2⟩:=HX.out _ (hb3.trans (hb4.mono hb3.size))))
    go_wp2_with fail
    go_roundw
    case rel=>exact⟨k+1,by omega,by go_num,by show OB _ _ _ (EG O (k+1));rw[HPK.out];exact hs4,HC1.out _ (hb3.trans (hb4.mono hb3.size))⟩
    case measure=>simp[intOf];omega
  . obtain rfl:k=64:=by omega
    go_wp2;go_ret2;exact⟨_,rfl,by rw[HPO.out];exact HU.out,hbr⟩
theorem Yn{w:Ah}{v:Aq}{O:List (Int × Int)}(hs:OwSl w v O)(h:F5 O=AL):AA Ae 53 #[v] w fun e w'=>∃ v,e=Ag (AO #[v,J Y 0])/\OB w' w.heap.size v (D3 O)/\At w.heap.size w w':=by
 have hl:=Jt h;obtain⟨b,off,cap,rfl,hb,hc⟩:=hs.at (by omega);rw[hl];refine Yo hl hs.1 hb hc ?_;rw[F5,hl] at h
 simpa using h
structure P2 (G:List (List Int)) (O:List (Int × Int)) (kk g:Nat):Prop where
 len:G.length=64*kk
 ds:∀ h,h<g->G.getD (Ci h) []=GI (h:Int) (CQ (Fa O h) 64)/\G.getD (Ci h+1) []=D3 (Fa O h)
 jr:∀ i,3<=i->i<43->G.getD i []=zb
theorem P2.zero(O:List (Int × Int)){kk:Nat}(h:1<=kk):P2 (AD (64*kk) zb) O kk 0:=
 ⟨A4,fun h hh=>absurd hh (A8 _),fun i h1 h2=>by rw[An,BF,AC (by omega)];rfl⟩
theorem P2.group{G:List (List Int)}{O:List (Int × Int)}{kk g:Nat}(h:P2 G O kk g)(hg:g<kk):P2 ((G.set (Ci g) (GI (g:Int) (CQ (Fa O g) 64))).set (Ci g+1) (D3 (Fa O g))) O kk (g+1):=by
 have hl:=h.len;have hin:=JL hg;have e:∀ m,((G.set (Ci g) (GI (g:Int) (CQ (Fa O g) 64))).set (Ci g+1) (D3 (Fa O g))).getD m []=if m=Ci g+1 then D3 (Fa O g) else if m=Ci g then GI (g:Int) (CQ (Fa O g) 64) else G.getD m []:=fun m=>by
  rw[BM.getD_set _ _ _ _ _ (by rw[AJ];omega),BM.getD_set _ _ _ _ _ (by omega)]
 refine⟨by rw[AJ,AJ];exact hl,fun x hx=>?_,fun i h1 h2=>?_⟩
 . by_cases he:x=g
   . subst he
     exact⟨by rw[e,AE (by omega),AC rfl],by rw[e,AC rfl]⟩
   . have hne:=T0 he
     obtain⟨a,b⟩:=h.ds x (by omega);exact⟨by rw[e,AE hne.2.2,AE hne.1];exact a,by rw[e,AE (by omega),AE hne.2.1];exact b⟩
 . rw[e,AE (by unfold Ci;split <;> omega),AE (by unfold Ci;split <;> omega)];exact h.jr i h1 h2
theorem P2.other{G:List (List Int)}{O:List (Int × Int)}{kk g:Nat}(h:P2 G O kk g){i:Nat}(hi:i=0\/(43<=i/\i<64))(x:List Int):P2 (G.set i x) O kk g:=by
 have hl:=h.len;have e:∀ m,m≠i->(G.set i x).getD m []=G.getD m []:=fun m hm=>by rw[An,Bw (CR hm),<- An]
 refine⟨by rw[AJ];exact hl,fun y hy=>?_,fun j h1 h2=>?_⟩
 . obtain⟨a,b⟩:=h.ds y hy
   have h1:Ci y≠i/\Ci y+1≠i:=by unfold Ci;split <;> omega
   exact⟨by rw[e _ h1.1];exact a,by rw[e _ h1.2];exact b⟩
 . rw[e _ (by omega)];exact h.jr j h1 h2
theorem Uj(w:Ah)(b off n cap l h:Nat)(h1:l<=h)(h2:h<=cap)(h3:l<cap):
 (Instr.sliceAt 106 (Ak (S ⟨b,off,X⟩) n cap) (S (J Y (l:Int))) (S (J Y (h:Int))) X).run Ae w=.ok (Ak (S ⟨b,off+l*2,X⟩) (h-l) (cap-l)) w:=by
 obtain⟨i,g2,g3,g4,g5⟩:=By Ue;have hne:cap≠l:=by omega
 have ee:Ae.elem 106=165:=by kernel_rfl
 have hs:(sizeOf 165).run Ae w=.ok 2 w:=by simp[sizeOf,typeInfo,g2,g4]
 rw[run_sliceAt_slice w 106 _ _ _ _ (by rw[ee];exact Tryz.underlying106),run_slice_lh w 106 _ n cap (by rw[ee];exact Tryz.underlying106) Y Y (l:Int) (h:Int) (by omega) (by omega) (by omega),ee,hs];simp[sliced,hne,Cb]
theorem OV{w:Ah}{ops:Array BS}{rest:List BS}{o:BS}{a:Act}{Q:Exit->Act->Ah->Prop}(Dn:o.guard=X)(x lo hi:Operand)(ho:o.op=.slice 106 x (S lo) (S hi) X)
 (b off n cap:Nat) (hx:a.eval x=Ak (S ⟨b,off,X⟩) n cap) (L H:Int) (hl:a.eval lo=J Y L) (hh:a.eval hi=J Y H) (l h m:Nat) (hm:h-l=m) (hL:L=l) (hH:H=h) (h1:l<=h) (h2:h<=cap) (h3:l<cap) (of:Nat) (hof:off+l*2=of)
 (hK:Cn Ae ops Q rest (a.put o.dst (Ak (S ⟨b,of,X⟩) m (cap-l))) w):Cn Ae ops Q (o :: rest) a w:=by
 subst hL hH hm hof;refine CM Dn fun K hK'=>?_
 unfold BS.wp execOp;simp only[ho,hx,hl,hh,Option.map_some,Option.map_none,Uj w b off n cap l h h1 h2 h3,DE,Sem.run_pure,Result.andThen_ok];exact hK' _ _ hK
theorem mU:(Ae.info? 121).map (fun i=>(i.zero,i.size,i.bytes))=S (S (BD #[J Y 0,J Y 0,J Y 0,J Y 0,J Y 0,J Y 0,J Y 0,J Y 0,J Y 0,J Y 0,J Y 0,J Y 0,J Y 0,J Y 0]),14,112):=by kernel_rfl
theorem Js(w:Ah){ops:Array BS}{rest:List BS}{o:BS}{a:Act}{Q:Exit->Act->Ah->Prop}
 (hg:o.guard=X) (l c:Operand) (Mr:o.op=Op.makeSlice 120 l c) (C:Int) (n:Nat) (hl:a.eval l=J Y C) (hc:a.eval c=J Y C) (hC:C=n) (hn:n<=1000000)
 (hK:Cn Ae ops Q rest (a.put o.dst (Ak (S ⟨w.heap.size,0,X⟩) n n)) (w.alloc (Ar (nC (AD n zeroI)).toArray 121))):
 Cn Ae ops Q (o :: rest) a w:=by
 refine CM hg fun K hK'=>?_
 obtain⟨i,h2,h3,h4,h5⟩:=By mU;subst hC;have DY:=run_make (P:=Ae) w 120 121 i (BD #[J Y 0,J Y 0,J Y 0,J Y 0,J Y 0,J Y 0,J Y 0,J Y 0,J Y 0,J Y 0,J Y 0,J Y 0,J Y 0,J Y 0]) Tryz.underlying120 h2 h3 Y Y n n (by omega) (by omega) (by rw[h5];omega) (by omega);unfold BS.wp;simp only[B5,h4,WQ] at DY;simp[execOp,Mr,hl,hc,DY,Result.andThen];exact hK' _ _ hK
theorem fW{w:Ah}{go:Nat}{kk g cap:Nat}(hgo:go<w.heap.size)(hg:g<kk)(hc:∀ j,j<64*kk->w.cell? ⟨go,j*2,X⟩=S (J .u16 (Gx (64*kk) j).1)/\w.cell? ⟨go,j*2+1,X⟩=S (J .u16 (Gx (64*kk) j).2)):
 OwSl w (Ak (S ⟨go,64*g*2,X⟩) 64 cap) (Fa (FE kk) g):=by
 have hl:(Fa (FE kk) g).length=64:=FZ (CL _ _) hg;have e:∀ j,j<64->(Fa (FE kk) g).getD j (0,0)=Gx (64*kk) (64*g+j):=fun j hj=>by
  rw[Jf _ _ hj];exact F9 _ _ _ (by omega)
 refine⟨Ku fun j hj=>?_,Ba ⟨⟨go,64*g*2,X⟩,cap,by rw[hl],fun j hj=>?_⟩⟩
 . rw[e j (by omega)];exact Ut _ _
 . rw[hl] at hj
   obtain⟨a,b⟩:=hc (64*g+j) (by omega);refine⟨hgo,rfl,?_,?_⟩
   . rw[e j hj]
     show w.cell? ⟨go,64*g*2+j*2,X⟩=_
     rw[show 64*g*2+j*2=(64*g+j)*2 by omega];exact a
   . rw[e j hj]
     show w.cell? ⟨go,64*g*2+j*2+1,X⟩=_
     rw[show 64*g*2+j*2+1=(64*g+j)*2+1 by omega];exact b
theorem BB2.low{w w':Ah}{B E:Nat}{v:Aq}{G:List (List Int)}(h:BB2 w B E v G)(hb:At w.heap.size w w'):BB2 w' B E v G:=by
 obtain⟨vs,hl,hr,ho⟩:=h;exact⟨vs,hl,fun j hj=>(hr j hj).below hb,Fu ho fun g hg=>hb.block g (Ck ho g hg).2⟩
theorem BB2.shape0{w:Ah}{B E:Nat}{v:Aq}{G:List (List Int)}(h:BB2 w B E v G)(h0:0<G.length):∃ g cap,v=Ak (S ⟨g,0,X⟩) G.length cap/\B<=g/\g<w.heap.size:=by
 obtain⟨vs,hl,hr,ho⟩:=h;rcases ho.2 with⟨_,e0⟩| ⟨g,cap,cur,rfl,hB,hg,_⟩
 . omega
 . exact⟨g,cap,rfl,hB,(Al.1 hg).1⟩
theorem gF(n:Int){k:Nat}(h:49<=k):Hh n k=[n,0,0,0,0,0,43,44,45,46,47,48]:=by
 have e:Ze k=[43,44,45,46,47,48]:=by
  unfold Ze;apply Bi (by simp);intro i h1 h2;simp only[Ct,Cg];simp at h1;rw[AC (by omega)];have:i=0\/i=1\/i=2\/i=3\/i=4\/i=5:=by omega
  rcases this with rfl|rfl|rfl|rfl|rfl|rfl <;> rfl
 unfold Hh;rw[e];rfl
theorem eY{kk:Nat}(h1:1<=kk)(h2:kk<=12)(w:Ah):AA Ae 58 #[J Y (64*(kk:Int))] w fun e w'=>e=Ag (BD #[J Y (64*(kk:Int)),J Y 0,J Y 0,J Y 0,J Y 0,J Y 0,J Y 43,J Y 44,J Y 45,J Y 46,J Y 47,J Y 48])/\At w.heap.size w w':=by
 have:=gm h1 h2 w;rw[gF _ (by omega)] at this;exact this
theorem e_{kk:Nat}(h1:1<=kk)(h2:kk<=12)(w:Ah):AA Ae 60 #[BD #[J Y (64*(kk:Int)),J Y 0,J Y 0,J Y 0,J Y 0,J Y 0,J Y 43,J Y 44,J Y 45,J Y 46,J Y 47,J Y 48]] w fun e w'=>∃ u,e=Ag (AO #[u,J Y 0])/\OB w' w.heap.size u (GD (Ed kk))/\At w.heap.size w w':=by
 have hT:TD (Ed kk):=fun i=>by
  unfold num Ed;by_cases hi:i<12
  . have:i=0\/i=1\/i=2\/i=3\/i=4\/i=5\/i=6\/i=7\/i=8\/i=9\/i=10\/i=11:=by omega
    rcases this with rfl|rfl|rfl|rfl|rfl|rfl|rfl|rfl|rfl|rfl|rfl|rfl <;> simp <;> omega
  . rw[An,A5 (by simp;omega)];decide
 refine(mI (L:=Ed kk) rfl hT w).mono fun e w' he=>?_
 rcases he with⟨_,v,h1,h2,h3⟩| ⟨h0,_,_⟩
 . exact⟨v,h1,h2,h3⟩
 . rw[RM h1 h2] at h0;cases h0
theorem kP:(Ae.info? 121).map (·.size)=S 14:=by kernel_rfl
theorem nT{W:Ah}{g:Nat}{n:Int}{T:TypeId}(h:W.heap[g]? =S (Ar #[J Y n,J Y 0,J Y 0,J Y 0,J Y 0,J Y 0,J Y 43,J Y 44,J Y 45,J Y 46,J Y 47,J Y 48] T (0,0))){k:Nat}(hk:k<6):W.cell? ⟨g,6+k,X⟩=S (J Y ((43+k:Nat):Int)):=by
 rw[Az _ _ _ _ _ _ h];have:k=0\/k=1\/k=2\/k=3\/k=4\/k=5:=by omega
 rcases this with rfl|rfl|rfl|rfl|rfl|rfl <;> rfl
theorem dU{kk:Nat}(h1:1<=kk)(h2:kk<=12)(w:Ah):AA Ae 26 #[J Y (64*(kk:Int)),J Y (64*(kk:Int))] w fun e w'=>∃ v G,e=Ag v/\BBR w' 0 v G/\P2 G (FE kk) kk kk/\New3 G kk/\At w.heap.size w w':=by
 have KN:=vJ (fun(W:Ah)=>SS h1 h2 W);have KG:=vJ (fun(W:Ah)=>Pu kk h1 h2 W);have KSu:=vJ (fun(W:Ah)=>eY h1 h2 W);have KES:=vJ (fun(W:Ah)=>e_ h1 h2 W);obtain⟨M8,sR⟩:∃ M:Nat,M=8:=⟨_,rfl⟩;have HM8:Hid ((8:Int)=(M8:Int)):=vJ (by omega);have hM8':1<M8:=by omega
 have hM82:M8<=1000:=by omega
 have HA0:Hid (Ho ((AD M8 zeroI).set 1 [2,1,0,0,0,0,0,0,0,0,0,0,0,0])=AL/\GG ((AD M8 zeroI).set 1 [2,1,0,0,0,0,0,0,0,0,0,0,0,0])=GG (J9 newN 0)):=vJ (by subst sR;exact⟨newT_frm.1,rfl⟩);have HA1:Hid (Ho (AD M8 zeroI)=AL/\∀ k,k<6->k≠0->GG (AD M8 zeroI)=GG (J9 newN k)):=vJ (by subst sR;exact⟨newT_frm.2,fun k h h0=>by rw[ZG h h0]⟩);clear sR;have HOK:=vJ (bt h1 h2);obtain⟨M,hM⟩:∃ M:Nat,M=256:=⟨_,rfl⟩;have HM:Hid ((256:Int)=(M:Int)):=vJ (by omega);have hM2:M<=1000:=by omega
 have HBZ:Hid (∀ (W:Ah) (B g:Nat),W.heap[g]? =S (Ar (A3 M (J .u8 0)) 5 (0,0))->BElt W B (Ak (S ⟨g,0,X⟩) M M) zb):=vJ (by subst hM;exact fun W B g h=>fw h);clear hM;go_enter Tryz.func26,Tryz.ntmps26;go_wp2;go_loopw [5,23] (fun v i wr=>∃ k:Nat,k<=64*kk/\i=J Y k/\Hid (BB2 wr w.heap.size 0 v (AD k zb))/\At w.heap.size w wr) (fun _ i _=>64*kk-(intOf i).toNat)
 case atStart=>exact⟨0,by omega,rfl,⟨[],rfl,fun j hj=>absurd hj (A8 _),E4 _ _ _ _⟩,AM _ _⟩
 case round=>
  obtain⟨k,hk,rfl,HV,hbr⟩:=hrel;by_cases hlt:k<64*kk
  . have XH:(k:Int)<64*(kk:Int):=by omega
    have hbz:=Ay wr (Ar (A3 M (J .u8 0)) 5);have HE:=vJ (HBZ.out (wr.alloc (Ar (A3 M (J .u8 0)) 5)) 0 wr.heap.size (Aw wr _));have HV2:=vJ (HV.out.low hbz);have HZ:Hid (AD (k+1) zb=AD k zb ++ [zb]):=vJ List.replicate_succ';have HL:Hid ((AD k zb).length<=100000):=vJ (by rw[A4];omega);have En:=hbr.size
    go_wp2_with (first
     |(at_make;refine C9 _ rfl _ _ rfl _ M rfl rfl HM.out (by omega) ?_)
     |(at_builtin;refine G0 63 Tryz.underlying63 (wr.alloc (Ar (A3 M (J .u8 0)) 5)) (Ak (S ⟨wr.heap.size,0,X⟩) M M) zb rfl (.tmp 25) (.tmp 27) rfl w.heap.size 0 (AX _) _ (AD k zb) rfl HV2.out HE.out _ rfl (by simp) HL.out (by simp;omega) ?_;intro v' w4 hv4 hb4;have HV4:Hid (BB2 w4 w.heap.size 0 v' (AD (k+1) zb)):=vJ (by rw[HZ.out];exact hv4);have HB4:=vJ ((hbr.trans (hbz.mono En)).trans hb4);clear hv4 hb4))
    go_roundw
    case rel=>exact⟨k+1,by omega,by go_num,HV4,HB4.out⟩
    case measure=>simp[intOf];omega
  . obtain rfl:k=64*kk:=by omega
    obtain⟨g0,cap0,ev,l7,uD⟩:=HV.out.shape0 (by rw[A4];omega);rw[A4] at ev;subst ev;have HV1:=vJ (HV.out.lower (AX _)).bbr;clear HV
    go_wp2_with (first
     |(go_at_call 51;refine(KN.out _).mono ?_;rintro e w3 ⟨b,go,capo,Ms,rfl,hR,c1,TZ,hag,hMs,hbl,Ok,Cm,hcc,hb3⟩)
     |(go_at_call 52;refine(KG.out _).mono ?_;rintro e w' ⟨rfl,rfl⟩))
    have HP0:Hid (∃ G,BBR w3 0 (Ak (S ⟨g0,0,X⟩) (64*kk) cap0) G/\P2 G (FE kk) kk 0):=vJ ⟨_,HV1.out.below hb3,P2.zero _ h1⟩;have HB0:Hid (At w.heap.size w w3/\w3.heap.size<=w3.heap.size):=vJ ⟨hbr.trans (hb3.mono hbr.size),AB _⟩;have HC1:=vJ c1;have HCC:=vJ hcc;obtain⟨A,hA⟩:=nm wr.heap.size;have HG0:Hid (w.heap.size<=g0/\g0<A):=vJ (by rw[hA];exact⟨l7,uD⟩);have HBG:Hid (A<=b/\A<=go/\b<w3.heap.size/\go<w3.heap.size):=vJ (by rw[hA];exact⟨TZ,hag,hbl,Ok⟩);clear hR c1 hMs hcc hb3 TZ hag hbl Ok l7 uD HV1 hbr HBZ HM hA;go_loopw [34] (fun i WI=>∃ g:Nat,g<=kk/\i=J Y g/\Hid (∃ G,BBR WI 0 (Ak (S ⟨g0,0,X⟩) (64*kk) cap0) G/\P2 G (FE kk) kk g)/\Hid (∀ x,A<=x->x<w3.heap.size->WI.heap[x]? =w3.heap[x]?)/\Hid (At w.heap.size w WI/\w3.heap.size<=WI.heap.size)) (fun i _=>kk-(intOf i).toNat)
    case atStart=>exact⟨0,by omega,rfl,HP0,vJ fun _ _ _=>rfl,HB0⟩
    case round=>
     obtain⟨g,hg,rfl,HP,HF,HB⟩:=hrel;clear HP0 HB0;by_cases cQ:g<kk
     . obtain⟨G,hG,hP⟩:=HP.out
       have oL:=hP.len;have eg:(g:Int)<12:=(by omega);have egk:(g:Int)<(kk:Int):=(by omega);have hin:=JL cQ;have i1:(Ci g:Int)<64*(kk:Int):=(by omega);have i2:(Ci g:Int)+1<64*(kk:Int):=(by omega);have cc1:=(Bh (a:=⟨b,1,X⟩) (HF.out b HBG.out.1 HBG.out.2.2.1)).trans HC1.out;have uE:∀ j,j<64*kk->wr.cell? ⟨go,j*2,X⟩=S (J .u16 (Gx (64*kk) j).1)/\wr.cell? ⟨go,j*2+1,X⟩=S (J .u16 (Gx (64*kk) j).2):=fun j hj=>
        ⟨(Bh (a:=⟨go,j*2,X⟩) (HF.out go HBG.out.2.1 HBG.out.2.2.2)).trans (HCC.out j hj).1,(Bh (a:=⟨go,j*2+1,X⟩) (HF.out go HBG.out.2.1 HBG.out.2.2.2)).trans (HCC.out j hj).2⟩
       have hos:=fW (cap:=capo-64*g) (AH HBG.out.2.2.2 HB.out.2) cQ uE;obtain⟨_,gA,_⟩:=HOK.out.gr cQ;obtain⟨Og,rA⟩:=nm (Fa (FE kk) g);obtain⟨D,hD⟩:=nm (GI (g:Int) (CQ Og 64));have hP3:=hP.group cQ;rw[<- rA] at hos gA hP3;rw[<- hD] at hP3;have KP:=vJ (Yn hos gA);have KO:Hid (∀ W,At wr.heap.size wr W->AA Ae 54 #[J Y g,Ak (S ⟨go,64*g*2,X⟩) 64 (capo-64*g)] W fun e w'=>∃ aL nL cL,e=Ag (AO #[BD #[J Y g,Ak aL nL cL],J Y 0])/\KSl w' (Ak aL nL cL) (CQ Og 64)/\At W.heap.size W w'):=vJ fun W hb=>(gY (hos.below hb) (g:Int) (by omega) (by omega) gA).mono fun e w' ⟨v,h1,h2,h3⟩=>by
        obtain⟨aL,cL,rfl⟩:=h2.ksl.shape;exact⟨_,_,_,h1,h2.ksl,h3⟩
       have KE:Hid (∀ (W:Ah) (v:Aq),KSl W v (CQ Og 64)->AA Ae 55 #[BD #[J Y g,v]] W fun e w'=>∃ v,e=Ag (AO #[v,J Y 0])/\OB w' W.heap.size v D/\At W.heap.size W w'):=vJ fun W v hk=>by
        rw[hD];exact eQ hk (g:Int) (by omega) (by omega) (EZ _ _)
       have KGd:=vJ (fun(W:Ah)=>OG (g:Int) W);have KGo:=vJ (fun(W:Ah)=>WC (g:Int) W);rw[UF (show g<12 by omega)] at KGd;rw[Yw (show g<12 by omega)] at KGo;have HGG:=vJ hG;have HP3:=vJ hP3;have HGL:Hid (Ci g<G.length/\Ci g+1<G.length):=vJ (by omega);have tT:64*g+64<=capo:=(by omega);clear hG hP oL hin uE hos gA rA hD hP3
       go_wp2_with (first
        |(with_reducible refine OV rfl (.tmp 40) (.tmp 42) (.tmp 45) rfl go 0 (64*kk) capo rfl (64*(g:Int)) (64*(g:Int)+64) rfl rfl (64*g) (64*g+64) 64 (by omega) (by omega) (by omega) (by omega) tT (by omega) (64*g*2) (by omega) ?_)
        |(go_at_call 53;refine KP.out.mono ?_;rintro e w4 ⟨vp,rfl,hvp,hb4⟩)
        |(go_at_call 54;refine(KO.out _ hb4).mono ?_;rintro e w5 ⟨aL,nL,cL,rfl,hkl,hb5⟩;have hb45:=hb4.trans (hb5.mono hb4.size);have hbx:=Ay w5 (Ar #[J Y g,Ak aL nL cL] 112);have uF:=hkl.below hbx)
        |(go_at_call 55;refine(KE.out _ _ uF).mono ?_;rintro e w6 ⟨vd,rfl,hvd,hb6⟩;have hb46:=(hb45.trans (hbx.mono hb45.size)).trans (hb6.mono (AT hb45.size hbx.size));have pW:=(hb5.trans (hbx.mono hb5.size)).trans (hb6.mono (AT hb5.size hbx.size));have hG6:=HGG.out.below hb46;have hvp6:=(hvp.below pW).elt (B:=0);have uG:=hvd.elt (B:=0);obtain⟨cur6,hr6,_,_⟩:=hG6.row)
        |(with_reducible refine Ef rfl (.tmp 71) (.tmp 69) rfl 0 g0 (64*kk) cap0 (Ci g) G D vd rfl rfl hG6 HGL.out.1 uG ?_;intro w7 pX hb7 hw7;have uH:=hvp6.wrote hw7 (AX _) hr6 (by decide))
        |(with_reducible refine Ef rfl (.tmp 72) (.tmp 70) rfl 0 g0 (64*kk) cap0 (Ci g+1) (G.set (Ci g) D) (D3 Og) vp rfl rfl pX (by rw[AJ];exact HGL.out.2) uH ?_;intro w8 hG8 hb8 hw8)
        |(go_at_call 56;refine(KGd.out _).mono ?_;rintro e w' ⟨rfl,rfl⟩)
        |(go_at_call 57;refine(KGo.out _).mono ?_;rintro e w' ⟨rfl,rfl⟩))
       have HP8:Hid (∃ G,BBR w8 0 (Ak (S ⟨g0,0,X⟩) (64*kk) cap0) G/\P2 G (FE kk) kk (g+1)):=vJ ⟨_,hG8,HP3.out⟩;have HF8:Hid (∀ x,A<=x->x<w3.heap.size->w8.heap[x]? =w3.heap[x]?):=vJ fun x hx1 Qb=>by
        have hne:x≠g0:=(by have:=HG0.out.2;omega);exact(hw8.2.2.2.2 x hne).trans ((hw7.2.2.2.2 x hne).trans ((hb46.block x (AH Qb HB.out.2)).trans (HF.out x hx1 Qb)))
       have HB8:Hid (At w.heap.size w w8/\w3.heap.size<=w8.heap.size):=vJ ⟨((HB.out.1.trans (hb46.mono HB.out.1.size)).trans (hw7.below HG0.out.1)).trans (hw8.below HG0.out.1),by
        have h1:=HB.out.2;have h2:=hb46.size;have h3:=hb7.size;have h4:=hb8.size;omega⟩
       clear hvp hvd hkl uF hbx hb4 hb5 hb6 hb45 hb46 pW hG6 hvp6 uG hr6 pX hb7 hw7 uH hG8 hb8 hw8;go_roundw
       case rel=>exact⟨g+1,by omega,by go_num,HP8,HF8,HB8⟩
       case measure=>simp[intOf];omega
     . have e0:g=kk:=by omega
       subst e0;have HP1:=vJ HP.out;have hbr:=HB.out.1;have lO:g0<wr.heap.size:=by
        have a1:=HG0.out.2;have a2:=HBG.out.1;have a3:=HBG.out.2.2.1;have a4:=HB.out.2;omega
       clear HP HF HB cQ HBG HCC HC1 KN
       go_wp2_with (first
        |(go_at_call 58;refine(KSu.out _).mono ?_;rintro e w9 ⟨rfl,hb9⟩;have hbx:=Ay w9 (Ar #[J Y (64*(g:Int)),J Y 0,J Y 0,J Y 0,J Y 0,J Y 0,J Y 43,J Y 44,J Y 45,J Y 46,J Y 47,J Y 48] 118);have E5:=Aw w9 (Ar #[J Y (64*(g:Int)),J Y 0,J Y 0,J Y 0,J Y 0,J Y 0,J Y 43,J Y 44,J Y 45,J Y 46,J Y 47,J Y 48] 118)))
       obtain⟨s0,lE⟩:=nm w9.heap.size;have hb90:=hb9.trans (hbx.mono hb9.size);generalize w9.alloc (Ar #[J Y (64*(g:Int)),J Y 0,J Y 0,J Y 0,J Y 0,J Y 0,J Y 43,J Y 44,J Y 45,J Y 46,J Y 47,J Y 48] 118)=W0 at hbx E5 hb90 |-
       rw[<- lE] at E5 |-
       have HS0:=vJ E5;have hgs0:g0<s0:=(by have:=hb9.size;omega);have HSL:Hid (s0<W0.heap.size):=vJ (Al.1 E5).1;have HQ0:Hid (∃ G,BBR W0 0 (Ak (S ⟨g0,0,X⟩) (64*g) cap0) G/\P2 G (FE g) g g/\T3 G 0):=vJ (by obtain⟨G,a,b⟩:=HP1.out;exact⟨G,a.below hb90,b,T3.zero _⟩);have HB0:Hid (At w.heap.size w W0):=vJ (hbr.trans (hb90.mono hbr.size));have HNS:Hid (∀ (W:Ah) (gI:Nat) (O:List (List Int)),Gc O->O.length=M8->W.heap[gI]? =S (Ar (O.flatMap iC).toArray 121 (0,0))->NSl W (Ak (S ⟨gI,0,X⟩) M8 M8) O):=vJ fun W gI O h1 h2 h3=>by
        have:=(NR.of_row (B:=0) h1 (AX _) h3 (by rw[h2];simp only[maxLen];omega)).sl
        rwa [h2] at this
       have hZ:Gc (AD M8 zeroI):=fun x hx=>by rw[BR hx];rfl
       have HZ:=vJ hZ;have HZ1:Hid (Gc ((AD M8 zeroI).set 1 [2,1,0,0,0,0,0,0,0,0,0,0,0,0])):=vJ fun x hx=>by
        rcases Dr hx with h|h
        . exact hZ x h
        . rw[h];rfl
       have HI:Hid (∀ x∈AD M8 zeroI,(iC x).length=14):=vJ fun x hx=>by rw[Cx];exact hZ x hx
       clear hbx E5 hb90 hb9 lE hZ lO hbr HP1;go_wp2;go_loopw [76] (fun i WI=>∃ k:Nat,k<=6/\i=J Y k/\Hid (WI.heap[s0]? =S (Ar #[J Y (64*(g:Int)),J Y 0,J Y 0,J Y 0,J Y 0,J Y 0,J Y 43,J Y 44,J Y 45,J Y 46,J Y 47,J Y 48] 118 (0,0)))/\Hid (∃ G,BBR WI 0 (Ak (S ⟨g0,0,X⟩) (64*g) cap0) G/\P2 G (FE g) g g/\T3 G k)/\Hid (At w.heap.size w WI)) (fun i _=>6-(intOf i).toNat)
       case atStart=>exact⟨0,by omega,rfl,HS0,HQ0,HB0⟩
       case round=>
        obtain⟨k,hk,rfl,HS,HQ,HB⟩:=hrel;clear HS0 HQ0 HB0;by_cases uI:k<6
        . have ek6:(k:Int)<6:=by omega
          obtain⟨G,hG,hP,hT3⟩:=HQ.out;have hsl:=(Al.1 HS.out).1;have hbI:=Ay wr (Ar (nC (AD M8 zeroI)).toArray 121);have hnI:(wr.alloc (Ar (nC (AD M8 zeroI)).toArray 121)).heap[wr.heap.size]? =S (Ar ((AD M8 zeroI).flatMap iC).toArray 121 (0,0)):=Aw wr _;obtain⟨t,ht⟩:=nm (43+k);have lF:(t:Int)<64*(g:Int):=(by omega);have HTL:Hid (t<G.length):=vJ (by rw[hP.len];omega);have HC6:Hid (∀ W,At wr.heap.size wr W->W.cell? ⟨s0,6+k,X⟩=S (J Y (t:Int))):=vJ fun W hb=>by
           have h6:=(hb.block s0 hsl).trans HS.out;rw[nT h6 uI,ht]
          have HPT:Hid (∀ x,P2 (G.set t x) (FE g) g g):=vJ fun x=>hP.other (Ba (by omega)) x
          have HT3:Hid (∀ x,x=GG (J9 newN k)->T3 (G.set t x) (k+1)):=vJ fun x hx=>by rw[ht];exact hT3.put (by rw[hP.len];omega) hx
          have HGG:=vJ hG;have HS7:Hid (∀ W W',At wr.heap.size wr W->Wrote W W' g0->W'.heap[s0]? =S (Ar #[J Y (64*(g:Int)),J Y 0,J Y 0,J Y 0,J Y 0,J Y 0,J Y 43,J Y 44,J Y 45,J Y 46,J Y 47,J Y 48] 118 (0,0))):=vJ fun W W' hb hw=>(hw.2.2.2.2 s0 (by omega)).trans ((hb.block s0 hsl).trans HS.out)
          have hbs:=HB.out.size;clear ht hG hP hsl hT3;by_cases XT:k=0
          . subst XT
            go_wp2_with (first
             |(at_make;refine Js _ rfl _ _ rfl _ M8 rfl rfl HM8.out (by omega) ?_)
             |(refine Fh (f:=iC) (s:=14) rfl 121 (.tmp 84) (.tmp 83) rfl kP wr.heap.size 1 (AD M8 zeroI) [2,1,0,0,0,0,0,0,0,0,0,0,0,0] 121 rfl rfl hnI (by rw[A4];omega) HI.out rfl (QS _) ?_;intro w5 hw5 E3;have hbN:=hbI.trans (hw5.below (AB _));have Kj:=HNS.out w5 wr.heap.size _ HZ1.out (by rw[AJ,A4]) E3)
             |(go_at_call 59;refine(S3 Kj HA0.out.1).mono ?_;rintro e w6 ⟨u,rfl,hu,hb6⟩;have hb06:=hbN.trans (hb6.mono hbN.size);have c6:=HC6.out _ hb06;have hG6:=HGG.out.below hb06;have hu6:=hu.elt (B:=0))
             |(with_reducible refine Ef rfl (.tmp 96) (.tmp 95) rfl 0 g0 (64*g) cap0 t G _ u rfl rfl hG6 HTL.out hu6 ?_;intro w7 pX hb7 hw7))
            go_roundw
            case rel=>exact⟨1,by omega,rfl,vJ (HS7.out _ _ hb06 hw7),vJ ⟨_,pX,HPT.out _,HT3.out _ HA0.out.2⟩,vJ ((HB.out.trans (hb06.mono hbs)).trans (hw7.below HG0.out.1))⟩
            case measure=>simp[intOf]
          . have hk0b:((k:Int)==0)=AI:=by simpa using XT
            have Kj:=HNS.out _ wr.heap.size _ HZ.out (by rw[A4]) hnI;have HB1:=vJ hbI
            go_wp2_with (first
             |(at_make;refine Js _ rfl _ _ rfl _ M8 rfl rfl HM8.out (by omega) ?_)
             |(go_at_call 59;refine(S3 Kj HA1.out.1).mono ?_;rintro e w6 ⟨u,rfl,hu,hb6⟩;have hb06:=HB1.out.trans (hb6.mono HB1.out.size);have c6:=HC6.out _ hb06;have hG6:=HGG.out.below hb06;have hu6:=hu.elt (B:=0))
             |(with_reducible refine Ef rfl (.tmp 96) (.tmp 95) rfl 0 g0 (64*g) cap0 t G _ u rfl rfl hG6 HTL.out hu6 ?_;intro w7 pX hb7 hw7))
            go_roundw
            case rel=>exact⟨k+1,by omega,by go_num,vJ (HS7.out _ _ hb06 hw7),vJ ⟨_,pX,HPT.out _,HT3.out _ (HA1.out.2 k uI XT)⟩,vJ ((HB.out.trans (hb06.mono hbs)).trans (hw7.below HG0.out.1))⟩
            case measure=>simp[intOf];omega
        . obtain rfl:k=6:=by omega
          obtain⟨G,hG,hP,hT3⟩:=HQ.out;have hs:=HS.out;have HGG:=vJ hG;have HGL:Hid (0<G.length/\63<G.length):=vJ (by rw[hP.len];omega);have HPE:Hid (∀ x y,P2 ((G.set 0 x).set 63 y) (FE g) g g):=vJ fun x y=>(hP.other (AN rfl) x).other (Ba (by omega)) y
          have HNW:Hid (New3 ((G.set 0 (GD (Ed g))).set 63 (GD (Ed g))) g):=vJ (hT3.sup g (by rw[hP.len];omega) rfl);have hbs:=HB.out.size;have HBB:=vJ HB.out;clear hG hP hT3 HQ HS HB
          go_wp2_with (first
           |(with_reducible refine wpList_load_row rfl 118 (.tmp 15) rfl s0 rfl 118 _ (0,0) _ hs Tryz.underlying118 rfl (by rw[U0];simp) ?_)
           |(go_at_call 60;refine(KES.out _).mono ?_;rintro e w6 ⟨u,rfl,hu,hb6⟩;have hG6:=HGG.out.below hb6;have hu6:=hu.elt (B:=0);obtain⟨cur6,hr6,_,hg06⟩:=hG6.row)
           |(with_reducible refine Ef rfl (.tmp 107) (.tmp 105) rfl 0 g0 (64*g) cap0 0 G (GD (Ed g)) u rfl rfl hG6 HGL.out.1 hu6 ?_;intro w7 pX hb7 hw7;have hu7:=hu6.wrote hw7 hg06 hr6 (by decide))
           |(with_reducible refine Ef rfl (.tmp 108) (.tmp 106) rfl 0 g0 (64*g) cap0 63 (G.set 0 (GD (Ed g))) (GD (Ed g)) u rfl rfl pX (by rw[AJ];exact HGL.out.2) hu7 ?_;intro w8 hG8 hb8 hw8))
          go_ret;exact⟨_,_,rfl,hG8,HPE.out _ _,HNW.out,((HBB.out.trans (hb6.mono hbs)).trans (hw7.below HG0.out.1)).trans (hw8.below HG0.out.1)⟩
theorem iQ(ao:Option Addr)(cap:Nat)(f:Aq)(w:Ah):AA Ae 144 #[Ak ao 0 cap,f] w fun e w'=>e=Ag (J Y (-1))/\w=w':=by
 go_enter Tryz.func144,Tryz.ntmps144;go_wp2
 go_loop [8] (fun i=>i=J Y 0) (fun _=>0)
 case atStart=>rfl
 case round=>
  subst hrel;go_wp2;go_ret;exact⟨rfl,rfl⟩
theorem kv(ao:Option Addr)(cap:Nat)(f:Aq)(w:Ah):AA Ae 100 #[Ak ao 0 cap,f] w fun e w'=>e=Ag (Ak ao 0 cap)/\w=w':=by
 go_enter Tryz.func100,Tryz.ntmps100;go_wp2_with (go_at_call 144;refine(iQ _ _ _ _).mono ?_;rintro e w' ⟨rfl,rfl⟩)
 go_ret;exact⟨rfl,rfl⟩
section
variable {w:Ah}{B bp bf bv:Nat}{u:Aq}{F V:List (List Int)}{fu dn:Bool}{le:Int}
theorem Xa(h:DskAt w B bp bf bv u F V [] fu le dn)(f:Aq):AA Ae 63 #[Am (S ⟨bp,0,X⟩),f] w fun e w'=>e=Ag (AO #[])/\DskAt w' B bp bf bv u F V [] fu le dn/\Wrote w w' bp:=by
 obtain⟨ao,cap,rfl⟩:=h.shapeU;have c2:=h.c2;have f2:=h.fr 2;have hp:=h.hp;have hw:=Wrote.setCell w bp 2 (Ak ao 0 cap);have hs:(w.setCell ⟨bp,2,X⟩ (Ak ao 0 cap)).heap[bp]? =_:=Bs w bp 2 _ _ _ hp;have HE:Hid (DskAt (w.setCell ⟨bp,2,X⟩ (Ak ao 0 cap)) B bp bf bv (Ak ao 0 cap) F V [] fu le dn):=vJ (by
  have oth:∀ {k:Nat},k≠bp->(w.setCell ⟨bp,2,X⟩ (Ak ao 0 cap)).heap[k]? =w.heap[k]? :=fun hk=>Bq _ _ _ _ hk
  refine⟨h.bB,h.ne,by rw[hs];rfl,by rw[oth (CR h.ne.1)];exact h.hf,by rw[oth (CR h.ne.2.1)];exact h.hv,⟨h.hu.1,?_⟩,h.une,h.okF,h.okV,h.okU,h.len,h.max⟩;rcases h.hu.2 with h0| ⟨g,cap',cur,hv,hg,hh,r⟩
  . exact AN h0
  . exact Ba ⟨g,cap',cur,hv,hg,by rw[oth (fun e=>h.une.1 (by rw[hv,<- e];rfl))];exact hh,r⟩)
 have HW:=vJ hw;clear hp hs hw h;go_enter Tryz.func63,Tryz.ntmps63;go_wp2_with (go_at_call 100;refine(kv _ _ _ _).mono ?_;rintro e w' ⟨rfl,rfl⟩)
 go_end0
 exact⟨rfl,HE.out,HW.out⟩
theorem Zg(h:DskAt w B bp bf bv u F V [] fu le dn){n:Nat}(hn:n<V.length){v:Aq}{l:List Int}(hv:BSl w v l)(hl:l.length=256):
 AA Ae 27 #[Am (S ⟨bp,0,X⟩),J Y n,v] w fun e w'=>e=Ag (J Y 0)/\DskAt w' B bp bf bv u (F.set n l) (V.set n l) [] fu le dn/\Fr3 w w' bp bf bv:=by
 obtain⟨W0,hW0⟩:=nm (w.alloc (Ar #[J Y n] 3));have hb0:At w.heap.size w W0:=by rw[hW0];exact Ay w _
 have hx0:W0.heap[w.heap.size]? =S (Ar #[J Y n] 3 (0,0)):=by rw[hW0];exact Aw w _
 have hd0:=h.below hb0;have mb:=hv.below hb0;have HW0:=vJ hW0;have hd:decide ((0<=(n:Int)/\(n:Int)<V.length)/\l.length=256)=AL:=AF ⟨by omega,hl⟩;have KF:=vJ (NX hd0 n mb);rw[hd] at KF;have KB:=vJ (Nr mb hl);have HL:Hid ((cB l).length=256):=by show _=_;rw[CI,hl]
 have HBl:Hid (XR l):=⟨hl,hv.1⟩;have HZ:=vJ Fw;have x0:W0.cell? ⟨w.heap.size,0,X⟩=S (J Y n):=by rw[Az _ _ _ _ _ _ hx0];rfl
 have HX:=vJ hx0;have HD0:=vJ hd0;have HB0:=vJ hb0;have hlt:=And.intro (Al.1 h.hp).1 (And.intro (Al.1 h.hf).1 (Al.1 h.hv).1);have HLT:=vJ hlt;have HH:=vJ h;have hn':(n:Int)<V.length:=by omega
 have hnF:n<F.length:=by have:=h.len;omega
 have hnF':(n:Int)<F.length:=by omega
 clear hW0 hb0 hx0 hd0 mb hv hl hd hlt h;go_enter Tryz.func27,Tryz.ntmps27;go_upto_region 1 with(fail)
 rw[HW0.out.symm]
 go_upto_region 4 with(first
  |(go_at_call 61;refine KF.out.mono ?_;rintro e w' ⟨rfl,rfl⟩)
  |(go_at_call 62;refine KB.out.mono ?_;rintro e w1 ⟨rfl,hb1⟩)
  |with_reducible refine GR _ rfl rfl ?_
  |(refine FQ _ rfl _ _ (by rfl) _ 126 zB (cB l) (by rfl) (by rfl) (Cu _ _) HZ.out HL.out (Hd l) ?_
    rw[Fk]))
 have hb2:At W0.heap.size W0 (w1.alloc (Ar (cB l).toArray 126)):=hb1.alloc hb1.size _;obtain⟨H1,XI⟩:=nm w1.heap.size;obtain⟨xb,hxb⟩:=nm w.heap.size;have hrow:(w1.alloc (Ar (cB l).toArray 126)).heap[H1]? =S (Ar (cB l).toArray 126 (0,0)):=by rw[XI];exact Cu _ _
 rw[<- XI,<- hxb];have qZ:xb<W0.heap.size:=by rw[hxb];exact(Al.1 HX.out).1
 have Vk:bp<xb/\bf<xb/\bv<xb:=by rw[hxb];exact HLT.out
 have hxf:xb≠bf/\xb≠bv:=⟨by omega,by omega⟩;have hxH:xb<H1:=by rw[XI];exact AH qZ hb1.size
 have xr:(w1.alloc (Ar (cB l).toArray 126)).heap[xb]? =S (Ar #[J Y n] 3 (0,0)):=(hb2.block xb qZ).trans (by rw[hxb];exact HX.out);generalize w1.alloc (Ar (cB l).toArray 126)=W1 at hb2 hrow xr |-
 have h1:=HD0.out.below hb2;have HFR0:Hid (At w.heap.size w W1):=vJ (HB0.out.trans (hb2.mono HB0.out.size));have lH:=Hd l;have rc:=Tryz.underlying126;have rk:(Ae.info? 126).map (·.size)=S (cB l).length:=by rw[QC,HL.out]
 have hlen:=HL.out;have rL:W1.rangeAt H1 0 (cB l):=EE hrow (by rw[CP,B8]);have tF:W1.there bf (n*256) (cB l).length:=DX h1.hf (by rw[HL.out,CK (EH h1.okF)];omega);have x1:W1.cell? ⟨xb,0,X⟩=S (J Y n):=by rw[Az _ _ _ _ _ _ xr];rfl
 have hne:=h1.ne;have hS1:W1.drew.cell? ⟨bp,0,X⟩=S (Ak (S ⟨bf,0,X⟩) F.length F.length)/\W1.drew.cell? ⟨xb,0,X⟩=S (J Y n)/\W1.drew.rangeAt H1 0 (cB l)/\W1.drew.there bf (n*256) (cB l).length:=⟨h1.c0,x1,rL,tF⟩;have hS2:(W1.drew.setCells bf (n*256) (cB l)).cell? ⟨bp,0,X⟩=S (Ak (S ⟨bf,0,X⟩) F.length F.length)/\(W1.drew.setCells bf (n*256) (cB l)).cell? ⟨xb,0,X⟩=S (J Y n)/\(W1.drew.setCells bf (n*256) (cB l)).rangeAt H1 0 (cB l)/\(W1.drew.setCells bf (n*256) (cB l)).there bf (n*256) (cB l).length:=
  ⟨by rw[CG _ _ _ _ _ (fun e=>absurd e hne.1)];exact hS1.1,by rw[CG _ _ _ _ _ (fun e=>absurd e hxf.1)];exact hS1.2.1,Hj hS1.2.2.1 _ _ _ (AN (by omega)),Ah.there_setCells hS1.2.2.2 _ _ _⟩
 have HD1:=vJ h1;have HB2:=vJ hb2;clear XI hxb h1 hrow xr rL tF x1 hb1 hb2 KF KB HB0 x0
 go_region_held (fun W=>W.cell? ⟨bp,0,X⟩=S (Ak (S ⟨bf,0,X⟩) F.length F.length)/\W.cell? ⟨xb,0,X⟩=S (J Y n)/\W.rangeAt H1 0 (cB l)/\W.there bf (n*256) (cB l).length) (first|exact hS1|exact hS2) (fail)
 go_wp2_with fail
 obtain⟨h2,hwr⟩:=HD1.out.setF (W:=W1.drew) (AM _ _).drew n hnF l HBl.out;have hr2:=hS2.2.2.1;have Qb:=hS2.2.1;have hdw:At W1.heap.size W1 W1.drew:=(AM _ _).drew;have HFR1:Hid (∀ k,k<w.heap.size->k≠bf->(W1.drew.setCells bf (n*256) (cB l)).heap[k]? =w.heap[k]?):=vJ fun k hk hkf=>(hwr.2.2.2.2 k hkf).trans ((show W1.drew.heap[k]? =W1.heap[k]? from rfl).trans (HFR0.out.block k hk))
 have HFS1:Hid ((W1.drew.setCells bf (n*256) (cB l)).os=w.os/\(W1.drew.setCells bf (n*256) (cB l)).tape=w.tape/\(W1.drew.setCells bf (n*256) (cB l)).output=w.output/\w.heap.size<=(W1.drew.setCells bf (n*256) (cB l)).heap.size):=vJ ⟨hwr.1.trans (hdw.os.trans HFR0.out.os),hwr.2.1.trans (hdw.tape.trans HFR0.out.tape),hwr.2.2.1.trans (hdw.output.trans HFR0.out.output),by rw[hwr.2.2.2.1];exact AT HFR0.out.size hdw.size⟩;generalize W1.drew.setCells bf (n*256) (cB l)=W2 at h2 hr2 Qb HFR1 HFS1 |-
 have HD2:=vJ h2;have tV:W2.there bv (n*256) (cB l).length:=DX h2.hv (by rw[HL.out,CK (EH h2.okV)];omega);have hS3:W2.drew.cell? ⟨bp,1,X⟩=S (Ak (S ⟨bv,0,X⟩) V.length V.length)/\W2.drew.cell? ⟨xb,0,X⟩=S (J Y n)/\W2.drew.rangeAt H1 0 (cB l)/\W2.drew.there bv (n*256) (cB l).length:=⟨h2.c1,Qb,hr2,tV⟩;have hS4:(W2.drew.setCells bv (n*256) (cB l)).cell? ⟨bp,1,X⟩=S (Ak (S ⟨bv,0,X⟩) V.length V.length)/\(W2.drew.setCells bv (n*256) (cB l)).cell? ⟨xb,0,X⟩=S (J Y n)/\(W2.drew.setCells bv (n*256) (cB l)).rangeAt H1 0 (cB l)/\(W2.drew.setCells bv (n*256) (cB l)).there bv (n*256) (cB l).length:=
  ⟨by rw[CG _ _ _ _ _ (fun e=>absurd e hne.2.1)];exact hS3.1,by rw[CG _ _ _ _ _ (fun e=>absurd e hxf.2)];exact hS3.2.1,Hj hS3.2.2.1 _ _ _ (AN (by omega)),Ah.there_setCells hS3.2.2.2 _ _ _⟩
 clear h2 hwr hdw hS1 hS2 hr2 Qb tV HD1 HD0
 go_region_held (fun W=>W.cell? ⟨bp,1,X⟩=S (Ak (S ⟨bv,0,X⟩) V.length V.length)/\W.cell? ⟨xb,0,X⟩=S (J Y n)/\W.rangeAt H1 0 (cB l)/\W.there bv (n*256) (cB l).length) (first|exact hS3|exact hS4) (fail)
 go_wp2_with fail
 obtain⟨h3,hwr⟩:=HD2.out.setV (W:=W2.drew) (AM _ _).drew n hn l HBl.out;have hdw:At W2.heap.size W2 W2.drew:=(AM _ _).drew;have HFR2:Hid (∀ k,k<w.heap.size->k≠bf->k≠bv->(W2.drew.setCells bv (n*256) (cB l)).heap[k]? =w.heap[k]?):=vJ fun k hk hkf hkv=>(hwr.2.2.2.2 k hkv).trans ((show W2.drew.heap[k]? =W2.heap[k]? from rfl).trans (HFR1.out k hk hkf))
 have HFS2:Hid ((W2.drew.setCells bv (n*256) (cB l)).os=w.os/\(W2.drew.setCells bv (n*256) (cB l)).tape=w.tape/\(W2.drew.setCells bv (n*256) (cB l)).output=w.output/\w.heap.size<=(W2.drew.setCells bv (n*256) (cB l)).heap.size):=vJ ⟨hwr.1.trans (hdw.os.trans HFS1.out.1),hwr.2.1.trans (hdw.tape.trans HFS1.out.2.1),hwr.2.2.1.trans (hdw.output.trans HFS1.out.2.2.1),by rw[hwr.2.2.2.1];exact AT HFS1.out.2.2.2 hdw.size⟩;generalize W2.drew.setCells bv (n*256) (cB l)=W3 at h3 HFR2 HFS2 |-
 have KFo:=vJ (fun f=>Xa h3 f);clear hS3 hS4 hwr hdw h3;go_wp2_with (go_at_call 63;refine(KFo.out _).mono ?_;rintro e w4 ⟨rfl,hd4,hw4⟩)
 go_ret;exact⟨rfl,hd4,⟨hw4.1.trans HFS2.out.1,hw4.2.1.trans HFS2.out.2.1,hw4.2.2.1.trans HFS2.out.2.2.1,by rw[hw4.2.2.2.1];exact HFS2.out.2.2.2,fun k hk h1 h2 h3=>(hw4.2.2.2.2 k h1).trans (HFR2.out k hk h2 h3)⟩⟩
end
theorem nR{w:Ah}{P:Nat->Prop}{p:Aq}{s:DS}(h:Dk w P p s)(hU:s.U=[]){n:Nat}(hn:n<s.F.length){v:Aq}{l:List Int}(hv:BSl w v l):
 AA Ae 27 #[p,J Y n,v] w fun e w'=>(∃ x,e=Ag (J Y x))/\Dk w' P p { s with F:=if l.length=256 then s.F.set n l else s.F }/\Chg P P w w':=by
 obtain⟨bp,bf,bv,u,rfl,hd,hl,hP⟩:=h;obtain⟨F,U,fu,le,dn⟩:=s;simp only at hU hn hd hl;subst hU;have oP:(⟨F,[],fu,le,dn⟩:DS).vis=F:=rfl;rw[oP] at hd;by_cases Oe:l.length=256
 . rw[AC Oe]
   refine(Zg hd hn hv Oe).mono fun e w' ⟨he,h2,hf⟩=>⟨⟨0,he⟩,⟨bp,bf,bv,u,rfl,h2,hl,hP⟩,⟨hf.os,hf.tape,hf.output,hf.size,fun k hk hn'=>⟨hf.block k hk (fun e=>hn' ((hP k).2 (AN e))) (fun e=>hn' ((hP k).2 (Ba (AN e)))) (fun e=>hn' ((hP k).2 (Ba (Ba (AN e))))),hn'⟩⟩⟩
 . rw[AE Oe]
   have hb:=Ay w (Ar #[J Y n] 3);have KF:=vJ (NX (hd.below hb) n (hv.below hb));rw[AG (fun h=>Oe h.2)] at KF;have HE:Hid (∀ w',At w.heap.size w w'->Dk w' P (Am (S ⟨bp,0,X⟩)) ⟨F,[],fu,le,dn⟩):=vJ fun w' hb'=>⟨bp,bf,bv,u,rfl,hd.below hb',hl,hP⟩
   have HB:=vJ hb;clear hd hl hP hv hb Oe oP;refine AA.mono (R:=fun e w'=>e=Ag (J Y 1)/\At w.heap.size w w') ?_ fun e w' ⟨he,hb'⟩=>⟨⟨1,he⟩,HE.out w' hb',Chg.of_below hb'⟩
   clear HE;go_enter Tryz.func27,Tryz.ntmps27;go_wp2_with (go_at_call 61;refine KF.out.mono ?_;rintro e w' ⟨rfl,rfl⟩)
   go_ret;exact⟨rfl,HB.out⟩
end
section
open Go.RowKit Go.Maps
def U7(ek pk:List Int)(left:Lit->Bool):Nat:=(pk.filter fun x=>!left (.int Y x) && decide (x ∉ ek)).length
theorem X6{ek pk:List Int}{left:Lit->Bool}(h:∀ x,left (.int Y x)=decide (x∈pk)):U7 ek pk left=0:=by
 unfold U7;rw[List.length_eq_zero_iff,List.filter_eq_nil_iff];intro x hx;rw[h x,AF hx];simp
theorem ja{ek pk:List Int}{left:Lit->Bool}(h:∀ k,left k=AI):ek.length+U7 ek pk left=(Fe ek pk).length:=by
 unfold U7 Fe;rw[Ax];congr 3;funext x;rw[h];simp
theorem nV(ek pk:List Int)(left:Lit->Bool):U7 ek pk left<=pk.length:=List.length_filter_le _ _
theorem jB(x y:Int):(Lit.int Y y).sameKey (.int Y x)=decide (y=x):=by
 by_cases h:y=x
 . subst h;simp[Lit.sameKey]
 . rw[AG h];exact Maps.sameKey_ne (fun e=>h (by cases e;rfl))
theorem PF{ek:List Int}{f:Int->Bool}{x:Int}:∀ {pk:List Int},pk.Nodup->x∈pk->f x=AL->
 (pk.filter fun z=>!(f z && !decide (z=x)) && decide (z ∉ ek)).length=(pk.filter fun z=>!f z && decide (z ∉ ek)).length+if x∈ek then 0 else 1
 |[],_,hx,_=>absurd hx BI
 |a :: r,hn,hx,hl=>by
  obtain⟨h1,h2⟩:=List.nodup_cons.1 hn;by_cases e:a=x
  . subst e
    have hr:(r.filter fun z=>!(f z && !decide (z=a)) && decide (z ∉ ek))=r.filter fun z=>!f z && decide (z ∉ ek):=by
     refine List.filter_congr fun y hy=>?_
     have:y≠a:=fun e=>h1 (e ▸ hy)
     rw[AG this];simp
    rw[List.filter_cons,List.filter_cons,hl,hr];by_cases hk:a∈ek <;> simp[hk]
  . have ih:=PF (ek:=ek) (f:=f) h2 ((Cy.1 hx).resolve_left fun e'=>e e'.symm) hl
    rw[List.filter_cons,List.filter_cons,AG e];cases mc:f a <;> by_cases hk:a∈ek <;> simp only[hk,Bool.not_true,Bool.not_false,Bool.and_true,Bool.and_false,decide_true,decide_false,not_true_eq_false,not_false_eq_true,if_true,if_false,Ch,Bool.false_eq_true,ih] <;> omega
theorem fA{ek:List Int}{left:Lit->Bool}{x:Int}{pk:List Int}(hn:pk.Nodup)(hx:x∈pk)(hl:left (.int Y x)=AL):
 U7 ek pk (fun z=>left z && !z.sameKey (.int Y x))=U7 ek pk left+if x∈ek then 0 else 1:=by
 have h:=PF (ek:=ek) (f:=fun z=>left (.int Y z)) hn hx hl;unfold U7;rw[<- h];congr 2;funext z;show(!(left (.int Y z) && !(Lit.int Y z).sameKey (.int Y x)) && decide (z ∉ ek))=_
 rw[jB]
section
variable {w:Ah}{Pd:Nat->Prop}{b be bp:Nat}{d:Aq}{q:Int}{ek:List Int}{eg:Int->Aq}{ev:Int->List Int}{pk:List Int}{pg:Int->Aq}{pv:Int->List Int}{wi:Bool}{ds:DS}
theorem NN(h:SMem w Pd b be bp d q ek eg ev pk pg pv wi ds)(XZ:ek.length<=1000)(hpl:pk.length<=1000):AA Ae 74 #[Am (S ⟨b,0,X⟩)] w fun e w'=>e=Ag (.int Y (Fe ek pk).length)/\At w.heap.size w w':=by
 have c2:=h.c2;have c3:=h.c3;have hlen:=fun ty=>h.me.len ty
 have HB:=vJ (fun W (hb:At w.heap.size w W)=>h.below hb);obtain⟨D,p1,p2,p3,p4,p5⟩:=h.mp;have HN:=vJ p2;have HH:=vJ p4;have HS:=vJ (X6 (ek:=ek) p4);have HE:=vJ (fun(left:Lit->Bool) h=>ja (ek:=ek) (pk:=pk) (left:=left) h);have HL:=vJ (fun(left:Lit->Bool)=>nV ek pk left);have HEL:=vJ XZ;have HPL:=vJ hpl;obtain⟨m,hm⟩:=nm pk.length;rw[<- hm] at p1 HL HPL;obtain⟨c,hc⟩:=nm ek.length;rw[<- hc] at hlen HE HEL;obtain⟨R,hR⟩:=nm ((Fe ek pk).length);rw[<- hR] at HE |-
 clear h p2 p3 p4 p5 XZ hpl hm hc hR;go_enter Tryz.func74,Tryz.ntmps74
 go_wp2_with (first
  |(at_range;refine wpList_range_own _ rfl _ 70 rfl 3 49 iKeyed Tryz.underlying70 hdr bp m D rfl p1 ?_;intro w0 uJ l7 lE)
  |go_in)
 go_frame
 have HB0:=vJ ((AM w.heap.size w).grown l7 (AB _) (fun k hk=>by cases hk))
 go_loopw [3] (fun i wr=>∃ (left:Lit->Bool) (cnt k:Nat),Hid (wr.ranges Ae 3 hdr bp w.heap.size m D left cnt)/\Hid (c+U7 ek pk left=k)/\i=.int Y k/\At w.heap.size w wr)
  (fun _ wr=>wr.rangeLeft bp w.heap.size)
 case atStart=>
  exact⟨_,_,c,vJ uJ,vJ (by rw[HS.out];rfl),rfl,HB0.out⟩
 case round=>
  obtain⟨left,cnt,k,HRG,HK,rfl,hbr⟩:=hrel;have HBR:=vJ hbr;have Pb:=HRG.out;have h2k:k<=2000:=by have:=HL.out left;have:=HK.out;have:=HEL.out;have:=HPL.out;omega
  clear uJ l7 lE p1 c2 c3 hlen hbr
  go_wp2_with (first
   |(at_next;refine wpList_next_ranges _ rfl _ rfl 3 iKeyed hdr (J Y) id (fun key kl hk=>by obtain⟨x,e,_⟩:=Maps.keyOf_i64 Tryz.underlying3 hk;exact⟨x,e⟩) (fun v _ _=>⟨v,rfl⟩) bp w.heap.size m _ _ _ rfl Pb ?_ ?_)
   |go_in)
  . intro qY tH
    have he:k=R:=HK.out.symm.trans (HE.out left tH);subst he;clear Pb;go_wp2;go_ret;exact⟨rfl,HBR.out⟩
  . intro x u kl y1 y2 w1 cnt1 rV rE hRv Ha rW hlt hg1 hs1 hen
    obtain⟨x',e1,rfl,Vw⟩:=Maps.keyOf_i64 Tryz.underlying3 rV;cases e1
    have hb1:At w.heap.size w w1:=HBR.out.grown hg1 HBR.out.size (fun j hj=>by cases hj;exact AB _);have hm1:=HB.out w1 hb1;have hin:x∈pk:=by
     have:=Maps.has_true_of_atKey Ha;rw[HH.out x] at this;exact A7 this
    have hk1:=fA HN.out hin rE (ek:=ek);have c2:=hm1.c2;have Se:=hm1.me.look_ok Vw;obtain⟨uu,rJ⟩:=nm ((if x∈ek then eg x else Ak X 0 0));rw[<- rJ] at Se;have HRG1:=vJ rW;have HLT:=vJ hlt;have HB1:=vJ hb1;have hwr:Y.wrap ((k:Int)+1)=(k:Int)+1:=A9 _ (by omega);by_cases XW:x∈ek
    . rw[AF XW] at Se
      rw[AC XW] at hk1;have HK1:=vJ hk1;clear hk1 Pb rW hlt hb1 hm1 rV rE hRv Ha hg1 hs1 rJ hin XW Vw;go_wp2;go_roundw
      case rel=>exact⟨_,cnt1,k,HRG1,vJ (by rw[HK1.out];exact HK.out),rfl,HB1.out⟩
      case measure=>rw[HRG1.out.left_eq,HRG.out.left_eq];exact HLT.out
    . rw[AG XW] at Se
      rw[AE XW] at hk1;have HK1:=vJ hk1;clear hk1 Pb rW hlt hb1 hm1 rV rE hRv Ha hg1 hs1 rJ hin XW Vw;go_wp2;go_roundw
      case rel=>exact⟨_,cnt1,k+1,HRG1,vJ (by rw[HK1.out,<- HK.out];omega),rfl,HB1.out⟩
      case measure=>rw[HRG1.out.left_eq,HRG.out.left_eq];exact HLT.out
end
def vB:Obj:=Ar #[J .u32 0,Ak X 0 0,Ak X 0 0] 180
theorem Xe{w:Ah}{g:Nat}{a b c:Aq}(h:w.heap[g]? =S (Ar #[a,b,c] 180 (0,0))):
 (w.cell? ⟨g,0,X⟩=S a/\w.cell? ⟨g,1,X⟩=S b/\w.cell? ⟨g,2,X⟩=S c)/\w.frozen? ⟨g,0,X⟩=AI/\w.frozen? ⟨g,1,X⟩=AI/\w.frozen? ⟨g,2,X⟩=AI:=by
 refine⟨⟨?_,?_,?_⟩,?_,?_,?_⟩
 . rw[Az _ _ _ _ _ _ h];rfl
 . rw[Az _ _ _ _ _ _ h];rfl
 . rw[Az _ _ _ _ _ _ h];rfl
 all_goals simp[Ah.frozen?,h]
theorem jc{W:Ah}{b g:Nat}{x y u0 u1 u2:Aq}(h:W.cell? ⟨b,1,X⟩=S x/\W.cell? ⟨b,2,X⟩=S y)(hne:b≠g):
 (((W.setCell ⟨g,0,X⟩ u0).setCell ⟨g,1,X⟩ u1).setCell ⟨g,2,X⟩ u2).cell? ⟨b,1,X⟩=S x/\(((W.setCell ⟨g,0,X⟩ u0).setCell ⟨g,1,X⟩ u1).setCell ⟨g,2,X⟩ u2).cell? ⟨b,2,X⟩=S y:=by
 have e:(((W.setCell ⟨g,0,X⟩ u0).setCell ⟨g,1,X⟩ u1).setCell ⟨g,2,X⟩ u2).heap[b]? =W.heap[b]? :=by
  rw[Bq _ ⟨g,2,X⟩ _ _ hne,Bq _ ⟨g,1,X⟩ _ _ hne,Bq _ ⟨g,0,X⟩ _ _ hne]
 exact⟨(Bh e).trans h.1,(Bh e).trans h.2⟩
theorem Wrote.and{a b c:Ah}{g:Nat}(h:Wrote a b g)(k:Wrote b c g):Wrote a c g:=⟨k.1.trans h.1,k.2.1.trans h.2.1,k.2.2.1.trans h.2.2.1,k.2.2.2.1.trans h.2.2.2.1,fun i hi=>(k.2.2.2.2 i hi).trans (h.2.2.2.2 i hi)⟩
theorem qe(W:Ah)(g:Nat)(u0 u1 u2:Aq):Wrote W (((W.setCell ⟨g,0,X⟩ u0).setCell ⟨g,1,X⟩ u1).setCell ⟨g,2,X⟩ u2) g:=((Wrote.setCell W g 0 u0).and (Wrote.setCell _ g 1 u1)).and (Wrote.setCell _ g 2 u2)
theorem tn{n1:Nat}{w1 W:Ah}{g:Nat}{q:Int}{no:Option Addr}{L nc:Nat}{l:List Int}{a0 a1 a2:Aq}(HS1:n1=w1.heap.size)(hb:At n1 w1 W)(hg:W.heap[g]? =S (Ar #[a0,a1,a2] 180 (0,0)))(hi:IR W n1 (Ak no L nc) l)(hn:n1<=g):
 ∃ g' no' nc',Aq.pointer (S ⟨g,0,X⟩)=Am (S ⟨g',0,X⟩)/\n1<=g'/\At n1 w1 (((W.setCell ⟨g,0,X⟩ (J .u32 q)).setCell ⟨g,1,X⟩ (Ak no L nc)).setCell ⟨g,2,X⟩ (Ak X 0 0))/\
   (((W.setCell ⟨g,0,X⟩ (J .u32 q)).setCell ⟨g,1,X⟩ (Ak no L nc)).setCell ⟨g,2,X⟩ (Ak X 0 0)).heap[g']? =S (Ar #[J .u32 q,Ak no' L nc',Ak X 0 0] 180 (0,0))/\
   IR (((W.setCell ⟨g,0,X⟩ (J .u32 q)).setCell ⟨g,1,X⟩ (Ak no L nc)).setCell ⟨g,2,X⟩ (Ak X 0 0)) n1 (Ak no' L nc') l:=by
 have hw:=qe W g (J .u32 q) (Ak no L nc) (Ak X 0 0);refine⟨g,no,nc,rfl,hn,hb.trans (hw.below hn),?_,hi.wrote hw hg (by decide)⟩;have e1:=Bs W g 0 _ _ (J .u32 q) hg;have e2:=Bs _ g 1 _ _ (Ak no L nc) e1;exact Bs _ g 2 _ _ (Ak X 0 0) e2
theorem PU{ops:Array BS}{o:BS}{a:Act}{w:Ah}{K:Act->Ah->Prop}{Q:Exit->Act->Ah->Prop}{E:Prop}(Dn:o.guard=X)(s y:Operand)(T ty:TypeId)
 (ho:o.op=.call { callee:=.builtin .append,args:=#[s,y],argTypes:=#[T,T] }) (hty:o.type=ty) (u v v5:Aq) (w5:Ah) (hs:a.eval s=u) (hy:a.eval y=v) (DY:(Builtin.append_ #[T,T] ty #[u,v]).run Ae w=.ok v5 w5)
 (h:K (a.put o.dst v5) w5):if Region.wanted o (yielded ops a.tmps)=AL then BS.wp Ae o a w K Q else E:=by
 rw[AC (by simp[Region.wanted,Dn])];unfold BS.wp execOp;simp only[ho,hty,resolve,invoke,builtin,DE,Sem.run_pure,Result.andThen_ok,Jd,J5,Sd,hs,hy,DY];exact h
theorem TI{w w':Ah}{B g:Nat}{v:Aq}{L:List (List Int)}(h:BB2 w B 0 v L)(hw:Wrote w w' g){cur:Array Aq}(hg:w.heap[g]? =S (Ar cur 180 (0,0))):BB2 w' B 0 v L:=by
 obtain⟨vs,hl,hr,ho⟩:=h;refine⟨vs,hl,fun j hj=>(hr j hj).wrote hw (AX _) hg (by decide),Fu ho fun r hr=>hw.2.2.2.2 r fun e=>?_⟩;rcases ho.2 with⟨hv,_⟩| ⟨g',cap,cur',hv,_,hh,_⟩
 . rw[hv] at hr;simp[Aq.ownBlock] at hr
 . rw[hv] at hr
   obtain rfl:g'=r:=by simpa [Aq.ownBlock] using hr
   rw[e,hg] at hh
   injection hh with hh
   injection hh with _ e2
   exact absurd e2 (by decide)
theorem iR{w:Ah}{B:Nat}{v:Aq}{l:List Int}(h:IR w B v l):IR w 0 v l:=⟨h.1,h.2.imp id fun⟨g,cap,cur,hv,_,r⟩=>⟨g,cap,cur,hv,AX _,r⟩⟩
theorem YZ{w:Ah}{p:Nat}{o:Obj}(h:w.heap[p]? =S o)(o':Obj):(w.alloc o').heap[p]? =S o:=(At.block (Ay w o') p (Al.1 h).1).trans h
theorem pq{w:Ah}{B:Nat}{v:Aq}{l:List Int}(h:IR w B v l){r:Nat}(hr:v.ownBlock=S r):r<w.heap.size/\∃ cur,w.heap[r]? =S (Ar cur 3 (0,0)):=by
 rcases h.2 with⟨hv,_⟩| ⟨g,cap,cur,hv,_,hh,_⟩
 . rw[hv] at hr;simp[Aq.ownBlock] at hr
 . rw[hv] at hr
   obtain rfl:g=r:=by simpa [Aq.ownBlock] using hr
   exact⟨(Al.1 hh).1,cur,hh⟩
section
variable {w:Ah}{Pd:Nat->Prop}{b be bp:Nat}{d:Aq}{q:Int}{ek:List Int}{eg:Int->Aq}{ev:Int->List Int}{pk:List Int}{pg:Int->Aq}{pv:Int->List Int}{wi:Bool}{ds:DS}
theorem gP(h:SMem w Pd b be bp d q ek eg ev pk pg pv wi ds)(XZ:ek.length<=37):AA Ae 114 #[Am (S ⟨b,0,X⟩)] w fun e w'=>
 ∃ vN vD,e=Ag (BD #[J .u32 q,vN,vD])/\IR w' 0 vN (BV ek)/\BBR w' 0 vD ((BV ek).map ev)/\At w.heap.size w w':=by
 obtain⟨w1,hw1⟩:=nm (w.alloc vB);have hb1:At w.heap.size w w1:=by rw[hw1];exact Ay w _
 have h1:=h.below hb1;have HS:=vJ (fun(W:Ah) (hb:At w1.heap.size w1 W)=>show W.cell? ⟨b,1,X⟩=S (J .u32 q)/\W.cell? ⟨b,2,X⟩=S (.map (S be)) from⟨(h1.below hb).c1,(h1.below hb).c2⟩);have KK:=vJ (fun(W:Ah) (hb:At w1.heap.size w1 W)=>(jF be W).mono (R':=fun e wk=>∃ p,e=Ag (.func (.func 192) #[] #[Am (S ⟨p,0,X⟩)])/\wk.heap[p]? =S (Ar #[.map (S be)] 70 (0,0))/\At w1.heap.size w1 wk/\At W.heap.size W wk) (fun e wk ⟨he,hk⟩=>by
  subst hk;exact⟨_,he,Aw W _,hb.trans ((Ay W _).mono hb.size),Ay W _⟩))
 have KS:=vJ (fun(W:Ah) (p:Nat) (hb:At w1.heap.size w1 W) (hp:W.heap[p]? =S (Ar #[.map (S be)] 70 (0,0)))=>(VW (h1.below hb).me hp (by omega)).mono (R':=fun e wk=>∃ no nc,e=Ag (Ak no (BV ek).length nc)/\IR wk w1.heap.size (Ak no (BV ek).length nc) (BV ek)/\At w1.heap.size w1 wk/\At W.heap.size W wk) (fun e wk ⟨v,he,hi,hk⟩=>by
  obtain⟨_,no,nc,rfl,_⟩:=hi.isc;exact⟨no,nc,he,⟨hi.1,hi.2.imp id fun⟨g,cap,cur,hv,hg,r⟩=>⟨g,cap,cur,hv,AT hb.size hg,r⟩⟩,hb.trans (hk.mono hb.size),hk⟩))
 have HAL:=vJ (fun(W:Ah) (o:Obj) (hb:At w1.heap.size w1 W)=>show At w1.heap.size w1 (W.alloc o) from hb.trans ((Ay W _).mono hb.size));have b0:At w1.heap.size w1 w1.drew:=A2 (AM _ _) 1;have HW1:=vJ hw1;have HB1:=vJ hb1;clear h hw1 hb1;go_enter Tryz.func114,Tryz.ntmps114;go_upto_region 1 with(fail)
 rw[show w.alloc (Ar #[J .u32 0,Ak X 0 0,Ak X 0 0] 180)=w1 from HW1.out.symm];obtain⟨n1,hn1⟩:=nm w1.heap.size;rw[<- hn1] at HS KK KS HAL b0;obtain⟨L,hL⟩:=nm ((BV ek).length);rw[<- hL] at KS;have s0:=HS.out _ b0;have bA:At n1 w1 (w1.alloc (Ar #[J .u32 0,Ak X 0 0,Ak X 0 0] 180)).drew:=A2 (HAL.out _ _ (by rw[hn1];exact AM _ _)) 1;have sA:=HS.out _ bA;have hA:(w1.alloc (Ar #[J .u32 0,Ak X 0 0,Ak X 0 0] 180)).drew.heap[w1.heap.size]? =S (Ar #[J .u32 0,Ak X 0 0,Ak X 0 0] 180 (0,0)):=Aw w1 _;have HN1:=vJ hn1;have HL:=vJ hL;have HBL:=vJ h1.bl;have HMEM:=vJ (fun(W:Ah) (hb:At w1.heap.size w1 W)=>h1.below hb);clear hn1 hL h1
 go_cut [3] from 6 (fun t3 wc=>∃ g no nc,t3=Am (S ⟨g,0,X⟩)/\n1<=g/\At n1 w1 wc/\wc.heap[g]? =S (Ar #[J .u32 q,Ak no L nc,Ak X 0 0] 180 (0,0))/\IR wc n1 (Ak no L nc) (BV ek))
 case first=>
  go_region_held3 (fun W=>W.cell? ⟨b,1,X⟩=S (J .u32 q)/\W.cell? ⟨b,2,X⟩=S (.map (S be))) (first|with_reducible exact jc (HS.out _ bS) hg1|with_reducible exact jc (HS.out _ bS) hg2|with_reducible exact jc (HS.out _ (HAL.out _ _ bS)) hg3|with_reducible exact HS.out _ bS|with_reducible exact HS.out _ (HAL.out _ _ bS)|with_reducible exact HS.out _ bK|with_reducible exact HS.out _ (HAL.out _ _ bK)|with_reducible exact sA|with_reducible exact s0) (first
   |(go_at_call 165;(with_reducible refine(KK.out _ (by first|with_reducible exact b0|with_reducible exact bA)).mono ?_);rintro e wk ⟨p,rfl,hp,bK,bKW⟩
     try have yK:=(by with_reducible exact Lc hA bKW))
   |(go_at_call 164;(with_reducible refine(KS.out _ _ (by first|with_reducible exact bK|with_reducible exact HAL.out _ _ bK) (by first|with_reducible exact hp|with_reducible exact YZ hp _)).mono ?_);rintro e ws ⟨no,nc,rfl,hir,bS,bSW⟩
     first
      |(have xS:=(by with_reducible exact Lc yK bSW);obtain⟨⟨x0,x1,x2⟩,y0,y1,y2⟩:=Xe xS)
      |(have xS:ws.heap[wk.heap.size]? =S (Ar #[J .u32 0,Ak X 0 0,Ak X 0 0] 180):=(by with_reducible exact Lc (Aw wk _) bSW)
        obtain⟨⟨x0,x1,x2⟩,y0,y1,y2⟩:=Xe xS)
      |skip
     have hg1:b≠w1.heap.size:=(by have:=HBL.out;omega);have hg2:b≠wk.heap.size:=(by have:=HBL.out;have:=bK.size;omega);have hg3:b≠ws.heap.size:=by have:=HBL.out;have:=bS.size;omega))
  . go_wp2_with fail
    go_meet
    exact⟨ws.heap.size,no,nc,rfl,by have:=HN1.out;have:=bS.size;omega,HAL.out _ _ bS,Aw ws _,hir.below (Ay ws _)⟩
  . go_wp2_with fail
    go_meet
    exact tn (HS1:=HN1.out) bS xS hir (by have:=HN1.out;have:=bK.size;omega)
  . go_wp2_with fail
    go_meet
    exact tn (HS1:=HN1.out) bS xS hir (by have:=HN1.out;omega)
 case rest=>
  obtain⟨g,no,nc,rfl,cK,hbc,oZ,hir⟩:=hcut;clear s0 bA sA hA b0;obtain⟨m1,hm1⟩:=nm wc.heap.size;have hgm:g<m1:=by rw[hm1];exact(Al.1 oZ).1
  obtain⟨⟨y0,y1,y2⟩,_⟩:=Xe oZ;have HSM:=vJ (fun(W:Ah) (hb:At n1 w1 W)=>HMEM.out W (HN1.out ▸ hb));have HCN:=vJ (fun(W:Ah) (hk:∀ j,j<m1->j≠g->W.heap[j]? =wc.heap[j]?)=>show IR W n1 (Ak no L nc) (BV ek) from Fu hir fun r hr=>hk r (by rw[hm1];exact(pq hir hr).1) (fun e=>by
   obtain⟨cur,hh⟩:=(pq hir hr).2;rw[e,oZ] at hh
   injection hh with hh
   injection hh with _ e2
   exact absurd e2 (by decide)))
  have HGM:=vJ hgm;have HGN:=vJ cK;have HW0:Hid (∀ W,At n1 w1 W->W.heap[w.heap.size]? =S (Ar #[J .u32 0,Ak X 0 0,Ak X 0 0] 180 (0,0))):=vJ (fun W hb=>by
   have e1:w1.heap[w.heap.size]? =S vB:=(by rw[HW1.out];exact Aw w vB);rw[hb.block _ (by rw[HN1.out,HW1.out];simp),e1];rfl)
  have HST:Hid (wc.heap[g]? =S (Ar #[J .u32 q,Ak no L nc,Ak X 0 0] 180 (0,0))):=vJ oZ;have HSB:Hid (BB2 wc m1 0 (Ak X 0 0) []):=vJ ⟨[],rfl,fun j hj=>absurd hj (A8 _),E4 _ _ _ _⟩;have HSE:=vJ hbc;have HSZ:Hid (m1<=wc.heap.size):=vJ (by omega);have HELS:=vJ (fun k (hk:k<L)=>show(BV ek).getD k 0∈ek/\(BV ek).take (k+1)=(BV ek).take k ++ [(BV ek).getD k 0] from by
   rw[HL.out] at hk;refine⟨?_,?_⟩
   . rw[An,AS hk];exact mem_sortN.1 (Bf hk)
   . rw[List.take_add_one,An,AS hk];rfl)
  have HL37:Hid (L<=37):=vJ (by rw[HL.out,Hw];exact XZ);clear cK hbc oZ hir hgm hm1 XZ HS KK KS HAL;go_wp2;go_loopw [20] (fun i wr=>∃ (k:Nat) (vD:Aq),k<=L/\i=J Y k/\Hid (wr.heap[g]? =S (Ar #[J .u32 q,Ak no L nc,vD] 180 (0,0)))/\Hid (BB2 wr m1 0 vD (((BV ek).take k).map ev))/\Hid (At n1 w1 wr)/\Hid (m1<=wr.heap.size/\∀ j,j<m1->j≠g->wr.heap[j]? =wc.heap[j]?)) (fun i _=>L-(intOf i).toNat)
  case atStart=>exact⟨0,Ak X 0 0,by omega,rfl,HST,HSB,HSE,vJ ⟨HSZ.out,fun _ _ _=>rfl⟩⟩
  case round=>
   obtain⟨k,vD,hk,rfl,HG,HB,HE,HZ⟩:=hrel;clear HST HSB HSE HSZ y0 y1 y2;obtain⟨⟨y0,y1,y2⟩,f0,f1,f2⟩:=Xe HG.out;obtain⟨vo,vc,rfl,_⟩:=(HB.out.lower (AX _)).bbr.sl.shape;by_cases hlt:k<L
   . obtain⟨hx,XJ⟩:=HELS.out k hlt
     have hm:=HSM.out wr HE.out;obtain⟨no',nc',e1,q1⟩:=(HCN.out wr HZ.out.2).sl.open';obtain⟨rfl,rfl⟩:=And.intro (A0 e1).1 (A0 e1).2.2;rw[<- HL.out] at q1;obtain⟨b1,o1,rfl,_,c1⟩:=q1 (by omega);have z1:=c1 k hlt;have c2:=hm.c2;have Se:=hm.me.look hx;obtain⟨gx,cx,cur,hv,_⟩:=(hm.re _ hx).row;have HBE:Hid (BElt wr.drew 0 (eg ((BV ek).getD k 0)) (ev ((BV ek).getD k 0))):=vJ ((hm.re _ hx).1.elt.below (A2 (AM _ _) 1));rw[hv] at Se HBE;obtain⟨x,Sl⟩:=nm ((BV ek).getD k 0);rw[<- Sl] at z1 Se HBE XJ;have HTK:=vJ XJ;have HRD:=vJ (HB.out.below (AM _ wr).drew);have HLN:Hid ((((BV ek).take k).map ev).length<=100000):=vJ (by rw[Bk,AK];have:=HL37.out;omega);have HM1:Hid (m1<=wr.drew.heap.size):=vJ HZ.out.1;have ek':(k:Int)<(L:Int):=(by omega);obtain⟨W1,hW1⟩:=nm ((wr.alloc (Ar #[Ak (S ⟨gx,0,X⟩) 256 cx] 49)).drew);have hbW:At wr.heap.size wr W1:=(by rw[hW1];exact A2 (Ay wr _) 1);have hone:BB2 W1 m1 0 (Ak (S ⟨wr.heap.size,0,X⟩) 1 1) [ev x]:=(by rw[hW1];exact T4 (B:=m1) HBE.out HM1.out);obtain⟨v5,w5,cR,hv5,hb5,_⟩:=Iy 63 Tryz.underlying63 W1 m1 0 (AX _) 63 _ _ (HB.out.below hbW) (Ak (S ⟨wr.heap.size,0,X⟩) 1 1) [ev x] (BBR.be (BB2.bbr (hone.lower (AX _)))) (by have:=HLN.out;simp only[List.length_singleton];omega) (AT HZ.out.1 hbW.size);have HG5:=(hb5.block g HGM.out).trans ((hbW.block g (AH HGM.out HZ.out.1)).trans HG.out);obtain⟨⟨z0,z1',z2⟩,g0,g1,g2⟩:=Xe HG5;obtain⟨vo5,vc5,rfl,_⟩:=(hv5.lower (AX _)).bbr.sl.shape;have HV5:=vJ hv5;have HB5:=vJ (show At m1 wr w5 from(hbW.mono HZ.out.1).trans hb5);have HG5':=vJ HG5;have a2:=(hbW.cell (p:=⟨g,2,X⟩) (AH HGM.out HZ.out.1)).trans y2;have d2:=(show wr.drew.cell? ⟨g,2,X⟩=wr.cell? ⟨g,2,X⟩ from rfl).trans y2;have d3:wr.drew.cell? ⟨b,2,X⟩=S (.map (S be)):=c2;have hlo':=(HSM.out wr.drew (A2 HE.out 1)).me.look hx;rw[hv,<- Sl] at hlo';rw[hW1] at cR a2;clear hv5 hb5 hbW hone hW1 HG5 HLN hx XJ hm e1 q1 c1 hv Sl Se;generalize ((((BV ek).take k).map ev) ++ [ev x]).length=K2 at HV5 cR;generalize (((BV ek).take k).map ev).length=K1 at HB HRD cR a2 d2 y2 HG z2 HG5';have hwr6:=Wrote.setCell w5 g 2 (Ak vo5 K2 vc5);have HR1:=vJ (Bs w5 g 2 _ _ (Ak vo5 K2 vc5) HG5'.out);have HR2:Hid (BB2 (w5.setCell ⟨g,2,X⟩ (Ak vo5 K2 vc5)) m1 0 (Ak vo5 K2 vc5) (((BV ek).take (k+1)).map ev)):=vJ (by
      rw[HTK.out,Cv];exact TI HV5.out hwr6 HG5'.out)
     have HR3:Hid (At n1 w1 (w5.setCell ⟨g,2,X⟩ (Ak vo5 K2 vc5))):=vJ ((HE.out.trans (HB5.out.mono (by have:=HGN.out;have:=HGM.out;omega))).trans (hwr6.below HGN.out));have HR4:Hid (m1<=(w5.setCell ⟨g,2,X⟩ (Ak vo5 K2 vc5)).heap.size/\∀ j,j<m1->j≠g->(w5.setCell ⟨g,2,X⟩ (Ak vo5 K2 vc5)).heap[j]? =wc.heap[j]?):=vJ ⟨by rw[hwr6.2.2.2.1];exact AT HZ.out.1 HB5.out.size,fun j hj hn=>(hwr6.2.2.2.2 j hn).trans ((HB5.out.block j hj).trans (HZ.out.2 j hj hn))⟩;clear hwr6;go_wp2
     go_region_law (refine PU (by rfl) (.tmp 25) (.tmp 32) 63 63 (by rfl) (by rfl) _ _ _ _ (by rfl) (by rfl) cR ?_)
     all_goals
      have hk37:L<=37:=HL37.out;go_wp2;go_roundw
      case rel=>exact⟨k+1,_,by omega,by go_num,HR1,HR2,HR3,HR4⟩
      case measure=>simp[intOf];omega
   . obtain rfl:k=L:=by omega
     have hw0:=HW0.out wr HE.out;generalize (((BV ek).take k).map ev).length=K1 at HB y2 HG;go_wp2_with (with_reducible refine BQ rfl 180 EN (.tmp 2) (.tmp 36) rfl w.heap.size rfl _ _ _ _ _ _ rfl rfl rfl rfl _ hw0 ?_;intro w9 hw9 hr9)
     refine Bv (v:=BD #[J .u32 q,Ak no k nc,Ak vo K1 vc]) (results_cell_row rfl _ _ w.heap.size _ _ (0,0) _ rfl hr9 Tryz.underlying180 rfl (by rw[EN];rfl)) rfl ⟨_,_,rfl,?_,?_,?_⟩
     . exact iR ((HCN.out wr HZ.out.2).wrote hw9 hw0 (by decide))
     . have e1:(BV ek).take k=BV ek:=AV (by rw[HL.out];exact AB _)
       have h9:=TI HB.out hw9 hw0;rw[e1] at h9;exact(h9.lower (AX _)).bbr
     . exact HB1.out.trans (((HE.out.mono (by rw[HN1.out];exact HB1.out.size))).trans (hw9.below (AB _)))
end
end
section
open Go.RowKit
theorem pr{t:DS}(hok:t.ok=AL)(tS:t.dn=AI):t.pay.dn=AI:=by
 have:XS t.fu t.le t.dn=AI:=by
  unfold DS.ok l4 at hok;unfold XS
  revert hok
  rw[tS];cases t.fu <;> simp
 exact this
theorem T6:∀ (A:List PA) (t:DS),(BP A t).1=0->t.dn=AI->(BP A t).2.dn=AI
 |[],_,_,h=>h
 |a :: A,t,h0,tS=>by
  rw[Ey] at h0 |-
  cases hok:t.ok
  . rw[hok,AE CH] at h0
    exact absurd (show(2:Int)=0 from h0) (by decide)
  . rw[hok,AC rfl] at h0
    rw[AC rfl];refine T6 A _ h0 ?_;have:=pr hok tS;cases a <;> exact this
theorem Lst.flush{n:Nat}{s:DS}{G:List (List Int)}(h:Lst n s G)(aw:43<=n):Lst n s.flush G:=by
 obtain⟨h1,h2,h3⟩:=h;have hz:s.flush.F.length=n:=by show s.vis.length=n;rw[DS.vis_length];exact h1
 refine⟨hz,?_,?_⟩
 . rw[DS.flush_vis];exact h2
 . rcases h3 with⟨q,N,D,Z,a,b,c,e⟩| ⟨a,b⟩
   . have rf:Z.length=n:=b.1.symm.trans h1
     exact AN ⟨q,N,D,Z,a,b.home a.1 (by rw[rf];exact a.far) (by omega) c,fun x hx=>(by cases hx),e⟩
   . refine Ba ⟨?_,rfl⟩
     show InvN s.vis G
     rw[L5 b];exact a
def J1(q:Int)(N:List Int)(D:List (List Int)):List PA:=Du q (Es q N D) ++ (B9 N D ++ [.f])
theorem ol{n:Nat}{N:List Int}{D:List (List Int)}(hT:okT n N D)(q:Int):(J1 q N D).length<=100:=by
 obtain⟨h1,h2,_⟩:=EX hT.1;unfold J1 Du Es B9 Cj;simp only[Ax,Bk,List.length_range,Ch,List.length_nil];omega
theorem fU{n:Nat}{s:DS}{G:List (List Int)}(h:Lst n s G)(aw:43<=n)(hU:s.U=[])(hd:s.dn=AI){q:Int}{N:List Int}{D:List (List Int)}(hT:okT n N D)(hq:0<=q/\q<4294967296):
 let r:=BP (J1 q N D) s
 (r.1=0->r.2.dn=AI/\r.2.U=[]/\Lst n r.2 (Cf (Cj N D) G))/\(r.1=2->s.fu=AL/\RI n r.2 [G,Cf (Cj N D) G]):=by
 intro r;have hlen:=FL (J1 q N D) s;have hsl:=ol hT q;have hF:r.2.F.length=n:=hlen.1.trans h.1;have hU1:r.2.U.length<=1000:=by
  have h2:r.2.U.length<=s.U.length+(J1 q N D).length:=hlen.2;rw[hU] at h2;simp at h2;omega
 have Mc:r.1=2->s.fu=AL:=fun h2=>by
  cases hf:s.fu
  . have:=(LR (J1 q N D) s hf hd).1
    have h2':(BP (J1 q N D) s).1=2:=h2;rw[this] at h2';cases h2'
  . rfl
 have hw:=h.write aw hT hq;have er:r=if (BP (Du q (Es q N D)) s).1=0 then BP (B9 N D ++ [.f]) (BP (Du q (Es q N D)) s).2 else BP (Du q (Es q N D)) s:=EQ _ _ _
 by_cases h1:(BP (Du q (Es q N D)) s).1=0
 . rw[AC h1] at er
   have hm:=hw.2 h1;have hd1:=T6 _ _ h1 hd;generalize (BP (Du q (Es q N D)) s).2=s1 at er hm hd1;obtain⟨k1,k2⟩:=hm.home aw hT;have er2:=EQ (B9 N D) [.f] s1;by_cases h2:(BP (B9 N D) s1).1=0
   . rw[AC h2] at er2
     have hl:=k2 h2;have Vt:=T6 _ _ h2 hd1;generalize (BP (B9 N D) s1).2=s2 at er2 hl Vt;rw[er2] at er;cases hok:s2.ok
     . have e3:BP [.f] s2=(2,s2.pay):=by rw[Ey,hok,AE (by decide)]
       rw[e3] at er;rw[er];refine⟨fun e=>absurd (show(2:Int)=0 from e) (by decide),fun e=>⟨Mc (by rw[er]),by rw[er] at hU1;exact hU1,by rw[er] at hF;exact hF,fun kp=>⟨_,by simp,hl.pay.crash aw (cY kp)⟩⟩⟩
     . have e3:BP [.f] s2=(0,s2.flush):=by rw[Ey,hok,AC rfl];rfl
       rw[e3] at er;rw[er];exact⟨fun _=>⟨pr hok Vt,rfl,hl.flush aw⟩,fun e=>absurd (show(0:Int)=2 from e) (by decide)⟩
   . rw[AE h2] at er2
     rw[er2] at er;have h2':=(FR (B9 N D) s1).resolve_left h2;refine⟨fun e=>absurd (by rw[er] at e;exact e) h2,fun e=>⟨Mc e,hU1,hF,fun kp=>⟨Cf (Cj N D) G,by simp,?_⟩⟩⟩;rw[er];exact k1 (cY kp)
 . rw[AE h1] at er
   have h1':=(FR (Du q (Es q N D)) s).resolve_left h1;refine⟨fun e=>absurd (by rw[er] at e;exact e) h1,fun e=>⟨Mc e,hU1,hF,fun kp=>?_⟩⟩;rw[er];rcases hw.1 (cY kp) h1' with k|k
   . exact⟨_,by simp,k⟩
   . exact⟨_,by simp,k⟩
theorem Um{l:List Int}(j:Nat)(hj:j<l.length):l.getD j 0∈l:=by
 rw[An,AS hj];exact Bf hj
theorem qv{n:Nat}{ek:List Int}{ev:Int->List Int}(hn:ek.Nodup)(hl:ek.length<=37)(hk:∀ x∈ek,sC n x)(Mk:n<=768)(hv:∀ x∈ek,(ev x).length=256):okT n (BV ek) ((BV ek).map ev):=by
 have hmem:∀ j,j<(BV ek).length->(BV ek).getD j 0∈ek:=fun j hj=>mem_sortN.1 (Um j hj)
 have hD:∀ j,j<(BV ek).length->((BV ek).map ev).getD j []=ev ((BV ek).getD j 0):=fun j hj=>by
  simp[hj]
 refine⟨?_,?_,?_⟩
 . unfold GA
   rw[AF (by rw[Hw];exact hl),AF (by rw[Bk]),AP,AP];refine(OX _ _ _).2 fun i hi=>?_
   have hm:=hmem i hi;obtain⟨h0,h1,_⟩:=hk _ hm;unfold Z5 Uq;rw[AF (by omega),hD i hi,AF (hv _ hm),AP,AP];refine(Q9 _ i hi).2 fun j hj e=>?_
   have hnd:=VZ hn;have hj':j<(BV ek).length:=(by omega);rw[An,An,AS hi,AS hj'] at e;exact(Em.1 hnd) j i hj' hi hj e
 . exact(Lv _ _).2 fun k hk'=>(hk _ (hmem k hk')).2.1
 . refine(bQ _).2 fun k hk' e=>?_
   have:=(hk _ (hmem k hk')).2.2;unfold Ei at this;omega
theorem qO{n:Nat}{ek:List Int}{ev:Int->List Int}{B I:List (List Int)}(hk:∀ x∈ek,sC n x)(hB:B.length=n)(hI:I.length=n)(hv:∀ i,Ei i->i<n->I.getD i []=if (i:Int)∈ek then ev i else B.getD i []):
 eqO (Cf (Cj (BV ek) ((BV ek).map ev)) B) I:=by
 have hD:∀ j,j<(BV ek).length->((BV ek).map ev).getD j []=ev ((BV ek).getD j 0):=fun j hj=>by
  simp[hj]
 refine⟨by rw[B6];omega,fun i ho hi=>?_⟩;rw[hv i ho (by omega)];by_cases hin:(i:Int)∈ek
 . rw[AC hin]
   refine Jj _ B i _ (by omega) (fun x hx hxi=>?_) ?_
   . unfold Cj at hx
     obtain⟨j,hj,rfl⟩:=Cq.1 hx;have hj':=Bo.1 hj;have h0:=(hk _ (mem_sortN.1 (Um j hj'))).1;have:(BV ek).getD j 0=(i:Int):=by
      have h2:((BV ek).getD j 0).toNat=i:=hxi;omega
     show((BV ek).map ev).getD j []=ev i
     rw[hD j hj',this]
   . obtain⟨j,hj,e⟩:=BW (mem_sortN.2 hin)
     refine⟨(((BV ek).getD j 0).toNat,((BV ek).map ev).getD j []),?_,?_⟩
     . unfold Cj
       exact Cq.2 ⟨j,Bo.2 hj,rfl⟩
     . show((BV ek).getD j 0).toNat=i
       rw[An,AS hj];show((BV ek)[j]).toNat=i
       rw[e];rfl
 . rw[AE hin]
   refine Dp _ B i fun x hx hxi=>?_
   unfold Cj at hx;obtain⟨j,hj,rfl⟩:=Cq.1 hx;have hj':=Bo.1 hj;have hm:=mem_sortN.1 (Um j hj');have h0:=(hk _ hm).1;have h2:((BV ek).getD j 0).toNat=i:=hxi;exact hin (by rw[show(i:Int)=(BV ek).getD j 0 by omega];exact hm)
structure Stg (w:Ah) (Pd:Nat->Prop) (b be bp:Nat) (d:Aq) (q:Int) (ek:List Int) (eg:Int->Aq) (ev:Int->List Int) (pk:List Int) (pg:Int->Aq) (pv:Int->List Int) (wi:Bool) (g:Nat) (vN vD:Aq) (N:List Int) (D:List (List Int)) (W:Ah) (P':Nat->Prop) (s:DS):Prop where
 sm:SMem W P' b be bp d q ek eg ev pk pg pv wi s
 tx:TxVa W P' (BD #[J .u32 q,vN,vD]) q N D
 box:W.heap[g]? =S (Ar #[J .u32 q,vN,vD] 180 (0,0))
 chg:Chg Pd P' w W
def NQ:Obj:=Ar #[Am X,J .u32 0,.map X,.map X,A1 AI,A1 AL] 72 (0,0)
section
variable {w:Ah}{Pd:Nat->Prop}{b be bp:Nat}{d:Aq}{q:Int}{ek:List Int}{eg:Int->Aq}{ev:Int->List Int}{pk:List Int}{pg:Int->Aq}{pv:Int->List Int}{wi:Bool}{g:Nat}{vN vD:Aq}{N:List Int}{D:List (List Int)}{W:Ah}{P':Nat->Prop}{s:DS}
theorem Stg.below(h:Stg w Pd b be bp d q ek eg ev pk pg pv wi g vN vD N D W P' s){W':Ah}(hb:At W.heap.size W W'):Stg w Pd b be bp d q ek eg ev pk pg pv wi g vN vD N D W' P' s:=
 ⟨h.sm.below hb,h.tx.chg (Chg.of_below hb),(hb.block g (Al.1 h.box).1).trans h.box,h.chg.trans (Chg.of_below hb)⟩
theorem Stg.step(h:Stg w Pd b be bp d q ek eg ev pk pg pv wi g vN vD N D W P' s){W':Ah}{P'':Nat->Prop}{s':DS}(hd:Dk W' P'' d s')(hc:Chg P' P'' W W'):Stg w Pd b be bp d q ek eg ev pk pg pv wi g vN vD N D W' P'' s':=
 ⟨h.sm.disk hd hc,h.tx.chg hc,(hc.keep g (Al.1 h.box).1 (h.sm.dk.not h.box (by decide) (by decide) (by decide))).1.trans h.box,h.chg.trans hc⟩
theorem Stg.facts(h:Stg w Pd b be bp d q ek eg ev pk pg pv wi g vN vD N D W P' s):W.cell? ⟨b,0,X⟩=S d/\W.cell? ⟨g,0,X⟩=S (J .u32 q)/\W.cell? ⟨g,1,X⟩=S vN/\W.cell? ⟨g,2,X⟩=S vD:=⟨h.sm.c0,(Xe h.box).1.1,(Xe h.box).1.2.1,(Xe h.box).1.2.2⟩
theorem Stg.write(h:Stg w Pd b be bp d q ek eg ev pk pg pv wi g vN vD N D W P' s)(hB:Gp s.F.length N D=AL)(hU:s.U.length<=900000):
 AA Ae 115 #[d,BD #[J .u32 q,vN,vD]] W fun e W'=>e=Ag (J Y (BP (Du q (Es q N D)) s).1)/\∃ P'',Stg w Pd b be bp d q ek eg ev pk pg pv wi g vN vD N D W' P'' (BP (Du q (Es q N D)) s).2:=
 (Yy h.sm.dk h.tx.v h.sm.q0.1 h.sm.q0.2 hB hU).mono fun e W' ⟨he,P'',hd,hc⟩=>⟨he,P'',h.step hd hc⟩
theorem Stg.home(h:Stg w Pd b be bp d q ek eg ev pk pg pv wi g vN vD N D W P' s)(hB:Gp s.F.length N D=AL)(hU:s.U.length<=900000):
 AA Ae 103 #[d,BD #[J .u32 q,vN,vD]] W fun e W'=>e=Ag (J Y (BP (B9 N D) s).1)/\∃ P'',Stg w Pd b be bp d q ek eg ev pk pg pv wi g vN vD N D W' P'' (BP (B9 N D) s).2:=
 (TO h.sm.dk h.tx hB hU).mono fun e W' ⟨he,P'',hd,hc⟩=>⟨he,P'',h.step hd hc⟩
theorem Stg.flush(h:Stg w Pd b be bp d q ek eg ev pk pg pv wi g vN vD N D W P' s)(hU:s.U.length<=900000):
 AA Ae 104 #[d] W fun e W'=>e=Ag (J Y (BP [.f] s).1)/\∃ P'',Stg w Pd b be bp d q ek eg ev pk pg pv wi g vN vD N D W' P'' (BP [.f] s).2:=
 (Ug h.sm.dk (by omega)).mono fun e W' ⟨he,P'',hd,hc⟩=>by
   rw[Ey];cases hok:s.ok
   . rw[hok] at he hd
     exact⟨he,P'',h.step hd hc⟩
   . rw[hok] at he hd
     exact⟨he,P'',h.step hd hc⟩
theorem Stg.over(h:Stg w Pd b be bp d q ek eg ev pk pg pv wi g vN vD N D W P' s):AA Ae 116 #[Am (S ⟨b,0,X⟩),J Y 2] W fun e w'=>e=Ag (J Y 2)/\
 ∃ Pd',w'.heap[b]? =S NQ/\Dk w' Pd' d s/\(∀ k,Pd' k->Pd k\/w.heap.size<=k)/\Ext (fun k=>Pd k\/k=b) w w':=
 (mu h.sm).mono fun e w' ⟨he,hw,hb⟩=>⟨he,P',hb,h.sm.dk.same fun k hk=>hw.2.2.2.2 k fun e=>h.sm.nd (e ▸ hk),fun k hk=>M9 h.chg hk,
   ((Ext.of_chg h.chg fun k hk=>AN hk).trans (P2:=fun k=>k=b) (Ext.of_wrote hw rfl) fun k _ e=>Ba e)⟩
theorem Stg.fresh(h:Stg w Pd b be bp d q ek eg ev pk pg pv wi g vN vD N D W P' s){q':Int}(hq:0<=q'/\q'<4294967296):
 let w':=((W.setCell ⟨b,1,X⟩ (J .u32 q')).setCell ⟨b,2,X⟩ (.map (S W.heap.size))).alloc (.map #[] 0)
 ∃ be' Pd' q'',SMem w' Pd' b be' bp d q'' [] eg ev pk pg pv wi s/\(w.heap.size<=be'/\be'<w'.heap.size)/\(∀ k,Pd' k->Pd k\/w.heap.size<=k)/\Ext (fun k=>Pd k\/k=b) w w':=by
 intro w';obtain⟨w2,GN⟩:=nm ((W.setCell ⟨b,1,X⟩ (J .u32 q')).setCell ⟨b,2,X⟩ (.map (S W.heap.size)));have hw':w'=w2.alloc (.map #[] 0):=by rw[GN]
 have hs2:w2.heap.size=W.heap.size:=by rw[GN];simp[Ah.setCell]
 have hwr:Wrote W w2 b:=by rw[GN];exact(Wrote.setCell W b 1 _).and (Wrote.setCell _ b 2 _)
 have hbb:At w2.heap.size w2 w':=by rw[hw'];exact Ay w2 _
 have hbW:=h.sm.bl;have e1:=Bs W b 1 _ _ (J .u32 q') h.sm.hb;have e2:=Bs _ b 2 _ _ (.map (S W.heap.size)) e1;rw[<- GN] at e2;have e3:=(hbb.block b (by rw[hs2];exact hbW)).trans e2;have En:w'.heap.size=W.heap.size+1:=by rw[hw'];simp[hs2]
 have hk:∀ k,k<W.heap.size->k≠b->w'.heap[k]? =W.heap[k]? :=fun k hl hn=>(hbb.block k (by rw[hs2];exact hl)).trans (hwr.2.2.2.2 k hn)
 have hM:Mp w' W.heap.size [] eg:=by
  have h0:=Mp.made w2 eg;rw[hs2,<- hw'] at h0;exact h0
 have hbp:=h.sm.mp.lt;have hext:Ext (fun k=>Pd k\/k=b) w w':=((Ext.of_chg h.chg fun k hk=>AN hk).trans (P2:=fun k=>k=b) ⟨hbb.os.trans hwr.1,hbb.tape.trans hwr.2.1,hbb.output.trans hwr.2.2.1,by rw[En];omega,fun k hl hn=>hk k hl hn⟩ fun k _ e=>Ba e);refine⟨W.heap.size,P',q',⟨e3,?_,hq,hM,?_,?_,fun x hx=>absurd hx BI,?_⟩,⟨h.chg.size,by rw[En];omega⟩,fun k hk=>M9 h.chg hk,hext⟩
 . exact h.sm.dk.same fun k hp=>hk k (h.sm.dk.lt k hp) fun e=>h.sm.nd (e ▸ hp)
 . exact h.sm.mp.keep (hk bp hbp h.sm.nb.2)
 . exact fun e=>by rw[<- e] at hbp;exact Nat.lt_irrefl _ hbp
 . exact fun x hx=>(h.sm.rp x hx).keep fun r hr=>hk r ((h.sm.rp x hx).lt hr) ((h.sm.rp x hx).ne hr h.sm.hb (by decide))
end
def vt(w:Ah)(Pd:Nat->Prop)(b bp:Nat)(d:Aq)(eg:Int->Aq)(ev:Int->List Int)(pk:List Int)(pg:Int->Aq)(pv:Int->List Int)(wi:Bool)(r:Int × DS)(e:Ending)(w':Ah):Prop:=
 (r.1=0/\e=Ag (J Y 0)/\∃ be' Pd' q',SMem w' Pd' b be' bp d q' [] eg ev pk pg pv wi r.2/\(w.heap.size<=be'/\be'<w'.heap.size)/\(∀ k,Pd' k->Pd k\/w.heap.size<=k)/\Ext (fun k=>Pd k\/k=b) w w')\/
 (r.1=2/\e=Ag (J Y 2)/\∃ Pd',w'.heap[b]? =S NQ/\Dk w' Pd' d r.2/\(∀ k,Pd' k->Pd k\/w.heap.size<=k)/\Ext (fun k=>Pd k\/k=b) w w')
section
variable {w:Ah}{Pd:Nat->Prop}{b be bp:Nat}{d:Aq}{q:Int}{ek:List Int}{eg:Int->Aq}{ev:Int->List Int}{pk:List Int}{pg:Int->Aq}{pv:Int->List Int}{wi:Bool}{s:DS}
theorem Z3(h:SMem w Pd b be bp d q ek eg ev pk pg pv wi s)(hne:0<ek.length)(XZ:ek.length<=37)(hB:Gp s.F.length (BV ek) ((BV ek).map ev)=AL)(hU:s.U.length<=800000):
 AA Ae 75 #[Am (S ⟨b,0,X⟩)] w (vt w Pd b bp d eg ev pk pg pv wi (BP (J1 q (BV ek) ((BV ek).map ev)) s)):=by
 have KT:=vJ (gP h XZ);obtain⟨N,hN⟩:=nm (BV ek);obtain⟨D,hD⟩:=nm (N.map ev);rw[<- hN,<- hD] at KT hB |-
 have Ki:N.length<=37/\D.length<=37:=by rw[hD,Bk,hN,Hw];exact⟨XZ,XZ⟩
 have c2:=h.c2;have hlen:=fun ty=>h.me.len ty
 have hp:0<(ek.length:Int):=by omega
 obtain⟨m,hm⟩:=nm ek.length;rw[<- hm] at hlen hp;have h0:=h.dk.ptr;obtain⟨bd,rfl⟩:=h0;have HST:=vJ (fun(w1:Ah) (vN vD:Aq) (hi:IR w1 0 vN N) (hd:BBR w1 0 vD D) (hb:At w.heap.size w w1)=>
  show Stg w Pd b be bp (Am (S ⟨bd,0,X⟩)) q ek eg ev pk pg pv wi w1.heap.size vN vD N D (w1.alloc (Ar #[J .u32 q,vN,vD] 180)) Pd s from
   ⟨(h.below hb).below (Ay w1 _),(TxVa.own (h.below hb).dk hi hd).chg (Chg.of_below (Ay w1 _)),Aw w1 _,(Chg.of_below hb).trans (Chg.of_below (Ay w1 _))⟩)
 have HSH:=vJ (fun(w1:Ah) (vN vD:Aq) (hi:IR w1 0 vN N) (hd:BBR w1 0 vD D)=>And.intro hi.isc.2 hd.sl.shape);have hl1:=FL (Du q (Es q N D)) s;have hlw:(Du q (Es q N D)).length<=50:=by
  unfold Du Es;simp only[Ax,Bk,List.length_range,Ch,List.length_nil];omega
 have hlh:(B9 N D).length<=40:=by
  rw[FA];omega
 have HW:=vJ (fun(g:Nat) (vN vD:Aq) (W:Ah) (P':Nat->Prop) (hs:Stg w Pd b be bp (Am (S ⟨bd,0,X⟩)) q ek eg ev pk pg pv wi g vN vD N D W P' s)=>hs.write hB (by omega));have er:=EQ (Du q (Es q N D)) (B9 N D ++ [.f]) s;have HQ:=vJ h.q0;obtain⟨R,hR⟩:=nm (BP (J1 q N D) s);have hR':=hR;unfold J1 at hR';rw[er] at hR';rw[<- hR];have hr1:=FR (Du q (Es q N D)) s;obtain⟨r1,s1,h1⟩:∃ r1 s1,BP (Du q (Es q N D)) s=(r1,s1):=⟨_,_,rfl⟩;rw[h1] at HW hl1 hR' hr1;simp only at hl1;have HH:=vJ (fun(g:Nat) (vN vD:Aq) (W:Ah) (P':Nat->Prop) (hs:Stg w Pd b be bp (Am (S ⟨bd,0,X⟩)) q ek eg ev pk pg pv wi g vN vD N D W P' s1)=>hs.home (by rw[hl1.1];exact hB) (by omega));have er2:=EQ (B9 N D) [.f] s1;rw[er2] at hR';have Mu:=FL (B9 N D) s1;have hr2:=FR (B9 N D) s1;obtain⟨r2,s2,h2⟩:∃ r2 s2,BP (B9 N D) s1=(r2,s2):=⟨_,_,rfl⟩;rw[h2] at HH Mu hR' hr2;simp only at Mu;have HF:=vJ (fun(g:Nat) (vN vD:Aq) (W:Ah) (P':Nat->Prop) (hs:Stg w Pd b be bp (Am (S ⟨bd,0,X⟩)) q ek eg ev pk pg pv wi g vN vD N D W P' s2)=>hs.flush (by omega));have hr3:=FR [.f] s2;obtain⟨r3,s3,h3⟩:∃ r3 s3,BP [.f] s2=(r3,s3):=⟨_,_,rfl⟩;rw[h3] at HF hR' hr3;have sJ:∃ q',IntKind.u32.wrap (q+1)=q'/\0<=q'/\q'<4294967296:=⟨(q+1)%4294967296,by simp[IntKind.wrap,IntKind.signed,IntKind.bits],by omega,by omega⟩;obtain⟨q',hq',pT⟩:=sJ;have HQ':=vJ pT;clear h XZ hB hU hN hD Ki hm hl1 Mu hlw hlh er er2 h1 h2 h3 hne pT hR;simp only at hr1 hr2 hr3 HW HH HF hR';rcases hr1 with rfl|rfl
 . rcases hr2 with rfl|rfl
   . rcases hr3 with rfl|rfl
     . -- all is done
       rw[AC rfl,AC rfl] at hR';subst hR';go_enter Tryz.func75,Tryz.ntmps75
       go_wp2_with (go_at_call 114;(with_reducible refine KT.out.mono ?_);rintro e w1 ⟨vN,vD,rfl,hi,hd,hb⟩
                    have HS:=vJ (HST.out w1 vN vD hi hd hb);obtain⟨⟨no,nc,rfl,_⟩,ao,dc,rfl,_⟩:=HSH.out w1 vN vD hi hd;clear hi hd hb)
       generalize hgg:w1.heap.size=g at HS;generalize w1.alloc (Ar #[J .u32 q,Ak no N.length nc,Ak ao D.length dc] 180)=W2 at HS |-
       obtain⟨k0,k1,k2,k3⟩:=HS.out.facts;generalize N.length=ln at HS k2 |-
       generalize D.length=ld at HS k3 |-
       have KW:=vJ (HW.out g _ _ W2.drew _ (HS.out.below (AM _ W2).drew));go_still_tail 5,(by kernel_rfl)
       go_wp2_with (first
                    |(go_at_call 115;(with_reducible refine KW.out.mono ?_);rintro e W3 ⟨rfl,P3,hs3⟩
                      have HS3:=vJ hs3;obtain⟨l0,l1,l2,l3⟩:=hs3.facts;clear hs3))
       have hmm:=@run_makeMap Ae;have KH:=vJ (HH.out g _ _ W3.drew _ (HS3.out.below (AM _ W3).drew));go_still_tail 5,(by kernel_rfl)
       go_wp2_with (first
                    |(go_at_call 103;(with_reducible refine KH.out.mono ?_);rintro e W4 ⟨rfl,P4,hs4⟩
                      have HS4:=vJ hs4;obtain⟨m0,m1,m2,m3⟩:=hs4.facts;clear hs4)
                    |(go_at_call 104;(with_reducible refine(HF.out g _ _ W4 _ HS4.out).mono ?_);rintro e W5 ⟨rfl,P5,hs5⟩
                      have HS5:=vJ hs5;have n1:=hs5.sm.c1;have n2:=hs5.sm.c2;have f1:=hs5.sm.fr 1;have f2:=hs5.sm.fr 2;have hbl:=hs5.sm.bl;have Sn:b≠W5.heap.size:=Nat.ne_of_lt hs5.sm.bl;have rX:W5.heap.size≠b:=fun e=>Sn e.symm
                      clear hs5))
       go_ret;exact AN ⟨rfl,rfl,HS5.out.fresh HQ'.out⟩
     . rw[AC rfl,AC rfl] at hR'
       subst hR';go_enter Tryz.func75,Tryz.ntmps75
       go_wp2_with (go_at_call 114;(with_reducible refine KT.out.mono ?_);rintro e w1 ⟨vN,vD,rfl,hi,hd,hb⟩
                    have HS:=vJ (HST.out w1 vN vD hi hd hb);obtain⟨⟨no,nc,rfl,_⟩,ao,dc,rfl,_⟩:=HSH.out w1 vN vD hi hd;clear hi hd hb)
       generalize hgg:w1.heap.size=g at HS;generalize w1.alloc (Ar #[J .u32 q,Ak no N.length nc,Ak ao D.length dc] 180)=W2 at HS |-
       obtain⟨k0,k1,k2,k3⟩:=HS.out.facts;generalize N.length=ln at HS k2 |-
       generalize D.length=ld at HS k3 |-
       have KW:=vJ (HW.out g _ _ W2.drew _ (HS.out.below (AM _ W2).drew));go_still_tail 5,(by kernel_rfl)
       go_wp2_with (first
                    |(go_at_call 115;(with_reducible refine KW.out.mono ?_);rintro e W3 ⟨rfl,P3,hs3⟩
                      have HS3:=vJ hs3;obtain⟨l0,l1,l2,l3⟩:=hs3.facts;clear hs3))
       have KH:=vJ (HH.out g _ _ W3.drew _ (HS3.out.below (AM _ W3).drew));go_still_tail 5,(by kernel_rfl)
       go_wp2_with (first
                    |(go_at_call 103;(with_reducible refine KH.out.mono ?_);rintro e W4 ⟨rfl,P4,hs4⟩
                      have HS4:=vJ hs4;obtain⟨m0,m1,m2,m3⟩:=hs4.facts;clear hs4)
                    |(go_at_call 104;(with_reducible refine(HF.out g _ _ W4 _ HS4.out).mono ?_);rintro e W5 ⟨rfl,P5,hs5⟩
                      have HS5:=vJ hs5;have n1:=hs5.sm.c1;have n2:=hs5.sm.c2;have f1:=hs5.sm.fr 1;have f2:=hs5.sm.fr 2;have hbl:=hs5.sm.bl;have Sn:b≠W5.heap.size:=Nat.ne_of_lt hs5.sm.bl;have rX:W5.heap.size≠b:=fun e=>Sn e.symm
                      clear hs5)
                    |(go_at_call 116;(with_reducible refine HS5.out.over.mono ?_);rintro e w9 ⟨rfl,uK⟩))
       go_ret;exact Ba ⟨rfl,rfl,uK⟩
   . rw[AC rfl,AE (by decide)] at hR'
     subst hR';go_enter Tryz.func75,Tryz.ntmps75
     go_wp2_with (go_at_call 114;(with_reducible refine KT.out.mono ?_);rintro e w1 ⟨vN,vD,rfl,hi,hd,hb⟩
                  have HS:=vJ (HST.out w1 vN vD hi hd hb);obtain⟨⟨no,nc,rfl,_⟩,ao,dc,rfl,_⟩:=HSH.out w1 vN vD hi hd;clear hi hd hb)
     generalize hgg:w1.heap.size=g at HS;generalize w1.alloc (Ar #[J .u32 q,Ak no N.length nc,Ak ao D.length dc] 180)=W2 at HS |-
     obtain⟨k0,k1,k2,k3⟩:=HS.out.facts;generalize N.length=ln at HS k2 |-
     generalize D.length=ld at HS k3 |-
     have KW:=vJ (HW.out g _ _ W2.drew _ (HS.out.below (AM _ W2).drew));go_still_tail 5,(by kernel_rfl)
     go_wp2_with (first
                  |(go_at_call 115;(with_reducible refine KW.out.mono ?_);rintro e W3 ⟨rfl,P3,hs3⟩
                    have HS3:=vJ hs3;obtain⟨l0,l1,l2,l3⟩:=hs3.facts;clear hs3))
     have KH:=vJ (HH.out g _ _ W3.drew _ (HS3.out.below (AM _ W3).drew));go_still_tail 5,(by kernel_rfl)
     go_wp2_with (first
                  |(go_at_call 103;(with_reducible refine KH.out.mono ?_);rintro e W4 ⟨rfl,P4,hs4⟩
                    have HS4:=vJ hs4;obtain⟨m0,m1,m2,m3⟩:=hs4.facts;clear hs4)
                  |(go_at_call 116;(with_reducible refine HS4.out.over.mono ?_);rintro e w9 ⟨rfl,uK⟩))
     go_ret;exact Ba ⟨rfl,rfl,uK⟩
 . rw[AE (by decide)] at hR'
   subst hR';clear HH HF;go_enter Tryz.func75,Tryz.ntmps75
   go_wp2_with (go_at_call 114;(with_reducible refine KT.out.mono ?_);rintro e w1 ⟨vN,vD,rfl,hi,hd,hb⟩
                have HS:=vJ (HST.out w1 vN vD hi hd hb);obtain⟨⟨no,nc,rfl,_⟩,ao,dc,rfl,_⟩:=HSH.out w1 vN vD hi hd;clear hi hd hb)
   generalize hgg:w1.heap.size=g at HS;generalize w1.alloc (Ar #[J .u32 q,Ak no N.length nc,Ak ao D.length dc] 180)=W2 at HS |-
   obtain⟨k0,k1,k2,k3⟩:=HS.out.facts;generalize N.length=ln at HS k2 |-
   generalize D.length=ld at HS k3 |-
   have KW:=vJ (HW.out g _ _ W2.drew _ (HS.out.below (AM _ W2).drew));go_still_tail 5,(by kernel_rfl)
   go_wp2_with (first
                |(go_at_call 115;(with_reducible refine KW.out.mono ?_);rintro e W3 ⟨rfl,P3,hs3⟩
                  have HS3:=vJ hs3;obtain⟨l0,l1,l2,l3⟩:=hs3.facts;clear hs3)
                |(go_at_call 116;(with_reducible refine HS3.out.over.mono ?_);rintro e w9 ⟨rfl,uK⟩))
   go_ret;exact Ba ⟨rfl,rfl,uK⟩
end
def Fq{α:Type}(pk:List Int)(p e:Int->α)(x:Int):α:=if x∈pk then p x else e x
section
variable {w:Ah}{Pd:Nat->Prop}{b be bp:Nat}{d:Aq}{q:Int}{ek:List Int}{eg:Int->Aq}{ev:Int->List Int}{pk:List Int}{pg:Int->Aq}{pv:Int->List Int}{wi:Bool}{s:DS}
theorem SMem.copied(h:SMem w Pd b be bp d q ek eg ev pk pg pv wi s){w':Ah}(hm:Mp w' be (Fe ek pk) (Fq pk pg eg))(hp:Mp w' bp pk pg)(hg:w.grownBy w' (S be)):SMem w' Pd b be bp d q (Fe ek pk) (Fq pk pg eg) (Fq pk pv ev) pk pg pv wi s:=by
 have hk:∀ k,k<w.heap.size->k≠be->w'.heap[k]? =w.heap[k]? :=fun k hl hn=>hg.block k hl fun e=>hn (Bz e)
 refine⟨by rw[hk b h.bl fun e=>h.nb.1 e.symm];exact h.hb,h.dk.same fun k iq=>hk k (h.dk.lt k iq) fun e=>Mp.nd h.dk h.me (e ▸ iq),h.q0,hm,hp,h.ne,fun x hx=>?_,fun x hx=>(h.rp x hx).keep fun g hg'=>hk g ((h.rp x hx).lt hg') ((h.rp x hx).nm hg' h.me)⟩;unfold Fq;by_cases hin:x∈pk
 . rw[AC hin,AC hin]
   exact(h.rp x hin).keep fun g hg'=>hk g ((h.rp x hin).lt hg') ((h.rp x hin).nm hg' h.me)
 . rw[AE hin,AE hin]
   have hx':=(mem_uniN.1 hx).resolve_right hin;exact(h.re x hx').keep fun g hg'=>hk g ((h.re x hx').lt hg') ((h.re x hx').nm hg' h.me)
theorem SMem.copy(h:SMem w Pd b be bp d q ek eg ev pk pg pv wi s)(XZ:ek.length<=1000)(hpl:pk.length<=1000):AA Ae 76 #[.map (S be),.map (S bp)] w fun e w'=>e=Ag (AO #[])/\SMem w' Pd b be bp d q (Fe ek pk) (Fq pk pg eg) (Fq pk pv ev) pk pg pv wi s/\Ext (fun k=>k=be) w w':=
 (iX h.me h.mp h.ne (by omega)).mono fun e w' ⟨he,hm,hp,hg⟩=>⟨he,h.copied hm hp hg,Ext.of_grown hg rfl⟩
theorem SMem.cleared(h:SMem w Pd b be bp d q ek eg ev pk pg pv wi s)(pg':Int->Aq)(pv':Int->List Int):
 let w':=((w.setCell ⟨b,3,X⟩ (.map (S w.heap.size))).setCell ⟨b,4,X⟩ (A1 AI)).alloc (.map #[] 0)
 SMem w' Pd b be w.heap.size d q ek eg ev [] pg' pv' AI s/\w'.heap.size=w.heap.size+1/\Ext (fun k=>k=b) w w':=by
 intro w';obtain⟨w2,GN⟩:=nm ((w.setCell ⟨b,3,X⟩ (.map (S w.heap.size))).setCell ⟨b,4,X⟩ (A1 AI));have hw':w'=w2.alloc (.map #[] 0):=by rw[GN]
 have hs2:w2.heap.size=w.heap.size:=by rw[GN];simp[Ah.setCell]
 have hwr:Wrote w w2 b:=by rw[GN];exact(Wrote.setCell w b 3 _).and (Wrote.setCell _ b 4 _)
 have hbb:At w2.heap.size w2 w':=by rw[hw'];exact Ay w2 _
 have e1:=Bs w b 3 _ _ (.map (S w.heap.size)) h.hb;have e2:=Bs _ b 4 _ _ (A1 AI) e1;rw[<- GN] at e2;have e3:=(hbb.block b (by rw[hs2];exact h.bl)).trans e2;have En:w'.heap.size=w.heap.size+1:=by rw[hw'];simp[hs2]
 have hk:∀ k,k<w.heap.size->k≠b->w'.heap[k]? =w.heap[k]? :=fun k hl hn=>(hbb.block k (by rw[hs2];exact hl)).trans (hwr.2.2.2.2 k hn)
 have hM:Mp w' w.heap.size [] pg':=by
  have h0:=Mp.made w2 pg';rw[hs2,<- hw'] at h0;exact h0
 have hbe:=h.me.lt
 refine⟨⟨e3,h.dk.same fun k hp=>hk k (h.dk.lt k hp) fun e=>h.nd (e ▸ hp),h.q0,h.me.keep (hk be hbe h.nb.1),hM,fun e=>by rw[e] at hbe;exact Nat.lt_irrefl _ hbe,
  fun x hx=>(h.re x hx).keep fun r hr=>hk r ((h.re x hx).lt hr) ((h.re x hx).ne hr h.hb (by decide)),fun x hx=>absurd hx BI⟩,En,
  ⟨hbb.os.trans hwr.1,hbb.tape.trans hwr.2.1,hbb.output.trans hwr.2.2.1,by rw[En];omega,fun k hl hn=>hk k hl hn⟩⟩
theorem VU(h:SMem w Pd b be bp d q ek eg ev pk pg pv wi s)(XZ:ek.length<=37)(hpl:pk.length<=37)(hu:(Fe ek pk).length<=37):
 AA Ae 36 #[Am (S ⟨b,0,X⟩)] w fun e w'=>e=Ag (J Y 0)/\SMem w' Pd b be bp d q (Fe ek pk) (Fq pk pg eg) (Fq pk pv ev) pk pg pv wi s/\Ext (fun k=>k=be) w w':=by
 have KT:=vJ (NN h (by omega) (by omega));have HB:=vJ (fun(W:Ah) (hb:At w.heap.size w W)=>h.below hb);have KC:=vJ (fun(W:Ah) (hb:At w.heap.size w W)=>(h.below hb).copy (by omega) (by omega));have Mi:((Fe ek pk).length:Int)<=37:=by omega
 obtain⟨R,hR⟩:=nm ((Fe ek pk).length);rw[<- hR] at KT Mi;clear h XZ hpl hu hR;go_enter Tryz.func36,Tryz.ntmps36
 go_wp2_with (go_at_call 74;(with_reducible refine KT.out.mono ?_);rintro e w1 ⟨rfl,hb1⟩
              have HB1:=vJ hb1;have c2:=(HB.out w1 hb1).c2;have c3:=(HB.out w1 hb1).c3;clear hb1)
 have KC1:=vJ (KC.out w1.drew HB1.out.drew);go_still_tail 8,(by kernel_rfl)
 go_wp2_with (go_at_call 76;(with_reducible refine KC1.out.mono ?_);rintro e w2 ⟨rfl,hm,hx⟩
              have HM:=vJ hm;have HX:=vJ hx;clear hm hx)
 go_ret;exact⟨rfl,HM.out,(Ext.of_below HB1.out.drew).trans (P2:=fun k=>k=be) HX.out fun k _ e=>e⟩
theorem VV(h:SMem w Pd b be bp d q ek eg ev pk pg pv wi s)(XZ:ek.length<=37)(hpl:pk.length<=37)(hu:37<(Fe ek pk).length)(hB:Gp s.F.length (BV ek) ((BV ek).map ev)=AL)(hU:s.U.length<=800000):
 AA Ae 36 #[Am (S ⟨b,0,X⟩)] w fun e w'=>
  ((BP (J1 q (BV ek) ((BV ek).map ev)) s).1=0/\e=Ag (J Y 0)/\∃ be' Pd' q',SMem w' Pd' b be' bp d q' (Fe [] pk) (Fq pk pg eg) (Fq pk pv ev) pk pg pv wi (BP (J1 q (BV ek) ((BV ek).map ev)) s).2/\(w.heap.size<=be'/\be'<w'.heap.size)/\(∀ k,Pd' k->Pd k\/w.heap.size<=k)/\Ext (fun k=>Pd k\/k=b) w w')\/
  ((BP (J1 q (BV ek) ((BV ek).map ev)) s).1=2/\e=Ag (J Y 2)/\∃ Pd',w'.heap[b]? =S NQ/\Dk w' Pd' d (BP (J1 q (BV ek) ((BV ek).map ev)) s).2/\(∀ k,Pd' k->Pd k\/w.heap.size<=k)/\Ext (fun k=>Pd k\/k=b) w w'):=by
 have hne:0<ek.length:=by
  rcases Nat.eq_zero_or_pos ek.length with e|e
  . have:ek=[]:=Bb e
    rw[this] at hu;have h2:(Fe [] pk).length<=pk.length:=by
     unfold Fe;rw[B0];exact List.length_filter_le _ _
    omega
  . exact e
 have KT:=vJ (NN h (by omega) (by omega));have KS:=vJ (fun(W:Ah) (hb:At w.heap.size w W)=>Z3 (h.below hb) hne XZ hB hU);have HPL:=vJ hpl;have cQ:37<((Fe ek pk).length:Int):=by omega
 obtain⟨R,hR⟩:=nm ((Fe ek pk).length);rw[<- hR] at KT cQ;obtain⟨T,hT⟩:=nm (BP (J1 q (BV ek) ((BV ek).map ev)) s);have sL:T.1=0\/T.1=2:=by rw[hT];exact FR _ _
 rw[<- hT] at KS |-
 obtain⟨r,s'⟩:=T;clear h XZ hpl hu hR hT hB hU hne;rcases sL with h0|h0
 . simp only at h0
   subst h0;have KS':=vJ (fun(W:Ah) (hb:At w.heap.size w W)=>(KS.out W hb).mono (R':=fun e w'=>e=Ag (J Y 0)/\∃ be' Pd' q',SMem w' Pd' b be' bp d q' [] eg ev pk pg pv wi s'/\(W.heap.size<=be'/\be'<w'.heap.size)/\(∀ k,Pd' k->Pd k\/W.heap.size<=k)/\Ext (fun k=>Pd k\/k=b) W w') (fun e w' hq=>by
    rcases hq with⟨_,he,hx⟩| ⟨h2,_⟩
    . exact⟨he,hx⟩
    . exact absurd (show(0:Int)=2 from h2) (by decide)))
   clear KS;go_enter Tryz.func36,Tryz.ntmps36
   go_wp2_with (first
    |(go_at_call 74;(with_reducible refine KT.out.mono ?_);rintro e w1 ⟨rfl,hb1⟩
      have HB1:=vJ hb1;clear hb1)
    |(go_at_call 75;(with_reducible refine(KS'.out _ HB1.out).mono ?_);rintro e w2 ⟨rfl,be',Pd',q',hm,hbe,iq,hx⟩
      have HM:=vJ hm;have HBE:=vJ hbe;have HPD:=vJ iq;have HX:=vJ hx;have c2:=hm.c2;have c3:=hm.c3;clear hm hbe iq hx))
   have KC1:=vJ (SMem.copy (HM.out.below (AM _ w2).drew) (AX _) (by have:=HPL.out;omega));go_still_tail 8,(by kernel_rfl)
   go_wp2_with (go_at_call 76;(with_reducible refine KC1.out.mono ?_);rintro e w3 ⟨rfl,hm,hx⟩
                have HM3:=vJ hm;have HX3:=vJ hx;clear hm hx)
   go_ret;refine AN ⟨by first|rfl|trivial,rfl,be',Pd',q',HM3.out,⟨AT HB1.out.size HBE.out.1,AH HBE.out.2 HX3.out.size⟩,fun k hk=>(HPD.out k hk).imp id fun e=>AT HB1.out.size e,?_⟩;have e1:Ext (fun k=>Pd k\/k=b) w w2:=(Ext.of_below HB1.out).trans (P2:=fun k=>Pd k\/k=b) HX.out fun k _ e=>e
   have e2:Ext (fun k=>k=be') w2 w3:=⟨HX3.out.os,HX3.out.tape,HX3.out.output,HX3.out.size,HX3.out.keep⟩;exact e1.trans e2 fun k hk e=>absurd (e ▸ hk) (by have:=HBE.out.1;have:=HB1.out.size;omega)
 . simp only at h0
   subst h0;have KS':=vJ (fun(W:Ah) (hb:At w.heap.size w W)=>(KS.out W hb).mono (R':=fun e w'=>e=Ag (J Y 2)/\∃ Pd',w'.heap[b]? =S NQ/\Dk w' Pd' d s'/\(∀ k,Pd' k->Pd k\/W.heap.size<=k)/\Ext (fun k=>Pd k\/k=b) W w') (fun e w' hq=>by
    rcases hq with⟨h2,_⟩| ⟨_,he,hx⟩
    . exact absurd (show(2:Int)=0 from h2) (by decide)
    . exact⟨he,hx⟩))
   clear KS;go_enter Tryz.func36,Tryz.ntmps36
   go_wp2_with (first
    |(go_at_call 74;(with_reducible refine KT.out.mono ?_);rintro e w1 ⟨rfl,hb1⟩
      have HB1:=vJ hb1;clear hb1)
    |(go_at_call 75;(with_reducible refine(KS'.out _ HB1.out).mono ?_);rintro e w2 ⟨rfl,Pd',hbr,hdk,iq,hx⟩
      have HBR:=vJ hbr;have HDK:=vJ hdk;have HPD:=vJ iq;have HX:=vJ hx;clear hbr hdk iq hx))
   go_ret;exact Ba ⟨by first|rfl|trivial,rfl,Pd',HBR.out,HDK.out,fun k hk=>(HPD.out k hk).imp id fun e=>AT HB1.out.size e,(Ext.of_below HB1.out).trans (P2:=fun k=>Pd k\/k=b) HX.out fun k _ e=>e⟩
end
end
end Go.Proofs.YtdefiimcmecnnaaGreat
