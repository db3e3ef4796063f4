/- What the law rests on. -/
import Derived.Test.YtdefiimcmecnnaaGreatQC13
open Go.Value renaming int->J,slice->Ak,pointer->Am,tuple->AO,bool->A1,agg->BD
open Go.IntKind renaming i64->Y
open Go.Proofs.Tryz renaming prog->U
open Option renaming none->G,some->Z
open Go.Ending renaming returned->Ag
open Go renaming World->R,Value->Aq,Calls->AA,Oper->BS
open List renaming getElem_cons_zero->Ao,getElem_cons_succ->Ap,getElem_toArray->As,set_cons_succ->Au,set_cons_zero->Av,replicate->AD,nil_append->B0
open Go.Obj renaming cells->C
open Go.RowKit renaming Below->I
open Bool renaming false->AI,true->AL
open Or renaming inl->AN,inr->Ba
open Go.Act renaming put->M
open Int renaming toNat_natCast->B5
namespace Go.Proofs.YtdefiimcmecnnaaGreat
set_option maxHeartbeats 12000000
set_option linter.unusedVariables false
set_option maxRecDepth 100000
section
open Go
theorem eG(l:List Int)(a k:Nat)(h:a+k<l.length):Cc l a (k+1)=Cc l a k+l.getD (a+k) 0*256 ^ k:=by
 unfold Cc;rw[Bn (by rw[AU];omega),VO];have e:((l.drop a).take k).length=k:=by simp;omega
 rw[e];simp[h]
theorem fp(a x:Int)(ha:0<=a)(ha1:a<18446744073709551616)(hx0:0<=x)(hx:x<18446744073709551616):
 bits BinOp.or IntKind.u64 a x=bits BinOp.or IntKind.u64 x a:=by
 rw[u64_or a x ha ha1 hx0 hx,u64_or x a hx0 hx ha ha1,Nat.or_comm]
end
section
open Go.RowKit Go.ChangeShapes Go.WideShapes
section
variable {H:Type}{enc:TypeId × Aq->H}{W:R}{base:Nat}{spare:Nat->Bool}{JJ:Bool}
theorem VL{v:Aq}{d:DataW H}{p:List MemPlace}{r:Reach}{b0:Nat}(hv:Aq.okWide U W r b0 49 v)(h:DataW.Trod enc U W base (fun _=>AL) JJ 49 v d p):
 ∃ l,BSl W v l/\∀ (ts:List TypeId) (ds:List (DataW H)) (j:Nat),((DataW.weightsEach U ts ds).all fun x=>decide (x<=reachBytes))=AL->ts[j]? =Z 49->ds[j]? =Z d->l.length<=140737488351232:=by
 obtain⟨a0,len0,cap0,rfl⟩:=okWide_slice Tryz.underlying49 hv;obtain⟨fuel,hf⟩:=h;rcases open_ints Tryz.underlying49 Tryz.underlying5 (by kernel_rfl) hf with⟨Hb,_⟩| ⟨x,l,c,zs,Hb,_,hl,hm,hz,hx,FU,hwz⟩
 . simp[Aq.cells] at Hb
   obtain⟨rfl,rfl,rfl⟩:=Hb;exact⟨[],⟨Gq,AN ⟨rfl,rfl⟩⟩,fun _ _ _ _ _ _=>by simp⟩
 . simp[Aq.cells] at Hb
   obtain⟨rfl,rfl,rfl⟩:=Hb;have hz':zs.length=cap0:=by simpa using hz
   have hlen:(zs.take len0).length=len0:=(by simp;omega);have lW:∀ j,j<len0->(zs.take len0).getD j 0=zs.getD j 0:=fun j hj=>by
    simp[hj]
   have hbyt:FJ (zs.take len0):=CE fun x hx=>bounds_u8 (hwz x (Dg hx))
   refine⟨_,⟨hbyt,Ba ⟨x,cap0,by rw[hlen],by omega,fun j hj=>?_⟩⟩,fun ts ds j En ht hd=>?_⟩
   . rw[hlen] at hj
     have h0:=FU j (by omega);obtain⟨b,off,spot⟩:=x;have u9:spot=G:=by
      have h00:=FU 0 (by omega)
      simpa [Addr.add] using R.cell?_spot h00
     subst u9;rw[Cb] at h0;exact⟨by have:=block_lt_of_cell h0;exact this,rfl,by rw[lW j hj];exact h0⟩
   . have hdx:=(Dx hx).1
     rw[hdx] at hd;have h1:=sized_slice En ht hd Tryz.underlying49;have hby:U.bytesOf 5=1:=(by kernel_rfl);rw[hby] at h1;simp only[lits,Bk,AK,AU,reachBytes] at h1;rw[hlen];omega
theorem bsl_open{v:Aq}{d:DataW H}{p:List MemPlace}{r:Reach}{b0:Nat}(hv:Aq.okWide U W r b0 49 v)(h:DataW.Trod enc U W base (fun _=>AL) JJ 49 v d p):∃ l,BSl W v l:=by
 obtain⟨l,h1,_⟩:=VL hv h;exact⟨l,h1⟩
end
end
section
open Go.RowKit
theorem mA{w:R}{b off cap:Nat}{l:List Int}(hby:FJ l)(hl:l.length<=140737488355300)
 (hc:∀ j,j<l.length->w.cell? ⟨b,off+j,G⟩=Z (J .u8 (l.getD j 0))) (a k:Nat) (hk1:1<=k) (hk:k<=8) (XU:a+k<=l.length):
 AA U 90 #[Ak (Z ⟨b,off,G⟩) l.length cap,J Y a,J Y k] w fun e w'=>e=Ag (AO #[J .u64 (Cc l a k),A1 AL])/\w=w':=by
 obtain⟨N,hN⟩:=nm l.length;rw[<- hN] at hl hc XU |-
 have HN:=vJ hN;have HC:=vJ hc;have HB:=vJ (CZ hby);have HBY:=vJ hby;clear hN hc hby;go_enter Tryz.func90,Tryz.ntmps90;go_wp2_with fail
 go_loop [8,35] (fun c i=>∃ (j:Nat) (m:Int),j<=k/\i=J Y j/\c=J .u64 m/\Hid (m=Cc l a j))
  (fun _ i=>k-(intOf i).toNat)
 case atStart=>exact⟨0,0,by omega,rfl,rfl,by simp[Hid,On]⟩
 case round=>
  obtain⟨j,m,hj,rfl,rfl,HM⟩:=hrel;have hb:=D4 HB.out a j;rw[<- HM.out] at hb;by_cases hlt:j<k
  . have HP:=vJ hb
    have hp:=F8 (show j<=7 by omega);have hm1:m<72057594037927936:=(by omega);have FH:=hb.1;have hx:=HBY.out (a+j);have Oc:=HC.out (a+j) (by omega);obtain⟨x,hx'⟩:=nm (l.getD (a+j) 0);rw[<- hx'] at hx Oc;have HX:=vJ hx';clear hx' hb hp;have e1:(a:Int)+(j:Int)<(N:Int):=(by omega);have e2:((a:Int)+(j:Int)).toNat=a+j:=(by omega);go_wp2_with fail
    go_round
    case rel=>
     refine⟨j+1,_,by omega,by go_num,rfl,?_⟩;show _=_
     have hp:=F8 (show j<=7 by omega);have hb:=HP.out;have hxp:x*256 ^ j<=255*256 ^ j:=Int.mul_le_mul_of_nonneg_right hx.2 (by have:=In j;omega);have hx0:0<=x*256 ^ j:=Int.mul_nonneg hx.1 (by have:=In j;omega);rw[<- OF,Dh _ (by omega),fp _ _ FH (by omega) hx0 (by omega),OF,km x m (8*j) hx.1 FH (by rw[<- OF];exact hb.2) (by rw[<- OF];omega) (by omega),eG l a j (by have:=HN.out;omega),<- HX.out,<- HM.out,OF];omega
    case measure=>simp[intOf];omega
  . go_wp2_with fail
    go_ret2;obtain rfl:j=k:=by omega
    exact⟨by rw[HM.out];rfl,rfl⟩
theorem mh{w:R}{ao:Option Addr}{len cap:Nat}(hl:len<=140737488355300)(a k:Int)(h0: -9223372036854775808<=a)(h1:a<=9223372036854775807)(h:¬ (1<=k/\k<=8/\0<=a/\a+k<=len)):
 AA U 90 #[Ak ao len cap,J Y a,J Y k] w fun e w'=>e=Ag (AO #[J .u64 0,A1 AI])/\w=w':=by
 by_cases hk1:1<=k
 . by_cases pF:k<=8
   . by_cases ha:0<=a
     . by_cases im:a<=len
       . have hh:(len:Int)-a<k:=by omega
         go_enter Tryz.func90,Tryz.ntmps90;go_wp2_with fail
         go_ret2;exact⟨rfl,rfl⟩
       . go_enter Tryz.func90,Tryz.ntmps90
         go_wp2_with fail
         go_ret2;exact⟨rfl,rfl⟩
     . go_enter Tryz.func90,Tryz.ntmps90
       go_wp2_with fail
       go_ret2;exact⟨rfl,rfl⟩
   . go_enter Tryz.func90,Tryz.ntmps90
     go_wp2_with fail
     go_ret2;exact⟨rfl,rfl⟩
 . go_enter Tryz.func90,Tryz.ntmps90
   go_wp2_with fail
   go_ret2;exact⟨rfl,rfl⟩
theorem dI{w:R}{v:Aq}{l:List Int}(hs:BSl w v l)(hl:l.length<=140737488355300)(a k:Int)(h0: -9223372036854775808<=a)(h1:a<=9223372036854775807):
 AA U 90 #[v,J Y a,J Y k] w fun e w'=>e=Ag (AO #[J .u64 (Mg l a k),A1 (SB l a k)])/\w=w':=by
 by_cases h:1<=k/\k<=8/\0<=a/\a+k<=l.length
 . rcases hs.2 with⟨_,rfl⟩| ⟨⟨b,off,spot⟩,cap,rfl,_,hc⟩
   . simp at h;omega
   . obtain rfl:spot=G:=(hc 0 (by omega)).2.1
     have:=mA (cap:=cap) hs.1 hl (fun j hj=>(hc j hj).2.2) a.toNat k.toNat (by omega) (by omega) (by omega);rw[show((a.toNat:Nat):Int)=a by omega,show((k.toNat:Nat):Int)=k by omega] at this;simp only[Mg,SB,AC h,AF h];exact this
 . obtain⟨ao,cap,rfl,_⟩:=hs.shape
   simp only[Mg,SB,AE h,AG h];exact mh hl a k h0 h1 h
theorem Apt.of_lt{w:R}{v:Aq}{l:List Int}(h:BSl w v l){Q:Nat->Prop}(hQ:∀ k,Q k->w.heap.size<=k):Apt Q v:=by
 intro ad n cap e hn hq;rcases h.2 with⟨hv,_⟩| ⟨a,c,hv,_,hc⟩
 . rw[hv] at e;cases e
 . rw[hv] at e
   obtain⟨rfl,rfl⟩:a=ad/\l.length=n:=⟨Bz (A0 e).1,(A0 e).2.1⟩;have:=(hc 0 hn).1;have:=hQ _ hq;omega
end
section
open Go.RowKit BM
def FreeAt(N:List (List Int))(f:Nat):Prop:=1<=f/\f<48/\Ca N f=0/\∀ m,1<=m->m<f->Ca N m≠0
def pA(N:List (List Int)):Prop:=∀ m,1<=m->m<48->Ca N m≠0
theorem FreeAt.one{N:List (List Int)}{f g:Nat}(h:FreeAt N f)(h':FreeAt N g):f=g:=by
 rcases Nat.lt_trichotomy f g with e|e|e
 . exact absurd h.2.2.1 (h'.2.2.2 f h.1 e)
 . exact e
 . exact absurd h'.2.2.1 (h.2.2.2 g h'.1 e)
theorem qR{L:List Int}(hL:L.length=6)(W:R)(t:Nat)(ht:t<6):(Instr.index 116 (BD (iC L).toArray) (J Y (t:Int))).run U W=.ok (J Y (L.getD t 0)) W:=by
 match L,hL with
 |[t0,t1,t2,t3,t4,t5],_=>
  have:t=0\/t=1\/t=2\/t=3\/t=4\/t=5:=by omega
  rcases this with rfl|rfl|rfl|rfl|rfl|rfl <;> simp[Instr.index,C2 Tryz.underlying116,asIntOf,go_sem,iC]
theorem qm:(U.info? 116).map (·.size)=Z 6:=by kernel_rfl
section
variable {w:R}{P:Nat->Prop}{d p:Aq}{X:XSt}{S:List Int}{N:List (List Int)}{bf:Nat}
theorem QZ(h:SInv w P d p X)(hf:FsAt w bf p)(hT:Tab X.cur S N){W:R}(hb:I w.heap.size w W):
 AA U 41 #[Am (Z ⟨bf,0,G⟩)] W fun e w'=>((∃ f,FreeAt N f/\e=Ag (AO #[J Y (f:Nat),J Y 0]))\/(pA N/\e=Ag (AO #[J Y 0,J Y 13])))/\I W.heap.size W w':=by
 have KS:=vJ (MQ h hf hT hb);have KI:=vJ (fun(t:Nat) (ht:t<6) (V:R) (hv:I w.heap.size w V)=>PG h hf hT ht hv);have HBW:=vJ hb;have h12:=hT.s12;have hd6:(S.drop 6).length=6:=by rw[AU,h12]
 obtain⟨A6,hA6⟩:=nm (Aq.agg (iC (S.drop 6)).toArray);have HA6:=vJ hA6.symm;have HIX:Hid (∀ (V:R) (t:Nat),t<6->(Instr.index 116 A6 (J Y (t:Int))).run U V=.ok (J Y (Dj S t:Nat)) V):=vJ fun V t ht=>by
  rw[hA6,qR hd6 V t ht];have:=(Fs hT.sf ht).1;unfold num at this;rw[<- this,An,An,Bp]
 have HRG:Hid (∀ (V:R) (g:Nat),V.heap[g]? =Z (Cd S 149)->V.rangeAt g 6 (iC (S.drop 6))):=vJ fun V g hr=>EE (cur:=S.map (J Y)) hr (by
  rw[Cx,hd6,AV (by rw[AU,Bk,h12];decide),iC,List.map_drop])
 have H14:Hid (∀ t,Gc (J9 N t)):=vJ fun t=>U4 hT.n.l14 t
 have H8:Hid (∀ t,t<6->(J9 N t).length=8):=vJ fun t ht=>Ip hT.n.len ht
 have u6:=Tryz.underlying116;have u1:=Tryz.underlying80;have HD6:=vJ hd6;clear h hf hT hb hA6 hd6;go_enter Tryz.func41,Tryz.ntmps41
 go_wp2_with (first
  |(go_at_call 80;refine KS.out.mono ?_;rintro e w2 ⟨rfl,hb2⟩)
  |(with_reducible refine CO rfl (.tmp 4) (.tmp 16) rfl w2.heap.size rfl S Dc rfl h12 rfl _ (Aw w2 _) ?_
    intro w3 hw3 hr3;have hb3:=hb2.trans ((Ay w2 (Cd Dc 149)).mono hb2.size);have hb13:I W.heap.size W w3:=hb3.trans (hw3.below (AT hb2.size (AB _)));have u_:=HRG.out _ _ hr3)
  |(with_reducible refine BK rfl 116 (.tmp 21) rfl w2.heap.size 6 rfl (S.drop 6) _ u_ u6 rfl (by rw[qm,HD6.out]) ?_;rw[HA6.out]))
 have HB3:=vJ hb13;clear hb2 hw3 hr3 hb3 u_ hb13;go_loopw [6,23] (fun ino i wr=>∃ t:Nat,t<=6/\i=J Y t/\ino=J Y ((8*t:Nat):Int)/\Hid (∀ m,1<=m->m<8*t->Ca N m≠0)/\Hid (I W.heap.size W wr)) (fun _ i _=>6-(intOf i).toNat)
 case atStart=>exact⟨0,by omega,rfl,rfl,vJ fun m h1 h2=>absurd h2 (A8 _),HB3⟩
 case round=>
  obtain⟨t,ht,rfl,rfl,HS,HB⟩:=hrel;clear HB3;by_cases hlt:t<6
  . have ip:=HIX.out wr t hlt
    have elt:(t:Int)<6:=(by omega);have KI1:=vJ (KI.out t hlt wr (HBW.out.trans (HB.out.mono HBW.out.size)));have h14:=vJ (H14.out t);have h8:=vJ (H8.out t hlt);have HE:Hid (∀ j,j<8->((J9 N t).getD j []).getD 0 0=Ca N (8*t+j)):=vJ fun j hj=>by unfold Ca;rw[Rb N t hj]
    obtain⟨T,aB⟩:=nm (J9 N t);rw[<- aB] at KI1 h14 h8 HE;obtain⟨A,hA⟩:=nm (Dj S t);rw[<- hA] at KI1 ip;clear aB hA;obtain⟨M8,sR⟩:∃ M8:Nat,M8=8:=⟨_,rfl⟩;have HM8:=vJ sR;go_wp2_with (go_at_call 81;refine KI1.out.mono ?_;rintro e w4 ⟨g,rfl,hg4,hr4,hb4⟩)
    have HR4:Hid (w4.heap[g]? =Z (C (T.flatMap iC).toArray 80 (0,0))):=vJ hr4;have HB4:=vJ (HB.out.trans (hb4.mono HB.out.size));clear ip hr4 hb4 hg4 sR;go_loopw [6,37] (fun ino i wr=>∃ j:Nat,j<=8/\i=J Y j/\ino=J Y ((8*t+j:Nat):Int)/\Hid (∀ m,1<=m->m<8*t+j->Ca N m≠0)/\Hid (I w4.heap.size w4 wr)) (fun _ i _=>8-(intOf i).toNat)
    case atStart=>exact⟨0,by omega,rfl,rfl,HS,vJ (AM _ _)⟩
    case round=>
     obtain⟨j,hj,rfl,rfl,HS2,HB2⟩:=hrel;by_cases uC:j<8
     . have elj:(j:Int)<8:=by omega
       have hr:=BA HR4.out HB2.out;obtain⟨x,hx⟩:=nm (T.getD j []);have Pb:wr.rangeAt g (j*14) (iC x):=by
        have MY:j<T.length:=(by rw[h8.out];exact uC);have:=Ry (f:=iC) (s:=14) (k:=j) hr (fun y hy=>by rw[Cx];exact h14.out y hy) MY;rw[hx,An,AS MY];exact this
       have LF:x.length=14:=(by rw[hx];exact Hx h14.out j (by rw[h8.out];exact uC));have HX14:=vJ LF;have hkd:=HE.out j uC;rw[<- hx] at hkd;obtain⟨kd,I3⟩:=nm (Ca N (8*t+j));rw[<- I3] at hkd;have HKD:=vJ hkd;have HKK:=vJ I3;obtain⟨i,hi⟩:∃ i:Nat,i=8*t+j:=⟨_,rfl⟩;have hi48:i<48:=(by omega);have HI:=vJ hi;rw[<- hi] at HKK HS2 |-
       clear hx hr hkd I3 hi LF;by_cases h0:i=0
       . subst h0
         go_wp2_with (first
          |(with_reducible refine BK rfl 80 (.tmp 39) rfl g (j*14) rfl x _ Pb u1 rfl (by rw[Hf,HX14.out]) ?_)
          |(with_reducible refine FI rfl (.tmp 12) (.tmp 40) rfl wr.heap.size rfl x zeroI rfl HX14.out rfl _ (Aw wr _) ?_
            intro w5 hw5 E3;have hb5:=HB2.out.trans (((Ay wr (iO zeroI 80)).trans (hw5.below (AB _))).mono HB2.out.size)))
         go_roundw
         case rel=>exact⟨j+1,by omega,by go_num,by have:=HI.out;rw[show 8*t+(j+1)=0+1 by omega];go_num,vJ fun m h1 h2=>by have:=HI.out;omega,vJ hb5⟩
         case measure=>simp[intOf];omega
       . have ei:(0:Int)<(i:Int):=by omega
         rcases hkb:(kd==0) with _|_
         . go_wp2_with (first
            |(with_reducible refine BK rfl 80 (.tmp 39) rfl g (j*14) rfl x _ Pb u1 rfl (by rw[Hf,HX14.out]) ?_)
            |(with_reducible refine FI rfl (.tmp 12) (.tmp 40) rfl wr.heap.size rfl x zeroI rfl HX14.out rfl _ (Aw wr _) ?_
              intro w5 hw5 E3;have hb5:=HB2.out.trans (((Ay wr (iO zeroI 80)).trans (hw5.below (AB _))).mono HB2.out.size);have c0:=GC E3 0 (by rw[HX14.out];decide);rw[HKD.out] at c0))
           go_roundw
           case rel=>exact⟨j+1,by omega,by go_num,by have:=HI.out;rw[show 8*t+(j+1)=i+1 by omega];go_num,vJ fun m h1 h2=>by
            by_cases e:m=i
            . rw[e,<- HKK.out];simpa using hkb
            . exact HS2.out m h1 (by have:=HI.out;omega),vJ hb5⟩
           case measure=>simp[intOf];omega
         . go_wp2_with (first
            |(with_reducible refine BK rfl 80 (.tmp 39) rfl g (j*14) rfl x _ Pb u1 rfl (by rw[Hf,HX14.out]) ?_)
            |(with_reducible refine FI rfl (.tmp 12) (.tmp 40) rfl wr.heap.size rfl x zeroI rfl HX14.out rfl _ (Aw wr _) ?_
              intro w5 hw5 E3;have hb5:=HB2.out.trans (((Ay wr (iO zeroI 80)).trans (hw5.below (AB _))).mono HB2.out.size);have c0:=GC E3 0 (by rw[HX14.out];decide);rw[HKD.out] at c0))
           go_ret2;refine⟨AN ⟨i,⟨by omega,hi48,by rw[<- HKK.out];simpa using hkb,HS2.out⟩,rfl⟩,HB4.out.trans (hb5.mono HB4.out.size)⟩
     . obtain rfl:j=8:=by omega
       have HB5:=vJ (HB4.out.trans (HB2.out.mono HB4.out.size));go_wp2;go_roundw
       case rel=>exact⟨t+1,by omega,by go_num,rfl,HS2,HB5⟩
       case measure=>simp[intOf];omega
  . obtain rfl:t=6:=by omega
    go_wp2;go_ret2;exact⟨Ba ⟨HS.out,rfl⟩,HB.out⟩
end
theorem S0{k:Int}(h:1<=k/\k<=3):El (Jk k)=AL:=by
 have:k=1\/k=2\/k=3:=by omega
 rcases this with rfl|rfl|rfl <;> decide
section
variable {w:R}{P:Nat->Prop}{d p:Aq}{X:XSt}{S:List Int}{N:List (List Int)}{bf:Nat}
theorem pe(h:SInv w P d p X)(hf:FsAt w bf p)(hT:Tab X.cur S N)(hN:pA N){k:Int}(hk:1<=k/\k<=3){W:R}(hb:I w.heap.size w W):
 AA U 20 #[Am (Z ⟨bf,0,G⟩),J Y k] W fun e w'=>e=Ag (AO #[J Y 0,J Y 13])/\I W.heap.size W w':=by
 have KF:=vJ ((QZ h hf hT hb).mono fun e w' ⟨ho,hb⟩=>show e=Ending.returned (AO #[J Y 0,J Y 13])/\I W.heap.size W w' from⟨ho.elim (fun⟨f,h1,_⟩=>absurd h1.2.2.1 (hN f h1.1 h1.2.1)) fun h2=>h2.2,hb⟩);clear h hf hT hN hb;have:k=1\/k=2\/k=3:=by omega
 rcases this with rfl|rfl|rfl
 all_goals
  clear hk;go_enter Tryz.func20,Tryz.ntmps20;go_wp2_with (go_at_call 41;refine KF.out.mono ?_;rintro e w2 ⟨rfl,hb2⟩)
  go_ret2;exact⟨rfl,hb2⟩
theorem YG(h:SInv w P d p X)(hw:X.wi=AL)(hp:X.put.length<37)(hf:FsAt w bf p)(hT:Tab X.call S N){f:Nat}(hN:FreeAt N f){k:Int}(hk:1<=k/\k<=3){W:R}(hb:I w.heap.size w W):
 AA U 20 #[Am (Z ⟨bf,0,G⟩),J Y k] W fun e w'=>e=Ag (AO #[J Y (f:Nat),J Y 0])/\∃ P',SInv w' P' d p (putI X S N f (Jk k))/\Chg P P' W w':=by
 have hT':Tab X.cur S N:=by unfold XSt.cur;rw[AC hw];exact hT
 have KF:=vJ ((QZ h hf hT' hb).mono fun e w' ⟨ho,hb⟩=>show e=Ending.returned (AO #[J Y (f:Nat),J Y 0])/\I W.heap.size W w' from⟨ho.elim (fun⟨g,h1,h2⟩=>by rw[h2,h1.one hN]) fun h2=>absurd hN.2.2.1 (h2.1 f hN.1 hN.2.1),hb⟩);obtain⟨X',hX'⟩:=nm (putI X S N f (Jk k));have KP:Hid (∀ V:R,I w.heap.size w V->AA U 42 #[Am (Z ⟨bf,0,G⟩),J Y (f:Nat),BD #[J Y k,J Y 0,J Y 0,J Y 0,J Y 0,J Y 0,J Y 0,J Y 0,J Y 0,J Y 0,J Y 0,J Y 0,J Y 0,J Y 0]] V fun e w'=>e=Ag (J Y 0)/\∃ P',SInv w' P' d p X'/\Chg P P' V w'):=vJ fun V hv=>by
  rw[hX'];exact OC h hw hp hf hT hN.1 hN.2.1 (x:=Jk k) rfl (S0 hk) hv
 rw[<- hX'];have HB:=vJ hb;clear h hf hT hT' hN hb hw hp hX';have:k=1\/k=2\/k=3:=by omega
 rcases this with rfl|rfl|rfl
 all_goals
  clear hk;go_enter Tryz.func20,Tryz.ntmps20
  go_wp2_with (first
   |(go_at_call 41;refine KF.out.mono ?_;rintro e w2 ⟨rfl,hb2⟩)
   |(go_at_call 42;refine(KP.out _ (HB.out.trans (hb2.mono HB.out.size))).mono ?_;rintro e w3 ⟨rfl,P3,ib,hc3⟩))
  go_ret2;exact⟨rfl,P3,ib,(Chg.of_below hb2).trans hc3⟩
end
section
variable {w0 w:R}{P:Nat->Prop}{d p:Aq}{X:XSt}{S:List Int}{N:List (List Int)}{O:List (Int × Int)}{kk:Nat}{F:Nat->List Int}{bf:Nat}
theorem Pl.make(h:Pl D8 X.call S N O kk F){n:Nat}(h1:1<=n)(Bu:n<48)(hF:F n=AD 128 0){k:Int}(hk:1<=k/\k<=3):Pl D8 (putI X S N n (Jk k)).call S (N.set n (Jk k)) O kk F:=by
 have hz:∀ i,i<139->BJ (Jk k) (AD 128 0) i=0:=fun i hi=>by
  unfold BJ num;split
  . next Gm=>
    have:∀ j,j<10->(Jk k).getD (3+j) 0=0:=fun j hj=>by
     have oQ:j=0\/j=1\/j=2\/j=3\/j=4\/j=5\/j=6\/j=7\/j=8\/j=9:=(by omega);rcases oQ with rfl|rfl|rfl|rfl|rfl|rfl|rfl|rfl|rfl|rfl <;> rfl
    exact this i Gm
  . split
    . rfl
    . rw[An,BF];split <;> rfl
 exact(h.node h1 Bu (y:=Jk k) rfl (S0 hk) (fun a b e=>e.elim) (fun _=>hF) (fun e=>absurd rfl e) (fun i hi hne=>by rw[hF] at hne;exact absurd (hz i hi) hne)).1
end
theorem k7{c:Nat}(hc:c<4):FreeAt (WD c) (2+c):=by
 refine⟨by omega,by omega,by rw[FS (by omega) (by omega),AE (by omega),AE (by omega)],fun m h1 h2=>?_⟩;rw[FS (by omega) (by omega)];split
 . decide
 . rw[AC (by omega)];decide
theorem qD{a n:Nat}(h:n<=1024):Jq a n<=5:=by
 unfold Jq;split <;> omega
end
section
open Go.RowKit
theorem MO(e:Int × ByteArray):Tg e=(([] ++ BN e.1 2) ++ [(e.2.size:Int)]) ++ Fx e.2:=by
 rw[Tg,B0];simp
def tm(c:List Int):Prop:=c.getD 2 0<=13/\C3 (So c)=AL/\Db (So c)=c
theorem mO{e:Int × ByteArray}(h:C3 e=AL):tm (Db e):=by
 have:=CF h;refine⟨by rw[NY];omega,?_,?_⟩
 . rw[Nv h];exact h
 . rw[Nv h]
theorem GL(i:Int)(s:ByteArray)(B:Bool)(h:C3 (i,s)=B)(w:R):AA U 34 #[BD #[J Y i,.string s]] w fun e w'=>e=Ag (A1 B)/\I w.heap.size w w':=by
 have hob:=Ay w (C #[J Y i,.string s] 30);unfold C3 at h;by_cases h1:1<=i
 . by_cases h2:i<48
   . have hn:Er s=B:=by
      rw[<- h];show _=(decide (1<=i) && (decide (i<48) && Er s));rw[AF h1,AF h2];rfl
     have K:=vJ (fun W=>Ju s B hn W);have h3:i<=47:=(by omega);clear h hn h2;go_enter Tryz.func34,Tryz.ntmps34;go_wp2_with (go_at_call 24;refine(K.out _).mono ?_;rintro e w' ⟨rfl,rfl⟩)
     go_ret;exact⟨rfl,hob⟩
   . have HB:Hid (AI=B):=vJ (by rw[<- h];show _=(decide (1<=i) && (decide (i<48) && Er s));rw[AF h1,AG h2];rfl)
     have h3:¬ i<=47:=(by omega);clear h h2;go_enter Tryz.func34,Tryz.ntmps34;go_wp2;go_ret;exact⟨CV HB.out,hob⟩
 . have HB:Hid (AI=B):=vJ (by rw[<- h];show _=(decide (1<=i) && (decide (i<48) && Er s));rw[AG h1];rfl)
   clear h;go_enter Tryz.func34,Tryz.ntmps34;go_wp2;go_ret;exact⟨CV HB.out,hob⟩
theorem F0{ops:Array BS}{o:BS}{a:Act}{w:R}{K:Act->R->Prop}{Q:Exit->Act->R->Prop}{E:Prop}(Dn:o.guard=G)(s x:Operand)
 (ho:o.op=.call { callee:=.builtin .append,args:=#[s,x],argTypes:=#[49,49] })
 (B:Nat) (v:Aq) (l:List Int) (hs:a.eval s=v) (hown:OB w B v l) (u:Aq) (m:List Int) (hx:a.eval x=u) (hr:BSl w u m) (hm:0<m.length)
 (hlen:l.length+m.length<=140737488355328) (hB:B<=w.heap.size)
 (h:∀ v' w',OB w' B v' (l ++ m)->I B w w'->w.grownBy w' v.ownBlock->K (a.put o.dst v') w'):
 if Region.wanted o (yielded ops a.tmps)=AL then BS.wp U o a w K Q else E:=by
 have hw:Region.wanted o (yielded ops a.tmps)=AL:=by simp[Region.wanted,Dn]
 rw[AC hw];obtain⟨i,h2,h3,h4,h5⟩:=By F7;obtain⟨ao,cap,rfl,Cm⟩:=hr.shape;have hby:=CS hown.1 hr.1;have e1:(l ++ m).length=l.length+m.length:=Ax;have e2:(l ++ m).map (J .u8)=l.map (J .u8) ++ m.map (J .u8):=Cv;cases ao with
 |none=>
  rcases hr.2 with⟨_,hl⟩| ⟨_,_,hv,_⟩
  . rw[hl] at hm;simp at hm
  . simp at hv
 |some ad=>
  have CX:∀ j v,(m.map (J .u8))[j]? =Z v->w.cell? (ad.add j)=Z v:=by
   intro j v hj;have MY:j<m.length:=by simpa using (Bj.1 hj).1
   obtain⟨ad',he,hc⟩:=ED hr (fun _ _=>rfl) m.length (by simp;omega);obtain rfl:ad=ad':=by simpa using he
   exact hc j v (by simpa using hj)
  refine wp_append_own w s x 49 ho B 5 i (J .u8 0) 1 1 Tryz.underlying49 h2 h3 h4 h5 rfl (by decide) v l.length _ hs hown.2 ad m.length cap _ hx (by simp) CX (ints_oneCell _ _) (by simp only[maxLen];omega) (by omega) hB fun v' w' h6 h7 _=>?_
  exact h v' w' ⟨hby,by rw[e1,e2];exact h6⟩ ((AM _ _).grown h7 hB fun k hk=>(hown.2.lt k hk).1) h7
theorem He{ops:Array BS}{o:BS}{a:Act}{w:R}{K:Act->R->Prop}{Q:Exit->Act->R->Prop}{E:Prop}(Dn:o.guard=G)(s x:Operand)
 (ho:o.op=.call { callee:=.builtin .append,args:=#[s,x],argTypes:=#[49,9] })
 (B:Nat) (v:Aq) (l:List Int) (hs:a.eval s=v) (hown:OB w B v l) (n:ByteArray) (hx:a.eval x=.string n) (hlen:l.length+n.size<=1000000) (hB:B<=w.heap.size)
 (h:∀ v' w',OB w' B v' (l ++ Fx n)->I B w w'->w.grownBy w' v.ownBlock->K (a.put o.dst v') w'):
 if Region.wanted o (yielded ops a.tmps)=AL then BS.wp U o a w K Q else E:=by
 have hw:Region.wanted o (yielded ops a.tmps)=AL:=by simp[Region.wanted,Dn]
 rw[AC hw];obtain⟨i,h2,h3,h4,h5⟩:=By F7;obtain⟨v',w',hr,h6,h7,_⟩:=Lib.run_append_own_string (P:=U) w B 49 9 o.type 5 i Tryz.underlying49 Tryz.underlying9 h2 h3 h4 h5 v l.length _ hown.2 n (by simp only[maxLen];omega) (by omega) hB;unfold BS.wp execOp;simp only[ho,resolve,invoke,builtin,DE,Sem.run_pure,Result.andThen_ok,Jd,J5,Sd,hs,hx,hr];refine h v' w' ⟨CS hown.1 (ND n),?_⟩ ((AM _ _).grown h7 hB fun k hk=>(hown.2.lt k hk).1) h7;rw[Ax,Cv,DP,<- MP];exact h6
theorem GW{w w':R}{row:Option Nat}(h:w.grownBy w' row)(b o:Nat)(hb:b<w.heap.size)(hne:∀ k,row=Z k->k≠b):w'.cell? ⟨b,o,G⟩=w.cell? ⟨b,o,G⟩:=by
 apply Bh;exact h.block b hb (fun e=>hne b e.symm rfl)
theorem UO(W:R)(x:Int)(h:0<=x/\x<=255):BSl (W.alloc (C #[J .u8 x] 5)) (Ak (Z ⟨W.heap.size,0,G⟩) 1 1) [x]:=by
 have MZ:=Aw W (C #[J .u8 x] 5);refine⟨ML x h,Ba ⟨_,1,rfl,AB _,fun j hj=>?_⟩⟩;have tv:j=0:=by simpa using hj
 subst tv;refine⟨by simp,rfl,?_⟩;rw[Az _ _ _ _ _ _ MZ];rfl
theorem OE(i:Int)(s:ByteArray)(h:C3 (i,s)=AL)(w:R):AA U 39 #[BD #[J Y i,.string s]] w (JZ w (Db (i,s))):=by
 have hn:=Ln h;have hl:s.size<=13:=(CF h).2;have hi0:1<=i:=hn.1;have hi1:i<48:=hn.2.1;obtain⟨z,hz⟩:∃ z:Int,z=(s.size:Int):=⟨_,rfl⟩;have u7:0<=z/\z<=13:=by omega
 have HP:Hid (Db (i,s)=((([] ++ BN i 2) ++ [z]) ++ Fx s) ++ AD (16-(3+s.size)) 0):=vJ (by
  rw[Db,MO,hz];congr 2;show 13-s.size=_;omega)
 have pJ:IntKind.u64.wrap i=i:=Dh _ (by omega);have hw8:IntKind.u8.wrap z=z:=by rw[IntKind.wrap_u8];omega
 rw[hz] at hw8;have K1:=vJ (fun W=>GO (IL W) (by simp) i 2 2 (by omega) (by omega) rfl (by omega) (by omega));have HL1:Hid (([] ++ BN i 2:List Int).length+[z].length<=140737488355328):=vJ (by simp[Bc]);have HL2:Hid ((([] ++ BN i 2) ++ [z]:List Int).length+s.size<=1000000):=vJ (by simp[Bc];omega);have HL3:Hid (((([] ++ BN i 2) ++ [z]) ++ Fx s:List Int).length=3+s.size):=vJ (by simp[Bc,DP];omega);have hb1:=Ay w (C #[J Y i,.string s] 30);have Sj:=Aw w (C #[J Y i,.string s] 30);obtain⟨W1,hW1⟩:=nm (w.alloc (C #[J Y i,.string s] 30));rw[<- hW1] at hb1 Sj;have H1:Hid (w.alloc (C #[J Y i,.string s] 30)=W1):=vJ hW1.symm;have En:w.heap.size<W1.heap.size:=by rw[hW1];simp
 have HC1:Hid (W1.cell? ⟨w.heap.size,1,G⟩=Z (.string s)):=vJ (by rw[Az _ _ _ _ _ _ Sj];rfl);have HB1:=vJ hb1;have HZ:=vJ hz;clear hn h hW1 Sj hb1 hz;go_enter Tryz.func39,Tryz.ntmps39
 go_wp2_with (first
  |(go_at_call 79;rw[H1.out];(with_reducible refine(K1.out _).mono ?_);rintro e w2 ⟨v2,rfl,hob2,hb2⟩))
 have d1:w2.drew.cell? ⟨w.heap.size,1,G⟩=Z (.string s):=(hb2.cell (p:=⟨w.heap.size,1,G⟩) En).trans HC1.out;have Pa:w.heap.size<w2.drew.heap.size:=AH En hb2.size;have HB2:Hid (I w.heap.size w w2.drew):=vJ (A2 (HB1.out.trans (hb2.mono (BO En))) 1);have hba:=Ay w2.drew (C #[J .u8 (s.size:Int)] 5);have hbs:=UO w2.drew (s.size:Int) (by have:=HZ.out;omega);have e1:(w2.drew.alloc (C #[J .u8 (s.size:Int)] 5)).cell? ⟨w.heap.size,1,G⟩=Z (.string s):=(hba.cell (p:=⟨w.heap.size,1,G⟩) Pa).trans d1;have HOA:Hid (OB (w2.drew.alloc (C #[J .u8 (s.size:Int)] 5)) W1.heap.size v2 ([] ++ BN i 2)):=vJ (OB.below (w:=w2.drew) hob2 hba);have si:w.heap.size<(w2.drew.alloc (C #[J .u8 (s.size:Int)] 5)).heap.size:=AH Pa hba.size;have HSA:Hid (W1.heap.size<=(w2.drew.alloc (C #[J .u8 (s.size:Int)] 5)).heap.size):=vJ (AT hb2.size hba.size);have HBA:=vJ (HB2.out.trans (hba.mono HB2.out.size));have HBS:=vJ hbs;rw[HZ.out] at HL1 HL2 HL3 HP;have HNE:=vJ (fun k (hk:v2.ownBlock=Z k)=>(show k≠w.heap.size by have h1:=hob2.2.lt k hk;omega));clear hba hbs hob2 hb2 u7
 go_region_held3 (fun W=>W.cell? ⟨w.heap.size,1,G⟩=Z (.string s)) (first|exact g1|exact f1|exact e1|exact d1) (first
  |(refine F0 rfl (.tmp 8) (.tmp 13) rfl W1.heap.size v2 ([] ++ BN i 2) rfl HOA.out _ [(s.size:Int)] rfl HBS.out (Nat.zero_lt_one) HL1.out HSA.out ?_
    intro v3 w3 hob3 hb3 hg3;have f1:=(GW hg3 w.heap.size 1 si HNE.out).trans e1;have hs3:=AH si hb3.size;have HS3:=vJ (AT HSA.out hb3.size);have HB3:=vJ (HBA.out.trans (hb3.mono (BO En))))
  |(refine He rfl (.tmp 14) (.tmp 16) rfl W1.heap.size v3 (([] ++ BN i 2) ++ [(s.size:Int)]) rfl hob3 s rfl HL2.out HS3.out ?_
    intro v4 w4 hob4 hb4 hg4;have g1:=(GW hg4 w.heap.size 1 hs3 (fun k hk=>(show k≠w.heap.size by have h1:=hob3.2.lt k hk;omega))).trans f1;have HS4:=vJ (AT HS3.out hb4.size);have HB4:=vJ (HB3.out.trans (hb4.mono (BO En)))))
 obtain⟨ao4,cap4,rfl,_⟩:=hob4.bsl.shape;have HOB4:=vJ hob4;rw[HL3.out] at HOB4 |-
 obtain⟨N,hN⟩:=nm (3+s.size);rw[<- hN] at HOB4 HL3 HP |-
 have hN16:N<=16:=by omega
 have HLE:Hid ((([] ++ BN i 2) ++ [(s.size:Int)] ++ Fx s).length+(16-N)<=140737488355328):=vJ (by rw[HL3.out];omega);have HM:Hid ((16:Int)-(N:Int)=((16-N:Nat):Int)):=vJ (by omega);clear hN hob4 hb4 hg4 g1 f1 e1 d1 hs3 si hob3 hb3 hg3;go_wp2_with (at_builtin;refine Ev w4 rfl (.tmp 18) (.tmp 21) rfl W1.heap.size _ (([] ++ BN i 2) ++ [(s.size:Int)] ++ Fx s) rfl HOB4.out _ (16-N) rfl HM.out HLE.out HS4.out ?_;intro v8 w8 hob8 hb8)
 go_ret;refine⟨_,rfl,?_,HB4.out.trans (hb8.mono (BO En))⟩;rw[HP.out];exact hob8.more (BO En)
theorem O8:(U.info? 30).map (·.size)=Z 2:=by kernel_rfl
theorem qK{w:R}{v:Aq}{c:List Int}(hs:BSl w v c)(hc:c.length<=100000)(a k:Nat)(A K:Int)(hA:A=a)(hK:K=k)(hk1:1<=k)(hk:k<=8)(ha:a+k<=c.length)(y:Int)(hy:y=Cc c a k):
 AA U 90 #[v,J Y A,J Y K] w fun e w'=>e=Ag (AO #[J .u64 y,A1 AL])/\w=w':=by
 subst hA hK;have hg:=dI hs (by omega) (a:Int) k (by omega) (by omega);have hn:Mg c (a:Int) k=y:=by unfold Mg;rw[AC (by omega),hy];rfl
 have hb:SB c (a:Int) k=AL:=AF (by omega);rw[hn,hb] at hg;exact hg
theorem fa{c:List Int}(h:∀ x∈c,0<=x/\x<=255)(a:Nat):0<=Cc c a 2/\Cc c a 2<=65535:=by
 have h1:=D4 h a 2;have e:(256:Int) ^ 2=65536:=rfl;rw[e] at h1;omega
theorem qM{w:R}{v:Aq}{c:List Int}(hs:BSl w v c)(hc:c.length<=100000)(a:Nat)(A:Int)(hA:A=a)(ha:a+2<=c.length)(y:Int)(hy:y=Cc c a 2):AA U 50 #[v,J Y A] w fun e w'=>e=Ag (J Y y)/\w=w':=by
 have hb:=fa (CZ hs.1) a;have HG:=vJ (qK hs hc a 2 A 2 hA rfl (by omega) (by omega) ha y hy);rw[<- hy] at hb;clear hs hc ha hy hA;go_enter Tryz.func50,Tryz.ntmps50;go_wp2_with (go_at_call 90;refine HG.out.mono ?_;rintro e w' ⟨rfl,rfl⟩)
 go_ret;exact⟨rfl,rfl⟩
theorem Ou{c:List Int}(j n:Nat)(h:j<n):(c.take n).getD j 0=c.getD j 0:=by
 simp[h]
theorem kH{c:List Int}(h:(c.take 16).getD 2 0<=13):So (c.take 16)=(Cc c 0 2,strOfNums ((c.drop 3).take (c.getD 2 0).toNat)):=by
 rw[Ou 2 16 (by omega)] at h;unfold So;rw[Ou 2 16 (by omega)];congr 1
 . unfold Cc
   rw[CP,CP,List.take_take,DF (by omega)]
 . rw[List.drop_take,List.take_take,DF (by omega)]
theorem WE{w:R}{v:Aq}{c:List Int}(hs:BSl w v c)(hc:16<=c.length)(h:13<c.getD 2 0):
 AA U 23 #[v] w fun e w'=>(∃ i s,e=Ag (AO #[BD #[J Y i,.string s],A1 AI]))/\I w.heap.size w w':=by
 have ma:=hs.1 2;obtain⟨b,off,cap,rfl,Cm,hb⟩:=hs.open' (by omega);have hb1:=Ay w (C #[J Y 0,.string ⟨#[]⟩] 30);have Sj:=Aw w (C #[J Y 0,.string ⟨#[]⟩] 30);have hc2:(w.alloc (C #[J Y 0,.string ⟨#[]⟩] 30)).cell? ⟨b,off+2,G⟩=Z (J .u8 (c.getD 2 0)):=by
  rw[hb1.cell (p:=⟨b,off+2,G⟩) hb];rcases hs.2 with⟨hv,_⟩| ⟨a',c',hv,_,hcc⟩
  . simp at hv
  . obtain⟨rfl,rfl⟩:a'=⟨b,off,G⟩/\cap=c':=⟨(Bz (A0 hv).1).symm,(A0 hv).2.2⟩
    exact(hcc 2 (by omega)).2.2
 obtain⟨y,hy⟩:=nm (c.getD 2 0);rw[<- hy] at hc2 h ma;obtain⟨N,hN⟩:=nm c.length;rw[<- hN] at Cm hc |-
 have h2:(2:Nat)<N:=by omega
 have h2i:(2:Int)<(N:Int):=by omega
 have u1:=Tryz.underlying30;have hwn:Y.wrap y=y:=A9 _ (by omega);clear hs hy hN;go_enter Tryz.func23,Tryz.ntmps23;go_wp2_with (with_reducible refine FV rfl 30 O8 (.tmp 2) (.tmp 12) rfl w.heap.size rfl _ _ _ _ rfl rfl rfl _ Sj ?_;intro w3 hw3 hr3)
 exact Bv (Gf rfl Tryz.underlying30 O8 _ _ w.heap.size _ _ _ _ rfl hr3 rfl) rfl ⟨⟨_,_,rfl⟩,hb1.trans (hw3.below (AB _))⟩
theorem Pe{P:Program}{md:Region.Mode}{ops:Array BS}{Q:Exit->Act->R->Prop}{S S':R->Prop}(h:∀ w,S' w->S w):∀ (fuel:Nat) (listed:Array Bool) (a:Act) (w:R),wpAnyH P md ops Q S' fuel listed a w->wpAnyH P md ops Q S fuel listed a w
 |0,_,_,_,h0=>h0
 |fuel+1,_,_,_,h0=>⟨h0.1,fun i hi=>wpOp_mono (fun a' w' h'=>⟨h _ h'.1,Pe h fuel _ a' w' h'.2⟩) (h0.2 i hi)⟩
theorem OB.wrote{w w':R}{B g:Nat}{v:Aq}{l:List Int}(h:OB w B v l)(hw:Wrote w w' g)(hg:g<B):OB w' B v l:=by
 refine⟨h.1,h.2.1,?_⟩;rcases h.2.2 with h| ⟨g',cap,cur,hv,hg',hh,r⟩
 . exact AN h
 . exact Ba ⟨g',cap,cur,hv,hg',by rw[hw.2.2.2.2 g' (by omega)];exact hh,r⟩
theorem Mo{ops:Array BS}{o:BS}{a:Act}{w:R}{K:Act->R->Prop}{Q:Exit->Act->R->Prop}{E:Prop}(Dn:o.guard=G)(ty:TypeId)(hi:(U.info? ty).map (·.size)=Z 2)(x y:Operand)(ho:o.op=.store ty x y)
 (g:Nat) (hx:a.eval x=Am (Z ⟨g,0,G⟩)) (p q p' q':Aq) (hy:a.eval y=BD #[p,q]) (hp:p.oneCell'=AL) (hq:q.oneCell'=AL) (T:TypeId) (hg:w.heap[g]? =Z (C #[p',q'] T (0,0)))
 (h:∀ w',Wrote w w' g->w'.heap[g]? =Z (C #[p,q] T (0,0))->K (a.put o.dst undef) w'):
 if Region.wanted o (yielded ops a.tmps)=AL then BS.wp U o a w K Q else E:=by
 have hw:Region.wanted o (yielded ops a.tmps)=AL:=by simp[Region.wanted,Dn]
 rw[AC hw];exact wp_store_row ty x y ho g #[p,q] hx hy T _ hg hi rfl (by simp[hp,hq]) (h _ (Wrote.setRow _ _ _) (Cr _ _ _ _ _ _ hg))
theorem Wc{w w1:R}{g:Nat}{o:Obj}(h:w.heap[g]? =Z o)(hb:I w.heap.size w w1):w1.heap[g]? =Z o:=(hb.block _ (Al.1 h).1).trans h
theorem UQ{w:R}{v:Aq}{c:List Int}(hs:BSl w v c)(hc:16<=c.length)(hcM:c.length<=100000)(n:Nat)(hn:c.getD 2 0=n)(h:n<=13)(x:Int)(hx:x=Cc c 0 2)(S:ByteArray)(hS:S=strOfNums ((c.drop 3).take n))(D:Bool)(hD:D=(C3 (x,S) && decide (Db (x,S)=c.take 16))):
 AA U 23 #[v] w fun e w'=>e=Ag (AO #[BD #[J Y x,.string S],A1 D])/\I w.heap.size w w':=by
 obtain⟨b,off,cap,rfl,Cm,hb⟩:=hs.open' (by omega);have hb1:=Ay w (C #[J Y 0,.string ⟨#[]⟩] 30);have Sj:=Aw w (C #[J Y 0,.string ⟨#[]⟩] 30);obtain⟨W1,hW1⟩:=nm (w.alloc (C #[J Y 0,.string ⟨#[]⟩] 30));rw[<- hW1] at hb1 Sj;have H1:Hid (w.alloc (C #[J Y 0,.string ⟨#[]⟩] 30)=W1):=vJ hW1.symm;have hs1:=hs.below hb1;have hc2:(w.alloc (C #[J Y 0,.string ⟨#[]⟩] 30)).cell? ⟨b,off+2,G⟩=Z (J .u8 (c.getD 2 0)):=by
  rw[<- hW1];rcases hs1.2 with⟨hv,_⟩| ⟨a',c',hv,_,hcc⟩
  . simp at hv
  . obtain⟨rfl,rfl⟩:a'=⟨b,off,G⟩/\cap=c':=⟨(Bz (A0 hv).1).symm,(A0 hv).2.2⟩
    exact(hcc 2 (by omega)).2.2
 rw[hn] at hc2;have HTW:=vJ (fun W (hW:I W1.heap.size W1 W)=>qM (hs1.below hW) hcM 0 0 rfl (by omega) x hx);have Om:∀ W,I W1.heap.size W1 W->(convert 49 9 (Ak (Z ⟨b,off+3,G⟩) n (cap-3))).run U W=.ok (.string S) W:=fun W hW=>by
  rw[hS];exact cd (hs1.below hW) (by omega)
 have HCV:=vJ Om;have HC16:Hid (∀ W,I w.heap.size w W->(convert 49 9 (Ak (Z ⟨b,off,G⟩) 16 cap)).run U W=.ok (.string (strOfNums (c.take 16))) W):=vJ fun W hW=>by
  have:=G3 ((hs.below hW).mid 0 16 (by omega));rw[Nat.add_zero,Nat.sub_zero,CP] at this;exact this
 have HS1:=vJ hs1;obtain⟨N,hN⟩:=nm c.length;rw[<- hN] at Cm hc HTW HS1 |-
 have h2:(2:Nat)<N:=by omega
 have h2i:(2:Int)<(N:Int):=by omega
 have hni:(n:Int)<=13:=by omega
 have u1:=Tryz.underlying30;have hwn:Y.wrap (n:Int)=(n:Int):=A9 _ (by omega);clear hs hn hN hs1 hx hS Om hcM hW1;go_enter Tryz.func23,Tryz.ntmps23;go_wp2;rw[H1.out];clear hc2;have b0:I W1.heap.size W1 W1.drew:=A2 (AM _ _) 1;have b1:I W1.heap.size W1 (W1.alloc (C #[J Y 0,.string ⟨#[]⟩] 30)).drew:=A2 (Ay W1 _) 1;have hsl:∀ W:R,(Instr.slice 49 (Ak (Z ⟨b,off,G⟩) N cap) (Z (J Y 3)) (Z (J Y (3+(n:Int)))) G).run U W=.ok (Ak (Z ⟨b,off+3,G⟩) n (cap-3)) W:=fun W=>by
  have:=Ew W b off N cap 3 (3+n) (Z (J Y ((3+n:Nat):Int))) (Ba rfl) (by omega) (by omega) (by omega);have ee:U.elem 49=5:=by kernel_rfl
  rw[run_sliceAt_slice W 49 _ _ _ _ (by rw[ee];exact Tryz.underlying49),show 3+n-3=n by omega,show((3+n:Nat):Int)=3+(n:Int) by omega] at this;exact this
 have hadd:Y.wrap (3+(n:Int))=3+(n:Int):=A9 _ (by omega);have cv0:=HCV.out _ b0;have cv1:=HCV.out _ b1;have cvA:∀ o,(convert 49 9 (Ak (Z ⟨b,off+3,G⟩) n (cap-3))).run U (W1.alloc o).drew=.ok (.string S) (W1.alloc o).drew:=fun o=>HCV.out _ (A2 (Ay W1 o) 1)
 have HWS:Hid (w.heap.size<W1.heap.size):=vJ (Al.1 Sj).1
 go_cut [5] from 13 (fun t5 wc=>t5=Am (Z ⟨W1.heap.size,0,G⟩)/\wc=(W1.alloc (C #[J Y x,.string S] 30)).drew)
 case first=>
  go_region_held3 (fun W=>(convert 49 9 (Ak (Z ⟨b,off+3,G⟩) n (cap-3))).run U W=.ok (.string S) W) (first|exact cv0|exact cv1|exact cvA _) (first
   |(go_at_call 50;with_reducible refine(HTW.out _ (by assumption)).mono ?_;rintro e w' ⟨rfl,rfl⟩))
  all_goals (go_wp2_with fail;go_meet;exact⟨rfl,rfl⟩)
 case rest=>
  obtain⟨rfl,hwc⟩:=hcut;have hbc:I W1.heap.size W1 wc:=by rw[hwc];exact A2 (Ay W1 _) 1
  have hhc:wc.heap[W1.heap.size]? =Z (C #[J Y x,.string S] 30 (0,0)):=by rw[hwc];exact Aw W1 _
  have Kh:=Wc Sj hbc;have k0:wc.cell? ⟨W1.heap.size,0,G⟩=Z (J Y x):=by rw[Az _ _ _ _ _ _ hhc];rfl
  have k1:wc.cell? ⟨W1.heap.size,1,G⟩=Z (.string S):=by rw[Az _ _ _ _ _ _ hhc];rfl
  have qa:W1.heap.size<wc.heap.size:=(Al.1 hhc).1;obtain⟨q,hq⟩:=nm W1.heap.size;have hgq:w.heap.size<q:=by rw[hq];exact HWS.out
  rw[<- hq] at k0 k1 qa |-
  have d0:wc.drew.cell? ⟨q,0,G⟩=Z (J Y x):=k0;have d1:wc.drew.cell? ⟨q,1,G⟩=Z (.string S):=k1;have d2:=HC16.out wc.drew (A2 (hb1.trans (hbc.mono hb1.size)) 1);have HBC:=vJ (A2 hbc 1);have HR0:=vJ Kh;have hs16:=RG b off N cap (by omega);have hgc0:w.heap.size<wc.heap.size:=by omega
  have oZ:w.heap.size<wc.drew.heap.size:=hgc0;have qa:q<wc.drew.heap.size:=qa;have HQ:=vJ hq;clear b0 b1 cv0 cv1 cvA hsl hadd hwc hhc k0 k1 Kh hbc HTW HCV Sj hq;cases hf:C3 (x,S)
  . have KF:=vJ (fun W=>GL x S AI hf W)
    have HD:Hid (D=AI):=vJ (by rw[hD,hf];rfl);clear hD hf;have z0:wc.drew.heap[w.heap.size]? =Z (C #[J Y 0,.string ⟨#[]⟩] 30 (0,0)):=HR0.out;go_wp2_with fail
    refine wp_region_held_drew (S:=fun W=>W.cell? ⟨q,0,G⟩=Z (J Y x)/\W.cell? ⟨q,1,G⟩=Z (.string S)) (by kernel_rfl) ⟨d0,d1⟩ (fun hHeld=>?_);refine Bt (i:=0) (v:=BD #[J Y x,.string S]) rfl (by kernel_rfl) (by kernel_rfl) (by kernel_rfl) (fun _ _ _ h=>h) (AN ⟨by rfl,?_⟩) (by assumption) ?_
    . intro W EM
      obtain⟨s0,s1⟩:=EM
      go_simp
    simp only[M,Aj,Av,Au,As,Ao];refine Bt (i:=1) (v:=BD #[J Y x,.string S]) rfl (by kernel_rfl) (by kernel_rfl) (by kernel_rfl) (fun _ _ _ h=>h) (AN ⟨by rfl,?_⟩) (by assumption) ?_
    . intro W EM
      obtain⟨s0,s1⟩:=EM
      go_simp
    simp only[M,Aj,Av,Au,As,Ao,Ap];refine wpAnyH_ready (rs:=[2]) (by kernel_rfl) (by simp) (EL rfl (fun K hK=>?_) AllReadyH.nil)
    go_simp
    go_at_call 34
    refine(KF.out _).mono ?_;rintro e w6 ⟨rfl,hb6⟩;have e0:=(hb6.cell (p:=⟨q,0,G⟩) qa).trans d0;have e1:=(hb6.cell (p:=⟨q,1,G⟩) qa).trans d1;have z6:=(hb6.block _ oZ).trans z0;refine hK.out _ _ ⟨e0,e1⟩ (fun hHeld=>?_);clear hK K;refine Bt (i:=3) (v:=A1 AI) rfl (by kernel_rfl) (by kernel_rfl) (by kernel_rfl) (fun _ _ _ h=>h) (AN ⟨by rfl,?_⟩) (by assumption) ?_
    . intro W EM
      obtain⟨s0,s1⟩:=EM
      go_simp
    simp only[M,Aj,Av,Au,As,Ao,Ap];refine Bt (i:=4) (v:=undef) rfl (by kernel_rfl) (by kernel_rfl) (by kernel_rfl) (fun _ _ _ h=>h) (Or.inr ⟨by rfl,rfl⟩) (by assumption) ?_;simp only[M,Aj,Av,Au,As,Ao,Ap];refine Bt (i:=5) (v:=undef) rfl (by kernel_rfl) (by kernel_rfl) (by kernel_rfl) (fun _ _ _ h=>h) (Or.inr ⟨by rfl,rfl⟩) (by assumption) ?_;simp only[M,Aj,Av,Au,As,Ao,Ap];refine Bt (i:=6) (v:=undef) rfl (by kernel_rfl) (by kernel_rfl) (by kernel_rfl) (fun _ _ _ h=>h) (Or.inr ⟨by rfl,rfl⟩) (by assumption) ?_;simp only[M,Aj,Av,Au,As,Ao,Ap];refine Bt (i:=7) (v:=undef) rfl (by kernel_rfl) (by kernel_rfl) (by kernel_rfl) (fun _ _ _ h=>h) (Or.inr ⟨by rfl,rfl⟩) (by assumption) ?_;simp only[M,Aj,Av,Au,As,Ao,Ap];refine Bt (i:=8) (v:=undef) rfl (by kernel_rfl) (by kernel_rfl) (by kernel_rfl) (fun _ _ _ h=>h) (Or.inr ⟨by rfl,rfl⟩) (by assumption) ?_;simp only[M,Aj,Av,Au,As,Ao,Ap];refine Bt (i:=9) (v:=undef) rfl (by kernel_rfl) (by kernel_rfl) (by kernel_rfl) (fun _ _ _ h=>h) (Or.inr ⟨by rfl,rfl⟩) (by assumption) ?_;simp only[M,Aj,Av,Au,As,Ao,Ap];refine Bt (i:=10) (v:=undef) rfl (by kernel_rfl) (by kernel_rfl) (by kernel_rfl) (fun _ _ _ h=>h) (Or.inr ⟨by rfl,rfl⟩) (by assumption) ?_;simp only[M,Aj,Av,Au,As,Ao,Ap];refine Bt (i:=11) (v:=A1 AI) rfl (by kernel_rfl) (by kernel_rfl) (by kernel_rfl) (fun _ _ _ h=>h) (AN ⟨by rfl,?_⟩) (by assumption) ?_
    . intro W EM
      obtain⟨s0,s1⟩:=EM
      go_simp
    simp only[M,Aj,Av,Au,As,Ao,Ap];refine wpAnyH_ready (rs:=[12]) (by kernel_rfl) (by simp) (EL rfl (fun K hK=>?_) AllReadyH.nil);refine Mo rfl 30 O8 (.tmp 2) (.tmp 21) rfl w.heap.size rfl _ _ _ _ rfl rfl rfl _ z6 ?_;intro w9 hw9 hr9;refine hK.out _ _ ⟨by simp only[R.cell?];rw[hw9.2.2.2.2 q (by omega)];exact e0,by simp only[R.cell?];rw[hw9.2.2.2.2 q (by omega)];exact e1⟩ (fun hHeld=>?_);clear hK K;simp only[M,As,Ao,Ap];refine Bt (i:=13) (v:=A1 AI) rfl (by kernel_rfl) (by kernel_rfl) (by kernel_rfl) (fun _ _ _ h=>h) (AN ⟨by rfl,?_⟩) (by assumption) ?_
    . intro W EM
      obtain⟨s0,s1⟩:=EM
      go_simp
    simp only[M,Aj,Av,Au,As,Ao,Ap];refine wpAnyH_done (by kernel_rfl) ?_ _;go_wp2;have HB6:=vJ (HBC.out.trans (hb6.mono HBC.out.size));refine Bv (Gf rfl Tryz.underlying30 O8 _ _ w.heap.size _ _ _ _ rfl hr9 rfl) rfl ⟨by rw[HD.out];rfl,?_⟩;exact(hb1.trans (HB6.out.mono hb1.size)).trans (hw9.below (AB _))
  . have hwt:=CF hf
    have KF:=vJ (fun W=>GL x S AL hf W);have KW:=vJ (fun W=>OE x S hf W);have hEQ:((strOfNums (Db (x,S))).toList==(strOfNums (c.take 16)).toList)=D:=by
     rw[hD,hf,AP];by_cases e:Db (x,S)=c.take 16
     . rw[AF e,e];exact beq_self_eq_true _
     . rw[AG e,Fg,Fg,beq_eq_false_iff_ne]
       exact fun hh=>e (To (Oa hwt.2) (Ez HS1.out.1 16) hh)
    obtain⟨L1,sQ⟩:=nm (strOfNums (Db (x,S)));obtain⟨L2,hL2⟩:=nm (strOfNums (c.take 16));have HL1:=vJ sQ;rw[<- hL2] at d2 HC16 hEQ;rw[<- sQ] at hEQ;clear hD hf hwt sQ hL2;go_wp2_with fail
    refine wp_region_held_drew (S:=fun W=>W.cell? ⟨q,0,G⟩=Z (J Y x)/\W.cell? ⟨q,1,G⟩=Z (.string S)/\(convert 49 9 (Ak (Z ⟨b,off,G⟩) 16 cap)).run U W=.ok (.string L2) W) (by kernel_rfl) ⟨d0,d1,d2⟩ (fun hHeld=>?_);refine Bt (i:=0) (v:=BD #[J Y x,.string S]) rfl (by kernel_rfl) (by kernel_rfl) (by kernel_rfl) (fun _ _ _ h=>h) (AN ⟨by rfl,?_⟩) (by assumption) ?_
    . intro W EM
      obtain⟨s0,s1,s2⟩:=EM
      go_simp
    simp only[M,Aj,Av,Au,As,Ao];refine Bt (i:=1) (v:=BD #[J Y x,.string S]) rfl (by kernel_rfl) (by kernel_rfl) (by kernel_rfl) (fun _ _ _ h=>h) (AN ⟨by rfl,?_⟩) (by assumption) ?_
    . intro W EM
      obtain⟨s0,s1,s2⟩:=EM
      go_simp
    simp only[M,Aj,Av,Au,As,Ao,Ap];refine wpAnyH_ready (rs:=[2]) (by kernel_rfl) (by simp) (EL rfl (fun K hK=>?_) AllReadyH.nil)
    go_simp
    go_at_call 34
    refine(KF.out _).mono ?_;rintro e w6 ⟨rfl,hb6⟩;have e0:=(hb6.cell (p:=⟨q,0,G⟩) qa).trans d0;have e1:=(hb6.cell (p:=⟨q,1,G⟩) qa).trans d1;have HB6:=vJ (HBC.out.trans (hb6.mono HBC.out.size));have e2:=HC16.out w6 (hb1.trans (HB6.out.mono hb1.size));have z6:=(hb6.block _ oZ).trans HR0.out;have lR:q<w6.heap.size:=AH qa hb6.size;have rI:w.heap.size<w6.heap.size:=AH oZ hb6.size;refine hK.out _ _ ⟨e0,e1,e2⟩ (fun hHeld=>?_);clear hK K;refine Bt (i:=3) (v:=A1 AL) rfl (by kernel_rfl) (by kernel_rfl) (by kernel_rfl) (fun _ _ _ h=>h) (AN ⟨by rfl,?_⟩) (by assumption) ?_
    . intro W EM
      obtain⟨s0,s1,s2⟩:=EM
      go_simp
    simp only[M,Aj,Av,Au,As,Ao,Ap];refine Bt (i:=4) (v:=BD #[J Y x,.string S]) rfl (by kernel_rfl) (by kernel_rfl) (by kernel_rfl) (fun _ _ _ h=>h) (AN ⟨by rfl,?_⟩) (by assumption) ?_
    . intro W EM
      obtain⟨s0,s1,s2⟩:=EM
      go_simp
    simp only[M,Aj,Av,Au,As,Ao,Ap];refine Bt (i:=7) (v:=Ak (Z ⟨b,off,G⟩) N cap) rfl (by kernel_rfl) (by kernel_rfl) (by kernel_rfl) (fun _ _ _ h=>h) (AN ⟨by rfl,?_⟩) (by assumption) ?_
    . intro W EM
      obtain⟨s0,s1,s2⟩:=EM
      go_simp
    simp only[M,Aj,Av,Au,As,Ao,Ap];refine Bt (i:=8) (v:=Ak (Z ⟨b,off,G⟩) 16 cap) rfl (by kernel_rfl) (by kernel_rfl) (by kernel_rfl) (fun _ _ _ h=>h) (AN ⟨by rfl,?_⟩) (by assumption) ?_
    . intro W EM
      obtain⟨s0,s1,s2⟩:=EM
      go_simp
    simp only[M,Aj,Av,Au,As,Ao,Ap];refine Bt (i:=9) (v:=.string L2) rfl (by kernel_rfl) (by kernel_rfl) (by kernel_rfl) (fun _ _ _ h=>h) (AN ⟨by rfl,?_⟩) (by assumption) ?_
    . intro W EM
      obtain⟨s0,s1,s2⟩:=EM
      go_simp
    simp only[M,Aj,Av,Au,As,Ao,Ap];refine wpAnyH_ready (rs:=[5]) (by kernel_rfl) (by simp) (EL rfl (fun K hK=>?_) AllReadyH.nil)
    go_simp
    go_at_call 39
    refine(KW.out _).mono ?_;rintro e w7 ⟨v7,rfl,hob7,hb7⟩;have f0:=(hb7.cell (p:=⟨q,0,G⟩) lR).trans e0;have f1:=(hb7.cell (p:=⟨q,1,G⟩) lR).trans e1;have HB7:=vJ (HB6.out.trans (hb7.mono HB6.out.size));have f2:=HC16.out w7 (hb1.trans (HB7.out.mono hb1.size));have z7:=(hb7.block _ rI).trans z6;have hv7:=G3 hob7.bsl;rw[<- HL1.out] at hv7;refine hK.out _ _ ⟨f0,f1,f2⟩ (fun hHeld=>?_);clear hK K;refine Pe (S':=fun W=>W.cell? ⟨q,0,G⟩=Z (J Y x)/\W.cell? ⟨q,1,G⟩=Z (.string S)/\(convert 49 9 (Ak (Z ⟨b,off,G⟩) 16 cap)).run U W=.ok (.string L2) W/\(convert 49 9 v7).run U W=.ok (.string L1) W) (fun W hW=>⟨hW.1,hW.2.1,hW.2.2.1⟩) _ _ _ _ ?_;clear hHeld;have hHeld:w7.cell? ⟨q,0,G⟩=Z (J Y x)/\w7.cell? ⟨q,1,G⟩=Z (.string S)/\(convert 49 9 (Ak (Z ⟨b,off,G⟩) 16 cap)).run U w7=.ok (.string L2) w7/\(convert 49 9 v7).run U w7=.ok (.string L1) w7:=⟨f0,f1,f2,hv7⟩;refine Bt (i:=6) (v:=.string L1) rfl (by kernel_rfl) (by kernel_rfl) (by kernel_rfl) (fun _ _ _ h=>h) (AN ⟨by rfl,?_⟩) (by assumption) ?_
    . intro W EM
      obtain⟨s0,s1,s2,s3⟩:=EM
      go_simp
    simp only[M,Aj,Av,Au,As,Ao,Ap];refine Bt (i:=10) (v:=A1 D) rfl (by kernel_rfl) (by kernel_rfl) (by kernel_rfl) (fun _ _ _ h=>h) (AN ⟨by rfl,?_⟩) (by assumption) ?_
    . intro W EM
      obtain⟨s0,s1,s2,s3⟩:=EM
      go_simp
    simp only[M,Aj,Av,Au,As,Ao,Ap];refine Bt (i:=11) (v:=A1 D) rfl (by kernel_rfl) (by kernel_rfl) (by kernel_rfl) (fun _ _ _ h=>h) (AN ⟨by rfl,?_⟩) (by assumption) ?_
    . intro W EM
      obtain⟨s0,s1,s2,s3⟩:=EM
      go_simp
    simp only[M,Aj,Av,Au,As,Ao,Ap];have HOB7:=vJ hob7;have HZ6:=vJ rI;refine wpAnyH_ready (rs:=[12]) (by kernel_rfl) (by simp) (EL rfl (fun K hK=>?_) AllReadyH.nil);refine Mo rfl 30 O8 (.tmp 2) (.tmp 21) rfl w.heap.size rfl _ _ _ _ rfl rfl rfl _ z7 ?_;intro w9 hw9 hr9;have HB9:=vJ ((hb1.trans (HB7.out.mono hb1.size)).trans (hw9.below (AB _)));have ut:=G3 (HOB7.out.wrote hw9 HZ6.out).bsl;rw[<- HL1.out] at ut;refine hK.out _ _ ⟨by simp only[R.cell?];rw[hw9.2.2.2.2 q (by omega)];exact f0,by simp only[R.cell?];rw[hw9.2.2.2.2 q (by omega)];exact f1,HC16.out w9 HB9.out,ut⟩ (fun hHeld=>?_);clear hK K;simp only[M,As,Ao,Ap];refine Bt (i:=13) (v:=A1 D) rfl (by kernel_rfl) (by kernel_rfl) (by kernel_rfl) (fun _ _ _ h=>h) (AN ⟨by rfl,?_⟩) (by assumption) ?_
    . intro W EM
      obtain⟨s0,s1,s2,s3⟩:=EM
      go_simp
    simp only[M,Aj,Av,Au,As,Ao,Ap];refine wpAnyH_done (by kernel_rfl) ?_ _;go_wp2;exact Bv (Gf rfl Tryz.underlying30 O8 _ _ w.heap.size _ _ _ _ rfl hr9 rfl) rfl ⟨rfl,HB9.out⟩
theorem S5{w:R}{v:Aq}{c:List Int}(hs:BSl w v c)(hc:16<=c.length)(hcM:c.length<=100000):
 (¬ tm (c.take 16)->AA U 23 #[v] w fun e w'=>(∃ i s,e=Ag (AO #[BD #[J Y i,.string s],A1 AI]))/\I w.heap.size w w')/\
 (tm (c.take 16)->AA U 23 #[v] w fun e w'=>e=Ag (AO #[BD #[J Y (So (c.take 16)).1,.string (So (c.take 16)).2],A1 AL])/\I w.heap.size w w'):=by
 have hy:=hs.1 2;have hg:=Ou (c:=c) 2 16 (by omega);by_cases h:13<c.getD 2 0
 . exact⟨fun _=>WE hs hc h,fun ho=>by have:=ho.1;rw[hg] at this;omega⟩
 . have hrd:=kH (c:=c) (by rw[hg];omega)
   obtain⟨n,hn⟩:∃ n:Nat,c.getD 2 0=(n:Int):=⟨(c.getD 2 0).toNat,by omega⟩;have hn13:n<=13:=(by omega);have key:=fun D hD=>UQ hs hc hcM n hn hn13 (Cc c 0 2) rfl (strOfNums ((c.drop 3).take n)) rfl D hD
   rw[hn,B5] at hrd;rw[hrd];refine⟨fun C6=>(key AI ?_).mono fun e w' he=>⟨⟨_,_,he.1⟩,he.2⟩,fun hok=>key AL ?_⟩
   . rw[<- hrd]
     by_cases h1:C3 (So (c.take 16))=AL
     . rw[h1,AG fun h2=>C6 ⟨by rw[hg];omega,h1,h2⟩];rfl
     . rw[Bool.eq_false_iff.2 h1];rfl
   . rw[<- hrd,hok.2.1,AF hok.2.2];rfl
end
end Go.Proofs.YtdefiimcmecnnaaGreat
