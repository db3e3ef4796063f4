/- What the law rests on. -/
import Derived.Test.YtfpdajplfmakhaaGreatDoorQD8
open Go.Value renaming int->J,slice->Aw,pointer->Ax,tuple->AT,bool->AY,agg->BS
open Go.IntKind renaming i64->Y
open Go.Proofs.Tryz renaming prog->Aq
open Option renaming none->H,some->S
open Go renaming World->C,Value->AA,Calls->AH,Oper->BK,TypeId->Cn
open Go.Ending renaming returned->Av
open Go.Obj renaming cells->Ay
open Go.RowKit renaming Below->AB
open List renaming replicate->AI,length_cons->BJ
open Bool renaming false->AN,true->AQ
open Array renaming replicate->AW
open Or renaming inl->A4,inr->A8
open Go.Proofs.Tryz
namespace Go.Proofs.YtfpdajplfmakhaaGreatDoor
set_option linter.defProp false
set_option maxHeartbeats 12000000
set_option linter.unusedVariables false
set_option maxRecDepth 100000
section
open Go.RowKit
def eN(n:Int){k:Nat}(h:49<=k):GS n k=[n,0,0,0,0,0,43,44,45,46,47,48]:=by
 have e:YA k=[43,44,45,46,47,48]:=by
  unfold YA;apply Bt Ai;intro i a b;simp only[Cu,Co];simp at a;rw[AG Aa];have:i=0\/i=1\/i=2\/i=3\/i=4\/i=5:=Aa;rcases this with rfl|rfl|rfl|rfl|rfl|rfl <;> rfl
 unfold GS;rw[e];rfl
def dh{kk:Nat}(a:1<=kk)(b:kk<=12)(w:C):AH Aq 73 #[J Y (64*(kk:Int))] w fun e w'=>e=Av (BS #[J Y (64*(kk:Int)),J Y 0,J Y 0,J Y 0,J Y 0,J Y 0,J Y 43,J Y 44,J Y 45,J Y 46,J Y 47,J Y 48])/\AB w.heap.size w w':=by
 have:=bL a b w;rw[eN _ Aa] at this;exact this
def c8{kk:Nat}(a:1<=kk)(b:kk<=12)(w:C):AH Aq 75 #[BS #[J Y (64*(kk:Int)),J Y 0,J Y 0,J Y 0,J Y 0,J Y 0,J Y 43,J Y 44,J Y 45,J Y 46,J Y 47,J Y 48]] w fun e w'=>∃ u,e=Av (AT #[u,J Y 0])/\OB w' w.heap.size u (Gh (Ed kk))/\AB w.heap.size w w':=by
 have f:RP (Ed kk):=fun i=>by
  unfold num Ed;by_cases g:i<12
  . have:i=0\/i=1\/i=2\/i=3\/i=4\/i=5\/i=6\/i=7\/i=8\/i=9\/i=10\/i=11:=by omega
    rcases this with rfl|rfl|rfl|rfl|rfl|rfl|rfl|rfl|rfl|rfl|rfl|rfl <;> simp <;> omega
  . rw[Az,Bf Ak];decide
 refine(oV (L:=Ed kk) rfl f w).mono fun e w' he=>?_
 rcases he with⟨_,v,a,b,d⟩| ⟨c,_,_⟩
 . exact⟨v,a,b,d⟩
 . rw[O9 a b] at c;cases c
def jQ:(Aq.info? 159).map (·.size)=S 14:=Ac
def nT{W:C}{g:Nat}{n:Int}{T:Cn}(h:W.heap[g]? =S (Ay #[J Y n,J Y 0,J Y 0,J Y 0,J Y 0,J Y 0,J Y 43,J Y 44,J Y 45,J Y 46,J Y 47,J Y 48] T (0,0))){k:Nat}(a:k<6):W.cell? ⟨g,6+k,H⟩=S (J Y ((43+k:Nat):Int)):=by
 rw[AD _ _ _ _ _ _ h];have:k=0\/k=1\/k=2\/k=3\/k=4\/k=5:=Aa;rcases this with rfl|rfl|rfl|rfl|rfl|rfl <;> rfl
def dz{kk:Nat}(h1:1<=kk)(U:kk<=12)(w:C):AH Aq 36 #[J Y (64*(kk:Int)),J Y (64*(kk:Int))] w fun e w'=>∃ v G,e=Av v/\BBR w' 0 v G/\P2 G (Gv kk) kk kk/\New3 G kk/\AB w.heap.size w w':=by
 have KN:=wN (fun(W:C)=>RM h1 U W);have KG:=wN (fun(W:C)=>NX kk h1 U W);have h7:=wN (fun(W:C)=>dh h1 U W);have h5:=wN (fun(W:C)=>c8 h1 U W);obtain⟨q,tm⟩:∃ M:Nat,M=8:=⟨_,rfl⟩;have c7:Hid ((8:Int)=(q:Int)):=wN Aa;have i5:1<q:=Aa;have i6:q<=1000:=Aa;have b9:Hid (G7 ((AI q zeroI).set 1 [2,1,0,0,0,0,0,0,0,0,0,0,0,0])=AQ/\Gw ((AI q zeroI).set 1 [2,1,0,0,0,0,0,0,0,0,0,0,0,0])=Gw (Jv newN 0)):=wN (by subst tm;exact⟨newT_frm.1,rfl⟩);have c0:Hid (G7 (AI q zeroI)=AQ/\∀ k,k<6->k≠0->Gw (AI q zeroI)=Gw (Jv newN k)):=wN (by subst tm;exact⟨newT_frm.2,fun k h h0=>by rw[Yb h h0]⟩);clear tm;have g3:=wN (Z7 h1 U);obtain⟨M,hM⟩:∃ M:Nat,M=256:=⟨_,rfl⟩;have HM:Hid ((256:Int)=(M:Int)):=wN Aa;have j3:M<=1000:=Aa;have c3:Hid (∀ (W:C) (B g:Nat),W.heap[g]? =S (Ay (AW M (J .u8 0)) 5 (0,0))->BElt W B (Aw (S ⟨g,0,H⟩) M M) zb):=wN (by subst hM;exact fun W B g h=>fg h);clear hM;go_enter func36,ntmps36;go_wp2;go_loopw [5,23] (fun v i wr=>∃ k:Nat,k<=64*kk/\i=J Y k/\Hid (BB2 wr w.heap.size 0 v (AI k zb))/\AB w.heap.size w wr) (fun _ i _=>64*kk-(intOf i).toNat)
 case atStart=>exact⟨0,Aa,rfl,⟨[],rfl,fun j hj=>absurd hj (Bm _),Dt _ _ _ _⟩,AP _ _⟩
 case round=>
  obtain⟨k,hk,rfl,HV,r⟩:=hrel;by_cases j4:k<64*kk
  . have WN:(k:Int)<64*(kk:Int):=by omega
    have e8:=AF wr (Ay (AW M (J .u8 0)) 5);have HE:=wN (c3.out (wr.alloc (Ay (AW M (J .u8 0)) 5)) 0 wr.heap.size (AC wr _));have g7:=wN (HV.out.low e8);have HZ:Hid (AI (k+1) zb=AI k zb ++ [zb]):=wN List.replicate_succ';have HL:Hid ((AI k zb).length<=100000):=wN (by rw[Bg];omega);have Ef:=r.size
    go_wp2_with (first|(at_make;refine CT _ rfl _ _ rfl _ M rfl rfl HM.out Aa ?_)|(at_builtin;refine GQ 95 underlying95 (wr.alloc (Ay (AW M (J .u8 0)) 5)) (Aw (S ⟨wr.heap.size,0,H⟩) M M) zb rfl (.tmp 25) (.tmp 27) rfl w.heap.size 0 (A7 _) _ (AI k zb) rfl g7.out HE.out _ rfl Ai HL.out Ak ?_;intro v' w4 f4 K;have g8:Hid (BB2 w4 w.heap.size 0 v' (AI (k+1) zb)):=wN (by rw[HZ.out];exact f4);have f7:=wN ((r.trans (e8.mono Ef)).trans K);clear f4 K))
    go_roundw
    case rel=>exact⟨k+1,Aa,by go_num,g8,f7.out⟩
    case measure=>simp[intOf];omega
  . obtain rfl:k=64*kk:=by omega
    obtain⟨E,c,ev,lY,vg⟩:=HV.out.shape0 (by rw[Bg];omega);rw[Bg] at ev;subst ev;have d8:=wN (HV.out.lower (A7 _)).bbr;clear HV
    go_wp2_with (first|(go_at_call 66;refine(KN.out _).mono ?_;rintro e V ⟨b,go,L,Ms,rfl,hR,c1,e3,e4,h8,e7,MW,CD,e9,b6⟩)|(go_at_call 67;refine Ad (KG.out _) ?_;rintro w' rfl))
    have d0:Hid (∃ G,BBR V 0 (Aw (S ⟨E,0,H⟩) (64*kk) c) G/\P2 G (Gv kk) kk 0):=wN ⟨_,d8.out.below b6,P2.zero _ h1⟩;have X:Hid (AB w.heap.size w V/\V.heap.size<=V.heap.size):=wN ⟨r.trans (b6.mono r.size),AE _⟩;have c4:=wN c1;have b5:=wN e9;obtain⟨A,hA⟩:=nm wr.heap.size;have z:Hid (w.heap.size<=E/\E<A):=wN (by rw[hA];exact⟨lY,vg⟩);have m:Hid (A<=b/\A<=go/\b<V.heap.size/\go<V.heap.size):=wN (by rw[hA];exact⟨e3,e4,e7,MW⟩);clear hR c1 h8 e9 b6 e3 e4 e7 MW lY vg d8 r c3 HM hA;go_loopw [34] (fun i WI=>∃ g:Nat,g<=kk/\i=J Y g/\Hid (∃ G,BBR WI 0 (Aw (S ⟨E,0,H⟩) (64*kk) c) G/\P2 G (Gv kk) kk g)/\Hid (∀ x,A<=x->x<V.heap.size->WI.heap[x]? =V.heap[x]?)/\Hid (AB w.heap.size w WI/\V.heap.size<=WI.heap.size)) (fun i _=>kk-(intOf i).toNat)
    case atStart=>exact⟨0,Aa,rfl,d0,wN fun _ _ _=>rfl,X⟩
    case round=>
     obtain⟨g,hg,rfl,HP,HF,I⟩:=hrel;clear d0 X;by_cases gN:g<kk
     . obtain⟨G,hG,R⟩:=HP.out
       have o8:=R.len;have eg:(g:Int)<12:=Aa;have j1:(g:Int)<(kk:Int):=Aa;have h9:=Jl gN;have i1:(Cp g:Int)<64*(kk:Int):=Aa;have i2:(Cp g:Int)+1<64*(kk:Int):=Aa;have j0:=(Bi (a:=⟨b,1,H⟩) (HF.out b m.out.1 m.out.2.2.1)).trans c4.out;have vh:∀ j,j<64*kk->wr.cell? ⟨go,j*2,H⟩=S (J .u16 (F8 (64*kk) j).1)/\wr.cell? ⟨go,j*2+1,H⟩=S (J .u16 (F8 (64*kk) j).2):=fun j hj=>
        ⟨(Bi (a:=⟨go,j*2,H⟩) (HF.out go m.out.2.1 m.out.2.2.2)).trans (b5.out j hj).1,(Bi (a:=⟨go,j*2+1,H⟩) (HF.out go m.out.2.1 m.out.2.2.2)).trans (b5.out j hj).2⟩
       have b2:=cD (cap:=L-64*g) (AL m.out.2.2.2 I.out.2) gN vh;obtain⟨_,gA,_⟩:=g3.out.gr gN;obtain⟨Og,sh⟩:=nm (FI (Gv kk) g);obtain⟨D,hD⟩:=nm (Gz (g:Int) (CY Og 64));have a9:=R.group gN;rw[<- sh] at b2 gA a9;rw[<- hD] at a9;have KP:=wN (Zx b2 gA);have KO:Hid (∀ W,AB wr.heap.size wr W->AH Aq 69 #[J Y g,Aw (S ⟨go,64*g*2,H⟩) 64 (L-64*g)] W fun e w'=>∃ aL nL cL,e=Av (AT #[BS #[J Y g,Aw aL nL cL],J Y 0])/\KSl w' (Aw aL nL cL) (CY Og 64)/\AB W.heap.size W w'):=wN fun W hb=>(bF (b2.below hb) (g:Int) Aa Aa gA).mono fun e w' ⟨v,h1,U,h3⟩=>by
        obtain⟨aL,cL,rfl⟩:=U.ksl.shape;exact⟨_,_,_,h1,U.ksl,h3⟩
       have KE:Hid (∀ (W:C) (v:AA),KSl W v (CY Og 64)->AH Aq 70 #[BS #[J Y g,v]] W fun e w'=>∃ v,e=Av (AT #[v,J Y 0])/\OB w' W.heap.size v D/\AB W.heap.size W w'):=wN fun W v hk=>by
        rw[hD];exact cr hk (g:Int) Aa Aa (EL _ _)
       have d9:=wN (fun(W:C)=>Nb (g:Int) W);have e1:=wN (fun(W:C)=>WG (g:Int) W);rw[Tl (show g<12 from Aa)] at d9;rw[Xu (show g<12 from Aa)] at e1;have Q:=wN hG;have g4:=wN a9;have Z:Hid (Cp g<G.length/\Cp g+1<G.length):=wN Aa;have uz:64*g+64<=L:=Aa;clear hG R o8 h9 vh b2 gA sh hD a9
       go_wp2_with (first|(with_reducible refine Nw rfl (.tmp 40) (.tmp 42) (.tmp 45) rfl go 0 (64*kk) L rfl (64*(g:Int)) (64*(g:Int)+64) rfl rfl (64*g) (64*g+64) 64 Aa Aa Aa Aa uz Aa (64*g*2) Aa ?_)|(go_at_call 68;refine KP.out.mono ?_;rintro e w4 ⟨vp,rfl,f6,K⟩)|(go_at_call 69;refine(KO.out _ K).mono ?_;rintro e w5 ⟨aL,nL,cL,rfl,f1,a5⟩;have N:=K.trans (a5.mono K.size);have p:=AF w5 (Ay #[J Y g,Aw aL nL cL] 152);have vi:=f1.below p)|(go_at_call 70;refine(KE.out _ _ vi).mono ?_;rintro e w6 ⟨vd,rfl,f5,o⟩;have F:=(N.trans (p.mono N.size)).trans (o.mono (AU N.size p.size));have qx:=(a5.trans (p.mono a5.size)).trans (o.mono (AU a5.size p.size));have n:=Q.out.below F;have b4:=(f6.below qx).elt (B:=0);have vj:=f5.elt (B:=0);obtain⟨e2,b3,_,_⟩:=n.row)|(with_reducible refine D3 rfl (.tmp 71) (.tmp 69) rfl 0 E (64*kk) c (Cp g) G D vd rfl rfl n Z.out.1 vj ?_;intro w7 qy a6 l;have vk:=b4.wrote l (A7 _) b3 Af)|(with_reducible refine D3 rfl (.tmp 72) (.tmp 70) rfl 0 E (64*kk) c (Cp g+1) (G.set (Cp g) D) (DO Og) vp rfl rfl qy (by rw[AR];exact Z.out.2) vk ?_;intro w8 a8 b7 a7)|(go_at_call 71;refine Ad (d9.out _) ?_;rintro w' rfl)|(go_at_call 72;refine Ad (e1.out _) ?_;rintro w' rfl))
       have g5:Hid (∃ G,BBR w8 0 (Aw (S ⟨E,0,H⟩) (64*kk) c) G/\P2 G (Gv kk) kk (g+1)):=wN ⟨_,a8,g4.out⟩;have g1:Hid (∀ x,A<=x->x<V.heap.size->w8.heap[x]? =V.heap[x]?):=wN fun x i4 W7=>by
        have f3:x≠E:=(by have:=z.out.2;omega);exact(a7.2.2.2.2 x f3).trans ((l.2.2.2.2 x f3).trans ((F.block x (AL W7 I.out.2)).trans (HF.out x i4 W7)))
       have f8:Hid (AB w.heap.size w w8/\V.heap.size<=w8.heap.size):=wN ⟨((I.out.1.trans (F.mono I.out.1.size)).trans (l.below z.out.1)).trans (a7.below z.out.1),by
        have h1:=I.out.2;have U:=F.size;have h3:=a6.size;have h4:=b7.size;omega⟩
       clear f6 f5 f1 vi p K a5 o N F qx n b4 vj b3 qy a6 l vk a8 b7 a7;go_roundw
       case rel=>exact⟨g+1,Aa,by go_num,g5,g1,f8⟩
       case measure=>simp[intOf];omega
     . have e0:g=kk:=by omega
       subst e0;have d1:=wN HP.out;have r:=I.out.1;have gu:E<wr.heap.size:=by
        have a1:=z.out.2;have a2:=m.out.1;have a3:=m.out.2.2.1;have a4:=I.out.2;omega
       clear HP HF I gN m b5 c4 KN
       go_wp2_with (first|(go_at_call 73;refine Ad (h7.out _) ?_;rintro w9 b0;have p:=AF w9 (Ay #[J Y (64*(g:Int)),J Y 0,J Y 0,J Y 0,J Y 0,J Y 0,J Y 43,J Y 44,J Y 45,J Y 46,J Y 47,J Y 48] 156);have EO:=AC w9 (Ay #[J Y (64*(g:Int)),J Y 0,J Y 0,J Y 0,J Y 0,J Y 0,J Y 43,J Y 44,J Y 45,J Y 46,J Y 47,J Y 48] 156)))
       obtain⟨s0,LZ⟩:=nm w9.heap.size;have P:=b0.trans (p.mono b0.size);generalize w9.alloc (Ay #[J Y (64*(g:Int)),J Y 0,J Y 0,J Y 0,J Y 0,J Y 0,J Y 43,J Y 44,J Y 45,J Y 46,J Y 47,J Y 48] 156)=W0 at p EO P |-
       rw[<- LZ] at EO |-
       have d4:=wN EO;have i7:E<s0:=(by have:=b0.size;omega);have i9:Hid (s0<W0.heap.size):=wN (Au.1 EO).1;have d3:Hid (∃ G,BBR W0 0 (Aw (S ⟨E,0,H⟩) (64*g) c) G/\P2 G (Gv g) g g/\T3 G 0):=wN (by obtain⟨G,a,b⟩:=d1.out;exact⟨G,a.below P,b,T3.zero _⟩);have X:Hid (AB w.heap.size w W0):=wN (r.trans (P.mono r.size));have c9:Hid (∀ (W:C) (gI:Nat) (O:Ae),F4 O->O.length=q->W.heap[gI]? =S (Ay (O.flatMap iC).toArray 159 (0,0))->NSl W (Aw (S ⟨gI,0,H⟩) q q) O):=wN fun W gI O h1 U h3=>by
        have:=(NR.of_row (B:=0) h1 (A7 _) h3 (by rw[U];simp only[maxLen];omega)).sl
        rwa [U] at this
       have hZ:F4 (AI q zeroI):=fun x hx=>by rw[B6 hx];rfl
       have HZ:=wN hZ;have g9:Hid (F4 ((AI q zeroI).set 1 [2,1,0,0,0,0,0,0,0,0,0,0,0,0])):=wN fun x hx=>by
        rcases Ea hx with h|h
        . exact hZ x h
        . rw[h];rfl
       have HI:Hid (∀ x∈AI q zeroI,(iC x).length=14):=wN fun x hx=>by rw[CF];exact hZ x hx
       clear p EO P b0 LZ hZ gu r d1;go_wp2;go_loopw [76] (fun i WI=>∃ k:Nat,k<=6/\i=J Y k/\Hid (WI.heap[s0]? =S (Ay #[J Y (64*(g:Int)),J Y 0,J Y 0,J Y 0,J Y 0,J Y 0,J Y 43,J Y 44,J Y 45,J Y 46,J Y 47,J Y 48] 156 (0,0)))/\Hid (∃ G,BBR WI 0 (Aw (S ⟨E,0,H⟩) (64*g) c) G/\P2 G (Gv g) g g/\T3 G k)/\Hid (AB w.heap.size w WI)) (fun i _=>6-(intOf i).toNat)
       case atStart=>exact⟨0,Aa,rfl,d4,d3,X⟩
       case round=>
        obtain⟨k,hk,rfl,HS,HQ,I⟩:=hrel;clear d4 d3 X;by_cases qz:k<6
        . have j2:(k:Int)<6:=by omega
          obtain⟨G,hG,R,a0⟩:=HQ.out;have b8:=(Au.1 HS.out).1;have e5:=AF wr (Ay (nC (AI q zeroI)).toArray 159);have f2:(wr.alloc (Ay (nC (AI q zeroI)).toArray 159)).heap[wr.heap.size]? =S (Ay ((AI q zeroI).flatMap iC).toArray 159 (0,0)):=AC wr _;obtain⟨t,ht⟩:=nm (43+k);have lu:(t:Int)<64*(g:Int):=Aa;have d7:Hid (t<G.length):=wN (by rw[R.len];omega);have c5:Hid (∀ W,AB wr.heap.size wr W->W.cell? ⟨s0,6+k,H⟩=S (J Y (t:Int))):=wN fun W hb=>by
           have h6:=(hb.block s0 b8).trans HS.out;rw[nT h6 qz,ht]
          have d2:Hid (∀ x,P2 (G.set t x) (Gv g) g g):=wN fun x=>R.other (A8 Aa) x
          have d6:Hid (∀ x,x=Gw (Jv newN k)->T3 (G.set t x) (k+1)):=wN fun x hx=>by rw[ht];exact a0.put (by rw[R.len];omega) hx
          have Q:=wN hG;have d5:Hid (∀ W W',AB wr.heap.size wr W->Wrote W W' E->W'.heap[s0]? =S (Ay #[J Y (64*(g:Int)),J Y 0,J Y 0,J Y 0,J Y 0,J Y 0,J Y 43,J Y 44,J Y 45,J Y 46,J Y 47,J Y 48] 156 (0,0))):=wN fun W W' hb hw=>(hw.2.2.2.2 s0 Aa).trans ((hb.block s0 b8).trans HS.out)
          have b1:=I.out.size;clear ht hG R b8 a0;by_cases Ul:k=0
          . subst Ul
            go_wp2_with (first|(at_make;refine IP _ rfl _ _ rfl _ q rfl rfl c7.out Aa ?_)|(refine EW (f:=iC) (s:=14) rfl 159 (.tmp 84) (.tmp 83) rfl jQ wr.heap.size 1 (AI q zeroI) [2,1,0,0,0,0,0,0,0,0,0,0,0,0] 159 rfl rfl f2 (by rw[Bg];omega) HI.out rfl (Qq _) ?_;intro w5 i3 Du;have e6:=e5.trans (i3.below (AE _));have JK:=c9.out w5 wr.heap.size _ g9.out (by rw[AR,Bg]) Du)|(go_at_call 74;refine(Sn JK b9.out.1).mono ?_;rintro e w6 ⟨u,rfl,hu,o⟩;have d:=e6.trans (o.mono e6.size);have c6:=c5.out _ d;have n:=Q.out.below d;have T:=hu.elt (B:=0))|(with_reducible refine D3 rfl (.tmp 96) (.tmp 95) rfl 0 E (64*g) c t G _ u rfl rfl n d7.out T ?_;intro w7 qy a6 l))
            go_roundw
            case rel=>exact⟨1,Aa,rfl,wN (d5.out _ _ d l),wN ⟨_,qy,d2.out _,d6.out _ b9.out.2⟩,wN ((I.out.trans (d.mono b1)).trans (l.below z.out.1))⟩
            case measure=>simp[intOf]
          . have i8:((k:Int)==0)=AN:=by simpa using Ul
            have JK:=c9.out _ wr.heap.size _ HZ.out (by rw[Bg]) f2;have c2:=wN e5
            go_wp2_with (first|(at_make;refine IP _ rfl _ _ rfl _ q rfl rfl c7.out Aa ?_)|(go_at_call 74;refine(Sn JK c0.out.1).mono ?_;rintro e w6 ⟨u,rfl,hu,o⟩;have d:=c2.out.trans (o.mono c2.out.size);have c6:=c5.out _ d;have n:=Q.out.below d;have T:=hu.elt (B:=0))|(with_reducible refine D3 rfl (.tmp 96) (.tmp 95) rfl 0 E (64*g) c t G _ u rfl rfl n d7.out T ?_;intro w7 qy a6 l))
            go_roundw
            case rel=>exact⟨k+1,Aa,by go_num,wN (d5.out _ _ d l),wN ⟨_,qy,d2.out _,d6.out _ (c0.out.2 k qz Ul)⟩,wN ((I.out.trans (d.mono b1)).trans (l.below z.out.1))⟩
            case measure=>simp[intOf];omega
        . obtain rfl:k=6:=by omega
          obtain⟨G,hG,R,a0⟩:=HQ.out;have hs:=HS.out;have Q:=wN hG;have Z:Hid (0<G.length/\63<G.length):=wN (by rw[R.len];omega);have g6:Hid (∀ x y,P2 ((G.set 0 x).set 63 y) (Gv g) g g):=wN fun x y=>(R.other (A4 rfl) x).other (A8 Aa) y
          have g2:Hid (New3 ((G.set 0 (Gh (Ed g))).set 63 (Gh (Ed g))) g):=wN (a0.sup g (by rw[R.len];omega) rfl);have b1:=I.out.size;have f9:=wN I.out;clear hG R a0 HQ HS I
          go_wp2_with (first|(with_reducible refine wpList_load_row rfl 156 (.tmp 15) rfl s0 rfl 156 _ (0,0) _ hs underlying156 rfl (by rw[T9];simp) ?_)|(go_at_call 75;refine(h5.out _).mono ?_;rintro e w6 ⟨u,rfl,hu,o⟩;have n:=Q.out.below o;have T:=hu.elt (B:=0);obtain⟨e2,b3,_,f0⟩:=n.row)|(with_reducible refine D3 rfl (.tmp 107) (.tmp 105) rfl 0 E (64*g) c 0 G (Gh (Ed g)) u rfl rfl n Z.out.1 T ?_;intro w7 qy a6 l;have i0:=T.wrote l f0 b3 Af)|(with_reducible refine D3 rfl (.tmp 108) (.tmp 106) rfl 0 E (64*g) c 63 (G.set 0 (Gh (Ed g))) (Gh (Ed g)) u rfl rfl qy (by rw[AR];exact Z.out.2) i0 ?_;intro w8 a8 b7 a7))
          go_ret;exact⟨_,_,rfl,a8,g6.out _ _,g2.out,((f9.out.trans (o.mono b1)).trans (l.below z.out.1)).trans (a7.below z.out.1)⟩
def jG(a:Option Addr)(cap:Nat)(f:AA)(w:C):AH Aq 158 #[Aw a 0 cap,f] w fun e w'=>e=Av (J Y (-1))/\w=w':=by
 go_enter func158,ntmps158;go_wp2
 go_loop [8] (fun i=>i=J Y 0) (fun _=>0)
 case atStart=>rfl
 case round=>
  subst hrel;go_wp2;go_ret;exact⟨rfl,rfl⟩
def ke(a:Option Addr)(cap:Nat)(f:AA)(w:C):AH Aq 119 #[Aw a 0 cap,f] w fun e w'=>e=Av (Aw a 0 cap)/\w=w':=by
 go_enter func119,ntmps119;go_wp2_with (go_at_call 158;refine Ad (jG _ _ _ _) ?_;rintro w' rfl)
 go_ret;exact⟨rfl,rfl⟩
section
variable {w:C}{B bp bf bv:Nat}{u:AA}{F V:Ae}{fu dn:Bool}{le:Int}
def UN(h:DskAt w B bp bf bv u F V [] fu le dn)(f:AA):AH Aq 78 #[Ax (S ⟨bp,0,H⟩),f] w fun e w'=>e=Av (AT #[])/\DskAt w' B bp bf bv u F V [] fu le dn/\Wrote w w' bp:=by
 obtain⟨c,a,rfl⟩:=h.shapeU;have x:=h.c2;have y:=h.fr 2;have j:=h.hp;have n:=Wrote.setCell w bp 2 (Aw c 0 a);have l:(w.setCell ⟨bp,2,H⟩ (Aw c 0 a)).heap[bp]? =_:=Bk w bp 2 _ _ _ j;have o:Hid (DskAt (w.setCell ⟨bp,2,H⟩ (Aw c 0 a)) B bp bf bv (Aw c 0 a) F V [] fu le dn):=wN (by
  have b:∀ {k:Nat},k≠bp->(w.setCell ⟨bp,2,H⟩ (Aw c 0 a)).heap[k]? =w.heap[k]? :=fun v=>AZ _ _ _ _ v
  refine⟨h.bB,h.ne,by rw[l];rfl,by rw[b (C0 h.ne.1)];exact h.hf,by rw[b (C0 h.ne.2.1)];exact h.hv,⟨h.hu.1,?_⟩,h.une,h.okF,h.okV,h.okU,h.len,h.max⟩;rcases h.hu.2 with q| ⟨g,d,i,m,s,t,r⟩
  . exact A4 q
  . exact A8 ⟨g,d,i,m,s,by rw[b (fun e=>h.une.1 (by rw[m,<- e];rfl))];exact t,r⟩)
 have p:=wN n;clear j l n h;go_enter func78,ntmps78;go_wp2_with (go_at_call 119;refine Ad (ke _ _ _ _) ?_;rintro w' rfl)
 go_end0
 exact⟨rfl,o.out,p.out⟩
def Xg(h:DskAt w B bp bf bv u F V [] fu le dn){n:Nat}(hn:n<V.length){v:AA}{l:Ab}(hv:BSl w v l)(hl:l.length=256):
 AH Aq 37 #[Ax (S ⟨bp,0,H⟩),J Y n,v] w fun e w'=>e=Av (J Y 0)/\DskAt w' B bp bf bv u (F.set n l) (V.set n l) [] fu le dn/\Fr3 w w' bp bf bv:=by
 obtain⟨R,z⟩:=nm (w.alloc (Ay #[J Y n] 3));have A:AB w.heap.size w R:=by rw[z];exact AF w _
 have Q:R.heap[w.heap.size]? =S (Ay #[J Y n] 3 (0,0)):=by rw[z];exact AC w _
 have M:=h.below A;have P:=hv.below A;have a6:=wN z;have hd:decide ((0<=(n:Int)/\(n:Int)<V.length)/\l.length=256)=AQ:=AK ⟨Aa,hl⟩;have KF:=wN (MC M n P);rw[hd] at KF;have KB:=wN (Mn P hl);have Z:Hid ((cB l).length=256):=by show _=_;rw[CQ,hl]
 have T:Hid (WU l):=⟨hl,hv.1⟩;have HZ:=wN Fq;have x0:R.cell? ⟨w.heap.size,0,H⟩=S (J Y n):=by rw[AD _ _ _ _ _ _ Q];rfl
 have HX:=wN Q;have U:=wN M;have L:=wN A;have a1:=And.intro (Au.1 h.hp).1 (And.intro (Au.1 h.hf).1 (Au.1 h.hv).1);have a5:=wN a1;have HH:=wN h;have b4:(n:Int)<V.length:=Aa;have b0:n<F.length:=by have:=h.len;omega
 have b2:(n:Int)<F.length:=Aa;clear z A Q M P hv hl hd a1 h;go_enter func37,ntmps37;go_upto_region 1 with(fail)
 rw[a6.out.symm]
 go_upto_region 4 with(first
  |(go_at_call 76;refine Ad KF.out ?_;rintro w' rfl)|(go_at_call 77;refine Ad KB.out ?_;rintro w1 D)
  |with_reducible refine GE _ rfl rfl ?_
  |(refine FG _ rfl _ _ Aj _ 164 zB (cB l) Aj Aj (Cv _ _) HZ.out Z.out (GV l) ?_
    rw[E3]))
 have q:AB R.heap.size R (w1.alloc (Ay (cB l).toArray 164)):=D.alloc D.size _;obtain⟨x,WO⟩:=nm w1.heap.size;obtain⟨m,t⟩:=nm w.heap.size;have r:(w1.alloc (Ay (cB l).toArray 164)).heap[x]? =S (Ay (cB l).toArray 164 (0,0)):=by rw[WO];exact Cv _ _
 rw[<- WO,<- t];have rR:m<R.heap.size:=by rw[t];exact(Au.1 HX.out).1
 have Ui:bp<m/\bf<m/\bv<m:=by rw[t];exact a5.out
 have a3:m≠bf/\m≠bv:=⟨Aa,Aa⟩;have b5:m<x:=by rw[WO];exact AL rR D.size
 have xr:(w1.alloc (Ay (cB l).toArray 164)).heap[m]? =S (Ay #[J Y n] 3 (0,0)):=(q.block m rR).trans (by rw[t];exact HX.out);generalize w1.alloc (Ay (cB l).toArray 164)=b at q r xr |-
 have I:=U.out.below q;have g:Hid (AB w.heap.size w b):=wN (L.out.trans (q.mono L.out.size));have lx:=GV l;have rV:=underlying164;have r9:(Aq.info? 164).map (·.size)=S (cB l).length:=by rw[Py,Z.out]
 have b1:=Z.out;have rL:b.rangeAt x 0 (cB l):=Es r (by rw[CX,BZ]);have tF:b.there bf (n*256) (cB l).length:=Ft I.hf (by rw[Z.out,CR (Er I.okF)];omega);have x1:b.cell? ⟨m,0,H⟩=S (J Y n):=by rw[AD _ _ _ _ _ _ xr];rfl
 have a2:=I.ne;have o:b.drew.cell? ⟨bp,0,H⟩=S (Aw (S ⟨bf,0,H⟩) F.length F.length)/\b.drew.cell? ⟨m,0,H⟩=S (J Y n)/\b.drew.rangeAt x 0 (cB l)/\b.drew.there bf (n*256) (cB l).length:=⟨I.c0,x1,rL,tF⟩;have y:(b.drew.setCells bf (n*256) (cB l)).cell? ⟨bp,0,H⟩=S (Aw (S ⟨bf,0,H⟩) F.length F.length)/\(b.drew.setCells bf (n*256) (cB l)).cell? ⟨m,0,H⟩=S (J Y n)/\(b.drew.setCells bf (n*256) (cB l)).rangeAt x 0 (cB l)/\(b.drew.setCells bf (n*256) (cB l)).there bf (n*256) (cB l).length:=
  ⟨by rw[CM _ _ _ _ _ (fun e=>absurd e a2.1)];exact o.1,by rw[CM _ _ _ _ _ (fun e=>absurd e a3.1)];exact o.2.1,GX o.2.2.1 _ _ _ (A4 Aa),C.there_setCells o.2.2.2 _ _ _⟩
 have X:=wN I;have b3:=wN q;clear WO t I r xr rL tF x1 D q KF KB L x0
 go_region_held (fun W=>W.cell? ⟨bp,0,H⟩=S (Aw (S ⟨bf,0,H⟩) F.length F.length)/\W.cell? ⟨m,0,H⟩=S (J Y n)/\W.rangeAt x 0 (cB l)/\W.there bf (n*256) (cB l).length) (first|exact o|exact y) (fail)
 go_wp2_with fail
 obtain⟨K,a⟩:=X.out.setF (W:=b.drew) (AP _ _).drew n b0 l T.out;have O:=y.2.2.1;have W7:=y.2.1;have c:AB b.heap.size b b.drew:=(AP _ _).drew;have E:Hid (∀ k,k<w.heap.size->k≠bf->(b.drew.setCells bf (n*256) (cB l)).heap[k]? =w.heap[k]?):=wN fun k hk N=>(a.2.2.2.2 k N).trans ((show b.drew.heap[k]? =b.heap[k]? from rfl).trans (g.out.block k hk))
 have i:Hid ((b.drew.setCells bf (n*256) (cB l)).os=w.os/\(b.drew.setCells bf (n*256) (cB l)).tape=w.tape/\(b.drew.setCells bf (n*256) (cB l)).output=w.output/\w.heap.size<=(b.drew.setCells bf (n*256) (cB l)).heap.size):=wN ⟨a.1.trans (c.os.trans g.out.os),a.2.1.trans (c.tape.trans g.out.tape),a.2.2.1.trans (c.output.trans g.out.output),by rw[a.2.2.2.1];exact AU g.out.size c.size⟩;generalize b.drew.setCells bf (n*256) (cB l)=d at K O W7 E i |-
 have a4:=wN K;have tV:d.there bv (n*256) (cB l).length:=Ft K.hv (by rw[Z.out,CR (Er K.okV)];omega);have p:d.drew.cell? ⟨bp,1,H⟩=S (Aw (S ⟨bv,0,H⟩) V.length V.length)/\d.drew.cell? ⟨m,0,H⟩=S (J Y n)/\d.drew.rangeAt x 0 (cB l)/\d.drew.there bv (n*256) (cB l).length:=⟨K.c1,W7,O,tV⟩;have a0:(d.drew.setCells bv (n*256) (cB l)).cell? ⟨bp,1,H⟩=S (Aw (S ⟨bv,0,H⟩) V.length V.length)/\(d.drew.setCells bv (n*256) (cB l)).cell? ⟨m,0,H⟩=S (J Y n)/\(d.drew.setCells bv (n*256) (cB l)).rangeAt x 0 (cB l)/\(d.drew.setCells bv (n*256) (cB l)).there bv (n*256) (cB l).length:=
  ⟨by rw[CM _ _ _ _ _ (fun e=>absurd e a2.2.1)];exact p.1,by rw[CM _ _ _ _ _ (fun e=>absurd e a3.2)];exact p.2.1,GX p.2.2.1 _ _ _ (A4 Aa),C.there_setCells p.2.2.2 _ _ _⟩
 clear K a c o y O W7 tV X U
 go_region_held (fun W=>W.cell? ⟨bp,1,H⟩=S (Aw (S ⟨bv,0,H⟩) V.length V.length)/\W.cell? ⟨m,0,H⟩=S (J Y n)/\W.rangeAt x 0 (cB l)/\W.there bv (n*256) (cB l).length) (first|exact p|exact a0) (fail)
 go_wp2_with fail
 obtain⟨h3,a⟩:=a4.out.setV (W:=d.drew) (AP _ _).drew n hn l T.out;have c:AB d.heap.size d d.drew:=(AP _ _).drew;have G:Hid (∀ k,k<w.heap.size->k≠bf->k≠bv->(d.drew.setCells bv (n*256) (cB l)).heap[k]? =w.heap[k]?):=wN fun k hk N a9=>(a.2.2.2.2 k a9).trans ((show d.drew.heap[k]? =d.heap[k]? from rfl).trans (E.out k hk N))
 have j:Hid ((d.drew.setCells bv (n*256) (cB l)).os=w.os/\(d.drew.setCells bv (n*256) (cB l)).tape=w.tape/\(d.drew.setCells bv (n*256) (cB l)).output=w.output/\w.heap.size<=(d.drew.setCells bv (n*256) (cB l)).heap.size):=wN ⟨a.1.trans (c.os.trans i.out.1),a.2.1.trans (c.tape.trans i.out.2.1),a.2.2.1.trans (c.output.trans i.out.2.2.1),by rw[a.2.2.2.1];exact AU i.out.2.2.2 c.size⟩;generalize d.drew.setCells bv (n*256) (cB l)=W3 at h3 G j |-
 have a7:=wN (fun f=>UN h3 f);clear p a0 a c h3;go_wp2_with (go_at_call 78;refine Ad (a7.out _) ?_;rintro w4 ⟨a8,s⟩)
 go_ret;exact⟨rfl,a8,⟨s.1.trans j.out.1,s.2.1.trans j.out.2.1,s.2.2.1.trans j.out.2.2.1,by rw[s.2.2.2.1];exact j.out.2.2.2,fun k hk I K h3=>(s.2.2.2.2 k I).trans (G.out k hk K h3)⟩⟩
end
def m6{w:C}{P:Nat->Prop}{p:AA}{s:DS}(h:Dk w P p s)(A:s.U=[]){n:Nat}(B:n<s.F.length){v:AA}{l:Ab}(hv:BSl w v l):
 AH Aq 37 #[p,J Y n,v] w fun e w'=>(∃ x,e=Av (J Y x))/\Dk w' P p { s with F:=if l.length=256 then s.F.set n l else s.F }/\Chg P P w w':=by
 obtain⟨m,r,t,u,rfl,d,j,c⟩:=h;obtain⟨F,U,z,le,y⟩:=s;simp only at A B d j;subst A;have D:(⟨F,[],z,le,y⟩:DS).vis=F:=rfl;rw[D] at d;by_cases f:l.length=256
 . rw[AG f]
   refine(Xg d B hv f).mono fun e w' ⟨he,G,g⟩=>⟨⟨0,he⟩,⟨m,r,t,u,rfl,G,j,c⟩,⟨g.os,g.tape,g.output,g.size,fun k I b=>⟨g.block k I (fun e=>b ((c k).2 (A4 e))) (fun e=>b ((c k).2 (A8 (A4 e)))) (fun e=>b ((c k).2 (A8 (A8 (A4 e))))),b⟩⟩⟩
 . rw[AJ f]
   have i:=AF w (Ay #[J Y n] 3);have q:=wN (MC (d.below i) n (hv.below i));rw[AM (fun h=>f h.2)] at q;have o:Hid (∀ w',AB w.heap.size w w'->Dk w' P (Ax (S ⟨m,0,H⟩)) ⟨F,[],z,le,y⟩):=wN fun w' a=>⟨m,r,t,u,rfl,d.below a,j,c⟩
   have E:=wN i;clear d j c hv i f D;refine AH.mono (R:=fun e w'=>e=Av (J Y 1)/\AB w.heap.size w w') ?_ fun e w' ⟨he,a⟩=>⟨⟨1,he⟩,o.out w' a,Chg.of_below a⟩
   clear o;go_enter func37,ntmps37;go_wp2_with (go_at_call 76;refine Ad q.out ?_;rintro w' rfl)
   go_ret;exact⟨rfl,E.out⟩
end
section
open Go.RowKit Go.Maps
def SM(ek pk:Ab)(left:Lit->Bool):Nat:=(pk.filter fun x=>!left (.int Y x) && decide (x ∉ ek)).length
def YB{ek pk:Ab}{left:Lit->Bool}(h:∀ x,left (.int Y x)=decide (x∈pk)):SM ek pk left=0:=by
 unfold SM;rw[List.length_eq_zero_iff,List.filter_eq_nil_iff];intro x a;rw[h x,AK a];simp
def jh{ek pk:Ab}{left:Lit->Bool}(h:∀ k,left k=AN):ek.length+SM ek pk left=(EV ek pk).length:=by
 unfold SM EV;rw[AO];congr 3;funext x;rw[h];simp
def ox(ek pk:Ab)(left:Lit->Bool):SM ek pk left<=pk.length:=List.length_filter_le _ _
def jV(x y:Int):(Lit.int Y y).sameKey (.int Y x)=decide (y=x):=by
 by_cases h:y=x
 . subst h;simp[Lit.sameKey]
 . rw[AM h];exact Maps.sameKey_ne (fun e=>h (by cases e;rfl))
def N8{ek:Ab}{f:Int->Bool}{x:Int}:∀ {pk:Ab},pk.Nodup->x∈pk->f x=AQ->
 (pk.filter fun z=>!(f z && !decide (z=x)) && decide (z ∉ ek)).length=(pk.filter fun z=>!f z && decide (z ∉ ek)).length+if x∈ek then 0 else 1
 |[],_,hx,_=>absurd hx Bu
 |a :: r,hn,hx,hl=>by
  obtain⟨d,g⟩:=List.nodup_cons.1 hn;by_cases e:a=x
  . subst e
    have h:(r.filter fun z=>!(f z && !decide (z=a)) && decide (z ∉ ek))=r.filter fun z=>!f z && decide (z ∉ ek):=by
     refine List.filter_congr fun y i=>?_
     have:y≠a:=fun e=>d (e ▸ i)
     rw[AM this];simp
    rw[List.filter_cons,List.filter_cons,hl,h];by_cases b:a∈ek <;> simp[b]
  . have j:=N8 (ek:=ek) (f:=f) g ((Ez.1 hx).resolve_left fun c=>e c.symm) hl
    rw[List.filter_cons,List.filter_cons,AM e];cases k:f a <;> by_cases b:a∈ek <;> simp only[b,Bool.not_true,Bool.not_false,Bool.and_true,Bool.and_false,decide_true,decide_false,not_true_eq_false,not_false_eq_true,if_true,if_false,BJ,Bool.false_eq_true,j] <;> omega
def cN{ek:Ab}{left:Lit->Bool}{x:Int}{pk:Ab}(b:pk.Nodup)(c:x∈pk)(a:left (.int Y x)=AQ):
 SM ek pk (fun z=>left z && !z.sameKey (.int Y x))=SM ek pk left+if x∈ek then 0 else 1:=by
 have h:=N8 (ek:=ek) (f:=fun z=>left (.int Y z)) b c a;unfold SM;rw[<- h];congr 2;funext z;show(!(left (.int Y z) && !(Lit.int Y z).sameKey (.int Y x)) && decide (z ∉ ek))=_
 rw[jV]
section
variable {w:C}{Pd:Nat->Prop}{b be bp:Nat}{d:AA}{q:Int}{ek:Ab}{eg:Int->AA}{ev:Int->Ab}{pk:Ab}{pg:Int->AA}{pv:Int->Ab}{wi:Bool}{ds:DS}
def L9(h:SMem w Pd b be bp d q ek eg ev pk pg pv wi ds)(Xb:ek.length<=1000)(M:pk.length<=1000):AH Aq 85 #[Ax (S ⟨b,0,H⟩)] w fun e w'=>e=Av (.int Y (EV ek pk).length)/\AB w.heap.size w w':=by
 have c2:=h.c2;have c3:=h.c3;have n:=fun ty=>h.me.len ty
 have HB:=wN (fun W (hb:AB w.heap.size w W)=>h.below hb);obtain⟨D,X,p2,p3,Z,p5⟩:=h.mp;have HN:=wN p2;have HH:=wN Z;have HS:=wN (YB (ek:=ek) Z);have T:=wN (fun(left:Lit->Bool) h=>jh (ek:=ek) (pk:=pk) (left:=left) h);have HL:=wN (fun(left:Lit->Bool)=>ox ek pk left);have F:=wN Xb;have I:=wN M;obtain⟨m,hm⟩:=nm pk.length;rw[<- hm] at X HL I;obtain⟨c,hc⟩:=nm ek.length;rw[<- hc] at n T F;obtain⟨R,hR⟩:=nm ((EV ek pk).length);rw[<- hR] at T |-
 clear h p2 p3 Z p5 Xb M hm hc hR;go_enter func85,ntmps85
 go_wp2_with (first
  |(at_range;refine wpList_range_own _ rfl _ 107 rfl 3 77 iKeyed underlying107 hdr bp m D rfl X ?_;intro w0 vl lY LZ)
  |go_in)
 go_frame
 have Q:=wN ((AP w.heap.size w).grown lY (AE _) (fun k V=>by cases V))
 go_loopw [3] (fun i wr=>∃ (left:Lit->Bool) (K k:Nat),Hid (wr.ranges Aq 3 hdr bp w.heap.size m D left K)/\Hid (c+SM ek pk left=k)/\i=.int Y k/\AB w.heap.size w wr)
  (fun _ wr=>wr.rangeLeft bp w.heap.size)
 case atStart=>
  exact⟨_,_,c,wN vl,wN (by rw[HS.out];rfl),rfl,Q.out⟩
 case round=>
  obtain⟨left,K,k,r,N,rfl,L⟩:=hrel;have o:=wN L;have O:=r.out;have a0:k<=2000:=by have:=HL.out left;have:=N.out;have:=F.out;have:=I.out;omega
  clear vl lY LZ X c2 c3 n L
  go_wp2_with (first
   |(at_next;refine wpList_next_ranges _ rfl _ rfl 3 iKeyed hdr (J Y) id (fun a3 kl V=>by obtain⟨x,e,_⟩:=Maps.keyOf_i64 underlying3 V;exact⟨x,e⟩) (fun v _ _=>⟨v,rfl⟩) bp w.heap.size m _ _ _ rfl O ?_ ?_)
   |go_in)
  . intro rP qn
    have he:k=R:=N.out.symm.trans (T.out left qn);subst he;clear O;go_wp2;go_ret;exact⟨rfl,o.out⟩
  . intro x u kl y1 y2 w1 l sE y tf P sF A s IK a1
    obtain⟨x',e1,rfl,U⟩:=Maps.keyOf_i64 underlying3 sE;cases e1
    have f:AB w.heap.size w w1:=o.out.grown s o.out.size (fun j hj=>by cases hj;exact AE _);have g:=HB.out w1 f;have t:x∈pk:=by
     have:=Maps.has_true_of_atKey P;rw[HH.out x] at this;exact Ba this
    have B:=cN HN.out t y (ek:=ek);have c2:=g.c2;have z:=g.me.look_ok U;obtain⟨uu,su⟩:=nm ((if x∈ek then eg x else Aw H 0 0));rw[<- su] at z;have a:=wN sF;have G:=wN A;have E:=wN f;have a2:Y.wrap ((k:Int)+1)=(k:Int)+1:=Bz _ Aa;by_cases C:x∈ek
    . rw[AK C] at z
      rw[AG C] at B;have p:=wN B;clear B O sF A f g sE y tf P s IK su t C U;go_wp2;go_roundw
      case rel=>exact⟨_,l,k,a,wN (by rw[p.out];exact N.out),rfl,E.out⟩
      case measure=>rw[a.out.left_eq,r.out.left_eq];exact G.out
    . rw[AM C] at z
      rw[AJ C] at B;have p:=wN B;clear B O sF A f g sE y tf P s IK su t C U;go_wp2;go_roundw
      case rel=>exact⟨_,l,k+1,a,wN (by rw[p.out,<- N.out];omega),rfl,E.out⟩
      case measure=>rw[a.out.left_eq,r.out.left_eq];exact G.out
end
def wB:Obj:=Ay #[J .u32 0,Aw H 0 0,Aw H 0 0] 215
def Ws{w:C}{g:Nat}{a b c:AA}(h:w.heap[g]? =S (Ay #[a,b,c] 215 (0,0))):
 (w.cell? ⟨g,0,H⟩=S a/\w.cell? ⟨g,1,H⟩=S b/\w.cell? ⟨g,2,H⟩=S c)/\w.frozen? ⟨g,0,H⟩=AN/\w.frozen? ⟨g,1,H⟩=AN/\w.frozen? ⟨g,2,H⟩=AN:=by
 refine⟨⟨?_,?_,?_⟩,?_,?_,?_⟩
 . rw[AD _ _ _ _ _ _ h];rfl
 . rw[AD _ _ _ _ _ _ h];rfl
 . rw[AD _ _ _ _ _ _ h];rfl
 all_goals simp[C.frozen?,h]
def jE{W:C}{b g:Nat}{x y u0 u1 u2:AA}(h:W.cell? ⟨b,1,H⟩=S x/\W.cell? ⟨b,2,H⟩=S y)(a:b≠g):
 (((W.setCell ⟨g,0,H⟩ u0).setCell ⟨g,1,H⟩ u1).setCell ⟨g,2,H⟩ u2).cell? ⟨b,1,H⟩=S x/\(((W.setCell ⟨g,0,H⟩ u0).setCell ⟨g,1,H⟩ u1).setCell ⟨g,2,H⟩ u2).cell? ⟨b,2,H⟩=S y:=by
 have e:(((W.setCell ⟨g,0,H⟩ u0).setCell ⟨g,1,H⟩ u1).setCell ⟨g,2,H⟩ u2).heap[b]? =W.heap[b]? :=by
  rw[AZ _ ⟨g,2,H⟩ _ _ a,AZ _ ⟨g,1,H⟩ _ _ a,AZ _ ⟨g,0,H⟩ _ _ a]
 exact⟨(Bi e).trans h.1,(Bi e).trans h.2⟩
def Wrote.and{a b c:C}{g:Nat}(h:Wrote a b g)(k:Wrote b c g):Wrote a c g:=⟨k.1.trans h.1,k.2.1.trans h.2.1,k.2.2.1.trans h.2.2.1,k.2.2.2.1.trans h.2.2.2.1,fun i d=>(k.2.2.2.2 i d).trans (h.2.2.2.2 i d)⟩
def rc(W:C)(g:Nat)(u0 u1 u2:AA):Wrote W (((W.setCell ⟨g,0,H⟩ u0).setCell ⟨g,1,H⟩ u1).setCell ⟨g,2,H⟩ u2) g:=((Wrote.setCell W g 0 u0).and (Wrote.setCell _ g 1 u1)).and (Wrote.setCell _ g 2 u2)
def t7{a:Nat}{w1 W:C}{g:Nat}{q:Int}{no:Option Addr}{L nc:Nat}{l:Ab}{j k m:AA}(HS1:a=w1.heap.size)(hb:AB a w1 W)(f:W.heap[g]? =S (Ay #[j,k,m] 215 (0,0)))(hi:IR W a (Aw no L nc) l)(h:a<=g):
 ∃ d c b,AA.pointer (S ⟨g,0,H⟩)=Ax (S ⟨d,0,H⟩)/\a<=d/\AB a w1 (((W.setCell ⟨g,0,H⟩ (J .u32 q)).setCell ⟨g,1,H⟩ (Aw no L nc)).setCell ⟨g,2,H⟩ (Aw H 0 0))/\
   (((W.setCell ⟨g,0,H⟩ (J .u32 q)).setCell ⟨g,1,H⟩ (Aw no L nc)).setCell ⟨g,2,H⟩ (Aw H 0 0)).heap[d]? =S (Ay #[J .u32 q,Aw c L b,Aw H 0 0] 215 (0,0))/\
   IR (((W.setCell ⟨g,0,H⟩ (J .u32 q)).setCell ⟨g,1,H⟩ (Aw no L nc)).setCell ⟨g,2,H⟩ (Aw H 0 0)) a (Aw c L b) l:=by
 have i:=rc W g (J .u32 q) (Aw no L nc) (Aw H 0 0);refine⟨g,no,nc,rfl,h,hb.trans (i.below h),?_,hi.wrote i f Af⟩;have n:=Bk W g 0 _ _ (J .u32 q) f;have o:=Bk _ g 1 _ _ (Aw no L nc) n;exact Bk _ g 2 _ _ (Aw H 0 0) o
def OI{c:Array BK}{o:BK}{a:Act}{w:C}{K:Act->C->Prop}{Q:Exit->Act->C->Prop}{E:Prop}(j:o.guard=H)(s y:Operand)(T d:Cn)
 (k:o.op=.call { callee:=.builtin .append,args:=#[s,y],argTypes:=#[T,T] }) (b:o.type=d) (u v f:AA) (g:C) (l:a.eval s=u) (m:a.eval y=v) (i:(Builtin.append_ #[T,T] d #[u,v]).run Aq w=.ok f g)
 (h:K (a.put o.dst f) g):if Region.wanted o (yielded c a.tmps)=AQ then BK.wp Aq o a w K Q else E:=by
 rw[AG (by simp[Region.wanted,j])];unfold BK.wp execOp;simp only[k,b,resolve,invoke,builtin,Dm,Sem.run_pure,Result.andThen_ok,Fe,DT,II,l,m,i];exact h
def Sv{w w':C}{B g:Nat}{v:AA}{L:Ae}(h:BB2 w B 0 v L)(k:Wrote w w' g){cur:Array AA}(f:w.heap[g]? =S (Ay cur 215 (0,0))):BB2 w' B 0 v L:=by
 obtain⟨p,o,a,i⟩:=h;refine⟨p,o,fun j n=>(a j n).wrote k (A7 _) f Af,Fo i fun r a=>k.2.2.2.2 r fun e=>?_⟩;rcases i.2 with⟨c,_⟩| ⟨m,l,d,c,_,b,_⟩
 . rw[c] at a;simp[AA.ownBlock] at a
 . rw[c] at a
   obtain rfl:m=r:=by simpa [AA.ownBlock] using a
   rw[e,f] at b
   injection b with b
   injection b with _ e2
   exact absurd e2 Af
def gW{w:C}{B:Nat}{v:AA}{l:Ab}(h:IR w B v l):IR w 0 v l:=⟨h.1,h.2.imp id fun⟨g,a,b,c,_,r⟩=>⟨g,a,b,c,A7 _,r⟩⟩
def YK{w:C}{p:Nat}{o:Obj}(h:w.heap[p]? =S o)(a:Obj):(w.alloc a).heap[p]? =S o:=(AB.block (AF w a) p (Au.1 h).1).trans h
def pW{w:C}{B:Nat}{v:AA}{l:Ab}(h:IR w B v l){r:Nat}(a:v.ownBlock=S r):r<w.heap.size/\∃ cur,w.heap[r]? =S (Ay cur 3 (0,0)):=by
 rcases h.2 with⟨b,_⟩| ⟨g,d,cur,b,_,c,_⟩
 . rw[b] at a;simp[AA.ownBlock] at a
 . rw[b] at a
   obtain rfl:g=r:=by simpa [AA.ownBlock] using a
   exact⟨(Au.1 c).1,cur,c⟩
section
variable {w:C}{Pd:Nat->Prop}{b be bp:Nat}{d:AA}{q:Int}{ek:Ab}{eg:Int->AA}{ev:Int->Ab}{pk:Ab}{pg:Int->AA}{pv:Int->Ab}{wi:Bool}{ds:DS}
def fp(h:SMem w Pd b be bp d q ek eg ev pk pg pv wi ds)(Xb:ek.length<=37):AH Aq 129 #[Ax (S ⟨b,0,H⟩)] w fun e w'=>
 ∃ vN vD,e=Av (BS #[J .u32 q,vN,vD])/\IR w' 0 vN (BW ek)/\BBR w' 0 vD ((BW ek).map ev)/\AB w.heap.size w w':=by
 obtain⟨a,a8⟩:=nm (w.alloc wB);have a1:AB w.heap.size w a:=by rw[a8];exact AF w _
 have h1:=h.below a1;have F:=wN (fun(W:C) (c:AB a.heap.size a W)=>show W.cell? ⟨b,1,H⟩=S (J .u32 q)/\W.cell? ⟨b,2,H⟩=S (.map (S be)) from⟨(h1.below c).c1,(h1.below c).c2⟩);have KK:=wN (fun(W:C) (c:AB a.heap.size a W)=>(iB be W).mono (R':=fun e A=>∃ p,e=Av (.func (.func 199) #[] #[Ax (S ⟨p,0,H⟩)])/\A.heap[p]? =S (Ay #[.map (S be)] 107 (0,0))/\AB a.heap.size a A/\AB W.heap.size W A) (fun e A ⟨he,D⟩=>by
  subst D;exact⟨_,he,AC W _,c.trans ((AF W _).mono c.size),AF W _⟩))
 have KS:=wN (fun(W:C) (p:Nat) (c:AB a.heap.size a W) (hp:W.heap[p]? =S (Ay #[.map (S be)] 107 (0,0)))=>(U9 (h1.below c).me hp Aa).mono (R':=fun e A=>∃ no y,e=Av (Aw no (BW ek).length y)/\IR A a.heap.size (Aw no (BW ek).length y) (BW ek)/\AB a.heap.size a A/\AB W.heap.size W A) (fun e A ⟨v,he,hi,D⟩=>by
  obtain⟨_,no,y,rfl,_⟩:=hi.isc;exact⟨no,y,he,⟨hi.1,hi.2.imp id fun⟨g,e3,a0,hv,hg,r⟩=>⟨g,e3,a0,hv,AU c.size hg,r⟩⟩,c.trans (D.mono c.size),D⟩))
 have f:=wN (fun(W:C) (o:Obj) (c:AB a.heap.size a W)=>show AB a.heap.size a (W.alloc o) from c.trans ((AF W _).mono c.size));have b0:AB a.heap.size a a.drew:=Bd (AP _ _) 1;have X:=wN a8;have b2:=wN a1;clear h a8 a1;go_enter func129,ntmps129;go_upto_region 1 with(fail)
 rw[show w.alloc (Ay #[J .u32 0,Aw H 0 0,Aw H 0 0] 215)=a from X.out.symm];obtain⟨N,FV⟩:=nm a.heap.size;rw[<- FV] at F KK KS f b0;obtain⟨L,hL⟩:=nm ((BW ek).length);rw[<- hL] at KS;have s0:=F.out _ b0;have bA:AB N a (a.alloc (Ay #[J .u32 0,Aw H 0 0,Aw H 0 0] 215)).drew:=Bd (f.out _ _ (by rw[FV];exact AP _ _)) 1;have sA:=F.out _ bA;have hA:(a.alloc (Ay #[J .u32 0,Aw H 0 0,Aw H 0 0] 215)).drew.heap[a.heap.size]? =S (Ay #[J .u32 0,Aw H 0 0,Aw H 0 0] 215 (0,0)):=AC a _;have l:=wN FV;have HL:=wN hL;have U:=wN h1.bl;have b7:=wN (fun(W:C) (c:AB a.heap.size a W)=>h1.below c);clear FV hL h1
 go_cut [3] from 6 (fun t3 wc=>∃ g no y,t3=Ax (S ⟨g,0,H⟩)/\N<=g/\AB N a wc/\wc.heap[g]? =S (Ay #[J .u32 q,Aw no L y,Aw H 0 0] 215 (0,0))/\IR wc N (Aw no L y) (BW ek))
 case first=>
  go_region_held3 (fun W=>W.cell? ⟨b,1,H⟩=S (J .u32 q)/\W.cell? ⟨b,2,H⟩=S (.map (S be))) (first|with_reducible exact jE (F.out _ G) e4|with_reducible exact jE (F.out _ G) e5|with_reducible exact jE (F.out _ (f.out _ _ G)) e6|with_reducible exact F.out _ G|with_reducible exact F.out _ (f.out _ _ G)|with_reducible exact F.out _ bK|with_reducible exact F.out _ (f.out _ _ bK)|with_reducible exact sA|with_reducible exact s0) (first
   |(go_at_call 171;(with_reducible refine(KK.out _ (by first|with_reducible exact b0|with_reducible exact bA)).mono ?_);rintro e A ⟨p,rfl,hp,bK,e0⟩
     try have yK:=(by with_reducible exact JR hA e0))
   |(go_at_call 170;(with_reducible refine(KS.out _ _ (by first|with_reducible exact bK|with_reducible exact f.out _ _ bK) (by first|with_reducible exact hp|with_reducible exact YK hp _)).mono ?_);rintro e ws ⟨no,y,rfl,m,G,c6⟩
     first
      |(have xS:=(by with_reducible exact JR yK c6);obtain⟨⟨x0,x1,x2⟩,y0,y1,Q⟩:=Ws xS)
      |(have xS:ws.heap[A.heap.size]? =S (Ay #[J .u32 0,Aw H 0 0,Aw H 0 0] 215):=(by with_reducible exact JR (AC A _) c6)
        obtain⟨⟨x0,x1,x2⟩,y0,y1,Q⟩:=Ws xS)
      |skip
     have e4:b≠a.heap.size:=(by have:=U.out;omega);have e5:b≠A.heap.size:=(by have:=U.out;have:=bK.size;omega);have e6:b≠ws.heap.size:=by have:=U.out;have:=G.size;omega))
  . go_wp2_with fail
    go_meet
    exact⟨ws.heap.size,no,y,rfl,by have:=l.out;have:=G.size;omega,f.out _ _ G,AC ws _,m.below (AF ws _)⟩
  . go_wp2_with fail
    go_meet
    exact t7 (HS1:=l.out) G xS m (by have:=l.out;have:=bK.size;omega)
  . go_wp2_with fail
    go_meet
    exact t7 (HS1:=l.out) G xS m (by have:=l.out;omega)
 case rest=>
  obtain⟨g,no,y,rfl,WP,Q3,vm,m⟩:=hcut;clear s0 bA sA hA b0;obtain⟨s,a5⟩:=nm wc.heap.size;have c7:g<s:=by rw[a5];exact(Au.1 vm).1
  obtain⟨⟨y0,y1,Q⟩,_⟩:=Ws vm;have c0:=wN (fun(W:C) (c:AB N a W)=>b7.out W (l.out ▸ c));have b3:=wN (fun(W:C) (D:∀ j,j<s->j≠g->W.heap[j]? =wc.heap[j]?)=>show IR W N (Aw no L y) (BW ek) from Fo m fun r hr=>D r (by rw[a5];exact(pW m hr).1) (fun e=>by
   obtain⟨a0,hh⟩:=(pW m hr).2;rw[e,vm] at hh
   injection hh with hh
   injection hh with _ e2
   exact absurd e2 Af))
  have I:=wN c7;have b5:=wN WP;have d9:Hid (∀ W,AB N a W->W.heap[w.heap.size]? =S (Ay #[J .u32 0,Aw H 0 0,Aw H 0 0] 215 (0,0))):=wN (fun W c=>by
   have e1:a.heap[w.heap.size]? =S wB:=(by rw[X.out];exact AC w wB);rw[c.block _ (by rw[l.out,X.out];simp),e1];rfl)
  have c3:Hid (wc.heap[g]? =S (Ay #[J .u32 q,Aw no L y,Aw H 0 0] 215 (0,0))):=wN vm;have b8:Hid (BB2 wc s 0 (Aw H 0 0) []):=wN ⟨[],rfl,fun j hj=>absurd hj (Bm _),Dt _ _ _ _⟩;have b9:=wN Q3;have c4:Hid (s<=wc.heap.size):=wN Aa;have b4:=wN (fun k (D:k<L)=>show(BW ek).getD k 0∈ek/\(BW ek).take (k+1)=(BW ek).take k ++ [(BW ek).getD k 0] from by
   rw[HL.out] at D;refine⟨?_,?_⟩
   . rw[Az,AX D];exact mem_sortN.1 (Br D)
   . rw[List.take_add_one,Az,AX D];rfl)
  have O:Hid (L<=37):=wN (by rw[HL.out,G9];exact Xb);clear WP Q3 vm m c7 a5 Xb F KK KS f;go_wp2;go_loopw [20] (fun i wr=>∃ (k:Nat) (vD:AA),k<=L/\i=J Y k/\Hid (wr.heap[g]? =S (Ay #[J .u32 q,Aw no L y,vD] 215 (0,0)))/\Hid (BB2 wr s 0 vD (((BW ek).take k).map ev))/\Hid (AB N a wr)/\Hid (s<=wr.heap.size/\∀ j,j<s->j≠g->wr.heap[j]? =wc.heap[j]?)) (fun i _=>L-(intOf i).toNat)
  case atStart=>exact⟨0,Aw H 0 0,Aa,rfl,c3,b8,b9,wN ⟨c4.out,fun _ _ _=>rfl⟩⟩
  case round=>
   obtain⟨k,vD,D,rfl,HG,HB,HE,K⟩:=hrel;clear c3 b8 b9 c4 y0 y1 Q;obtain⟨⟨y0,y1,Q⟩,f0,f1,f2⟩:=Ws HG.out;obtain⟨vo,vc,rfl,_⟩:=(HB.out.lower (A7 _)).bbr.sl.shape;by_cases c9:k<L
   . obtain⟨hx,gG⟩:=b4.out k c9
     have hm:=c0.out wr HE.out;obtain⟨f4,f3,e1,q1⟩:=(b3.out wr K.out.2).sl.open';obtain⟨rfl,rfl⟩:=And.intro (Be e1).1 (Be e1).2.2;rw[<- HL.out] at q1;obtain⟨b1,o1,rfl,_,c1⟩:=q1 Aa;have z1:=c1 k c9;have c2:=hm.c2;have a4:=hm.me.look hx;obtain⟨gx,cx,a0,hv,_⟩:=(hm.re _ hx).row;have T:Hid (BElt wr.drew 0 (eg ((BW ek).getD k 0)) (ev ((BW ek).getD k 0))):=wN ((hm.re _ hx).1.elt.below (Bd (AP _ _) 1));rw[hv] at a4 T;obtain⟨x,Uq⟩:=nm ((BW ek).getD k 0);rw[<- Uq] at z1 a4 T gG;have d8:=wN gG;have d7:=wN (HB.out.below (AP _ wr).drew);have b6:Hid ((((BW ek).take k).map ev).length<=100000):=wN (by rw[Bn,AV];have:=O.out;omega);have d0:Hid (s<=wr.drew.heap.size):=wN K.out.1;have e9:(k:Int)<(L:Int):=Aa;obtain⟨W1,M⟩:=nm ((wr.alloc (Ay #[Aw (S ⟨gx,0,H⟩) 256 cx] 77)).drew);have z:AB wr.heap.size wr W1:=(by rw[M];exact Bd (AF wr _) 1);have P:BB2 W1 s 0 (Aw (S ⟨wr.heap.size,0,H⟩) 1 1) [ev x]:=(by rw[M];exact TN (B:=s) T.out d0.out);obtain⟨v5,w5,bi,a6,a3,_⟩:=H4 95 underlying95 W1 s 0 (A7 _) 95 _ _ (HB.out.below z) (Aw (S ⟨wr.heap.size,0,H⟩) 1 1) [ev x] (BBR.be (BB2.bbr (P.lower (A7 _)))) (by have:=b6.out;simp only[List.length_singleton];omega) (AU K.out.1 z.size);have V:=(a3.block g I.out).trans ((z.block g (AL I.out K.out.1)).trans HG.out);obtain⟨⟨z0,f5,z2⟩,g0,g1,g2⟩:=Ws V;obtain⟨u,t,rfl,_⟩:=(a6.lower (A7 _)).bbr.sl.shape;have c5:=wN a6;have R:=wN (show AB s wr w5 from(z.mono K.out.1).trans a3);have E:=wN V;have a2:=(z.cell (p:=⟨g,2,H⟩) (AL I.out K.out.1)).trans Q;have d2:=(show wr.drew.cell? ⟨g,2,H⟩=wr.cell? ⟨g,2,H⟩ from rfl).trans Q;have d3:wr.drew.cell? ⟨b,2,H⟩=S (.map (S be)):=c2;have c8:=(c0.out wr.drew (Bd HE.out 1)).me.look hx;rw[hv,<- Uq] at c8;rw[M] at bi a2;clear a6 a3 z P M V b6 hx gG hm e1 q1 c1 hv Uq a4;generalize ((((BW ek).take k).map ev) ++ [ev x]).length=Z at c5 bi;generalize (((BW ek).take k).map ev).length=K1 at HB d7 bi a2 d2 Q HG z2 E;have n:=Wrote.setCell w5 g 2 (Aw u Z t);have d1:=wN (Bk w5 g 2 _ _ (Aw u Z t) E.out);have d4:Hid (BB2 (w5.setCell ⟨g,2,H⟩ (Aw u Z t)) s 0 (Aw u Z t) (((BW ek).take (k+1)).map ev)):=wN (by
      rw[d8.out,Cw];exact Sv c5.out n E.out)
     have d5:Hid (AB N a (w5.setCell ⟨g,2,H⟩ (Aw u Z t))):=wN ((HE.out.trans (R.out.mono (by have:=b5.out;have:=I.out;omega))).trans (n.below b5.out));have d6:Hid (s<=(w5.setCell ⟨g,2,H⟩ (Aw u Z t)).heap.size/\∀ j,j<s->j≠g->(w5.setCell ⟨g,2,H⟩ (Aw u Z t)).heap[j]? =wc.heap[j]?):=wN ⟨by rw[n.2.2.2.1];exact AU K.out.1 R.out.size,fun j hj hn=>(n.2.2.2.2 j hn).trans ((R.out.block j hj).trans (K.out.2 j hj hn))⟩;clear n;go_wp2
     go_region_law (refine OI Aj (.tmp 25) (.tmp 32) 95 95 Aj Aj _ _ _ _ Aj Aj bi ?_)
     all_goals
      have e8:L<=37:=O.out;go_wp2;go_roundw
      case rel=>exact⟨k+1,_,Aa,by go_num,d1,d4,d5,d6⟩
      case measure=>simp[intOf];omega
   . obtain rfl:k=L:=by omega
     have a7:=d9.out wr HE.out;generalize (((BW ek).take k).map ev).length=K1 at HB Q HG;go_wp2_with (with_reducible refine BO rfl 215 EH (.tmp 2) (.tmp 36) rfl w.heap.size rfl _ _ _ _ _ _ rfl rfl rfl rfl _ a7 ?_;intro w9 a9 e7)
     refine A9 (v:=BS #[J .u32 q,Aw no k y,Aw vo K1 vc]) (results_cell_row rfl _ _ w.heap.size _ _ (0,0) _ rfl e7 underlying215 rfl (by rw[EH];rfl)) rfl ⟨_,_,rfl,?_,?_,?_⟩
     . exact gW ((b3.out wr K.out.2).wrote a9 a7 Af)
     . have e1:(BW ek).take k=BW ek:=A2 (by rw[HL.out];exact AE _)
       have h9:=Sv HB.out a9 a7;rw[e1] at h9;exact(h9.lower (A7 _)).bbr
     . exact b2.out.trans (((HE.out.mono (by rw[l.out];exact b2.out.size))).trans (a9.below (AE _)))
end
end
section
open Go.RowKit
def pP{t:DS}(a:t.ok=AQ)(b:t.dn=AN):t.pay.dn=AN:=by
 have:WX t.fu t.le t.dn=AN:=by
  unfold DS.ok lW at a;unfold WX
  revert a
  rw[b];cases t.fu <;> simp
 exact this
def SN:∀ (A:List PA) (t:DS),(BP A t).1=0->t.dn=AN->(BP A t).2.dn=AN
 |[],_,_,h=>h
 |a :: A,t,h0,te=>by
  rw[Et] at h0 |-
  cases b:t.ok
  . rw[b,AJ CP] at h0
    exact absurd (show(2:Int)=0 from h0) Af
  . rw[b,AG rfl] at h0
    rw[AG rfl];refine SN A _ h0 ?_;have:=pP b te;cases a <;> exact this
def Lst.flush{n:Nat}{s:DS}{G:Ae}(h:Lst n s G)(l:43<=n):Lst n s.flush G:=by
 obtain⟨d,f,g⟩:=h;have j:s.flush.F.length=n:=by show s.vis.length=n;rw[DS.vis_length];exact d
 refine⟨j,?_,?_⟩
 . rw[DS.flush_vis];exact f
 . rcases g with⟨q,N,D,Z,a,b,c,e⟩| ⟨a,b⟩
   . have k:Z.length=n:=b.1.symm.trans d
     exact A4 ⟨q,N,D,Z,a,b.home a.1 (by rw[k];exact a.far) Aa c,fun x i=>(by cases i),e⟩
   . refine A8 ⟨?_,rfl⟩
     show InvN s.vis G
     rw[Kx b];exact a
def setA(q:Int)(N:Ab)(D:Ae):List PA:=Dq q (Eg q N D) ++ (Ci N D ++ [.f])
def oZ{n:Nat}{N:Ab}{D:Ae}(a:okT n N D)(q:Int):(setA q N D).length<=100:=by
 obtain⟨b,c,_⟩:=EM a.1;unfold setA Dq Eg Ci Cq;simp only[AO,Bn,List.length_range,BJ,List.length_nil];omega
def bE{n:Nat}{s:DS}{G:Ae}(h:Lst n s G)(u:43<=n)(H:s.U=[])(hd:s.dn=AN){q:Int}{N:Ab}{D:Ae}(A:okT n N D)(J:0<=q/\q<4294967296):
 let r:=BP (setA q N D) s
 (r.1=0->r.2.dn=AN/\r.2.U=[]/\Lst n r.2 (Cl (Cq N D) G))/\(r.1=2->s.fu=AQ/\QH n r.2 [G,Cl (Cq N D) G]):=by
 intro r;have g:=FD (setA q N D) s;have K:=oZ A q;have v:r.2.F.length=n:=g.1.trans h.1;have d:r.2.U.length<=1000:=by
  have c:r.2.U.length<=s.U.length+(setA q N D).length:=g.2;rw[H] at c;simp at c;omega
 have x:r.1=2->s.fu=AQ:=fun c=>by
  cases I:s.fu
  . have:=(Kz (setA q N D) s I hd).1
    have i:(BP (setA q N D) s).1=2:=c;rw[this] at i;cases i
  . rfl
 have E:=h.write u A J;have a:r=if (BP (Dq q (Eg q N D)) s).1=0 then BP (Ci N D ++ [.f]) (BP (Dq q (Eg q N D)) s).2 else BP (Dq q (Eg q N D)) s:=EE _ _ _
 by_cases l:(BP (Dq q (Eg q N D)) s).1=0
 . rw[AG l] at a
   have C:=E.2 l;have m:=SN _ _ l hd;generalize (BP (Dq q (Eg q N D)) s).2=w at a C m;obtain⟨L,M⟩:=C.home u A;have b:=EE (Ci N D) [.f] w;by_cases c:(BP (Ci N D) w).1=0
   . rw[AG c] at b
     have B:=M c;have o:=SN _ _ c m;generalize (BP (Ci N D) w).2=t at b B o;rw[b] at a;cases j:t.ok
     . have y:BP [.f] t=(2,t.pay):=by rw[Et,j,AJ Af]
       rw[y] at a;rw[a];refine⟨fun e=>absurd (show(2:Int)=0 from e) Af,fun e=>⟨x (by rw[a]),by rw[a] at d;exact d,by rw[a] at v;exact v,fun p=>⟨_,Ai,B.pay.crash u (bH p)⟩⟩⟩
     . have y:BP [.f] t=(0,t.flush):=by rw[Et,j,AG rfl];rfl
       rw[y] at a;rw[a];exact⟨fun _=>⟨pP j o,rfl,B.flush u⟩,fun e=>absurd (show(0:Int)=2 from e) Af⟩
   . rw[AJ c] at b
     rw[b] at a;have i:=(FA (Ci N D) w).resolve_left c;refine⟨fun e=>absurd (by rw[a] at e;exact e) c,fun e=>⟨x e,d,v,fun p=>⟨Cl (Cq N D) G,Ai,?_⟩⟩⟩;rw[a];exact L (bH p)
 . rw[AJ l] at a
   have z:=(FA (Dq q (Eg q N D)) s).resolve_left l;refine⟨fun e=>absurd (by rw[a] at e;exact e) l,fun e=>⟨x e,d,v,fun p=>?_⟩⟩;rw[a];rcases E.1 (bH p) z with k|k
   . exact⟨_,Ai,k⟩
   . exact⟨_,Ai,k⟩
def TS{l:Ab}(j:Nat)(a:j<l.length):l.getD j 0∈l:=by
 rw[Az,AX a];exact Br a
def rA{n:Nat}{ek:Ab}{g:Int->Ab}(q:ek.Nodup)(p:ek.length<=37)(h:∀ x∈ek,sX n x)(r:n<=768)(hv:∀ x∈ek,(g x).length=256):okT n (BW ek) ((BW ek).map g):=by
 have a:∀ j,j<(BW ek).length->(BW ek).getD j 0∈ek:=fun j d=>mem_sortN.1 (TS j d)
 have o:∀ j,j<(BW ek).length->((BW ek).map g).getD j []=g ((BW ek).getD j 0):=fun j d=>by
  simp[d]
 refine⟨?_,?_,?_⟩
 . unfold Gc
   rw[AK (by rw[G9];exact p),AK (by rw[Bn]),AS,AS];refine(M9 _ _ _).2 fun i c=>?_
   have m:=a i c;obtain⟨s,t,_⟩:=h _ m;unfold Za TZ;rw[AK Aa,o i c,AK (hv _ m),AS,AS];refine(Pc _ i c).2 fun j d e=>?_
   have l:=Vu q;have f:j<(BW ek).length:=Aa;rw[Az,Az,AX c,AX f] at e;exact(List.pairwise_iff_getElem.1 l) j i f c d e
 . exact(Ki _ _).2 fun k b=>(h _ (a k b)).2.1
 . refine(aA _).2 fun k b e=>?_
   have:=(h _ (a k b)).2.2;unfold D7 at this;omega
def rk{n:Nat}{ek:Ab}{d:Int->Ab}{B I:Ae}(h:∀ x∈ek,sX n x)(q:B.length=n)(r:I.length=n)(hv:∀ i,D7 i->i<n->I.getD i []=if (i:Int)∈ek then d i else B.getD i []):
 eqO (Cl (Cq (BW ek) ((BW ek).map d)) B) I:=by
 have o:∀ j,j<(BW ek).length->((BW ek).map d).getD j []=d ((BW ek).getD j 0):=fun j c=>by
  simp[c]
 refine⟨by rw[Ca];omega,fun i p s=>?_⟩;rw[hv i p Aa];by_cases a:(i:Int)∈ek
 . rw[AG a]
   refine IT _ B i _ Aa (fun x g f=>?_) ?_
   . unfold Cq at g
     obtain⟨j,c,rfl⟩:=Ce.1 g;have b:=Bq.1 c;have l:=(h _ (mem_sortN.1 (TS j b))).1;have:(BW ek).getD j 0=(i:Int):=by
      have m:((BW ek).getD j 0).toNat=i:=f;omega
     show((BW ek).map d).getD j []=d i
     rw[o j b,this]
   . obtain⟨j,c,e⟩:=CC (mem_sortN.2 a)
     refine⟨(((BW ek).getD j 0).toNat,((BW ek).map d).getD j []),?_,?_⟩
     . unfold Cq
       exact Ce.2 ⟨j,Bq.2 c,rfl⟩
     . show((BW ek).getD j 0).toNat=i
       rw[Az,AX c];show((BW ek)[j]).toNat=i
       rw[e];rfl
 . rw[AJ a]
   refine Do _ B i fun x g f=>?_
   unfold Cq at g;obtain⟨j,c,rfl⟩:=Ce.1 g;have b:=Bq.1 c;have k:=mem_sortN.1 (TS j b);have l:=(h _ k).1;have m:((BW ek).getD j 0).toNat=i:=f;exact a (by rw[show(i:Int)=(BW ek).getD j 0 from Aa];exact k)
structure Stg (w:C) (Pd:Nat->Prop) (b be bp:Nat) (d:AA) (q:Int) (ek:Ab) (eg:Int->AA) (ev:Int->Ab) (pk:Ab) (pg:Int->AA) (pv:Int->Ab) (wi:Bool) (g:Nat) (vN vD:AA) (N:Ab) (D:Ae) (W:C) (P':Nat->Prop) (s:DS):Prop where
 sm:SMem W P' b be bp d q ek eg ev pk pg pv wi s
 tx:TxVa W P' (BS #[J .u32 q,vN,vD]) q N D
 box:W.heap[g]? =S (Ay #[J .u32 q,vN,vD] 215 (0,0))
 chg:Chg Pd P' w W
def Mq:Obj:=Ay #[Ax H,J .u32 0,.map H,.map H,AY AN,AY AQ] 109 (0,0)
section
variable {w:C}{Pd:Nat->Prop}{b be bp:Nat}{d:AA}{q:Int}{ek:Ab}{eg:Int->AA}{ev:Int->Ab}{pk:Ab}{pg:Int->AA}{pv:Int->Ab}{wi:Bool}{g:Nat}{vN vD:AA}{N:Ab}{D:Ae}{W:C}{P':Nat->Prop}{s:DS}
def Stg.below(h:Stg w Pd b be bp d q ek eg ev pk pg pv wi g vN vD N D W P' s){a:C}(hb:AB W.heap.size W a):Stg w Pd b be bp d q ek eg ev pk pg pv wi g vN vD N D a P' s:=
 ⟨h.sm.below hb,h.tx.chg (Chg.of_below hb),(hb.block g (Au.1 h.box).1).trans h.box,h.chg.trans (Chg.of_below hb)⟩
def Stg.step(h:Stg w Pd b be bp d q ek eg ev pk pg pv wi g vN vD N D W P' s){f:C}{a:Nat->Prop}{i:DS}(hd:Dk f a d i)(c:Chg P' a W f):Stg w Pd b be bp d q ek eg ev pk pg pv wi g vN vD N D f a i:=
 ⟨h.sm.disk hd c,h.tx.chg c,(c.keep g (Au.1 h.box).1 (h.sm.dk.not h.box Af Af Af)).1.trans h.box,h.chg.trans c⟩
def Stg.facts(h:Stg w Pd b be bp d q ek eg ev pk pg pv wi g vN vD N D W P' s):W.cell? ⟨b,0,H⟩=S d/\W.cell? ⟨g,0,H⟩=S (J .u32 q)/\W.cell? ⟨g,1,H⟩=S vN/\W.cell? ⟨g,2,H⟩=S vD:=⟨h.sm.c0,(Ws h.box).1.1,(Ws h.box).1.2.1,(Ws h.box).1.2.2⟩
def Stg.write(h:Stg w Pd b be bp d q ek eg ev pk pg pv wi g vN vD N D W P' s)(f:Gb s.F.length N D=AQ)(i:s.U.length<=900000):
 AH Aq 130 #[d,BS #[J .u32 q,vN,vD]] W fun e c=>e=Av (J Y (BP (Dq q (Eg q N D)) s).1)/\∃ a,Stg w Pd b be bp d q ek eg ev pk pg pv wi g vN vD N D c a (BP (Dq q (Eg q N D)) s).2:=
 (Yg h.sm.dk h.tx.v h.sm.q0.1 h.sm.q0.2 f i).mono fun e c ⟨he,a,k,j⟩=>⟨he,a,h.step k j⟩
def Stg.home(h:Stg w Pd b be bp d q ek eg ev pk pg pv wi g vN vD N D W P' s)(f:Gb s.F.length N D=AQ)(i:s.U.length<=900000):
 AH Aq 122 #[d,BS #[J .u32 q,vN,vD]] W fun e c=>e=Av (J Y (BP (Ci N D) s).1)/\∃ a,Stg w Pd b be bp d q ek eg ev pk pg pv wi g vN vD N D c a (BP (Ci N D) s).2:=
 (RL h.sm.dk h.tx f i).mono fun e c ⟨he,a,k,j⟩=>⟨he,a,h.step k j⟩
def Stg.flush(h:Stg w Pd b be bp d q ek eg ev pk pg pv wi g vN vD N D W P' s)(l:s.U.length<=900000):
 AH Aq 123 #[d] W fun e j=>e=Av (J Y (BP [.f] s).1)/\∃ a,Stg w Pd b be bp d q ek eg ev pk pg pv wi g vN vD N D j a (BP [.f] s).2:=
 (Tj h.sm.dk Aa).mono fun e j ⟨he,a,i,k⟩=>by
   rw[Et];cases c:s.ok
   . rw[c] at he i
     exact⟨he,a,h.step i k⟩
   . rw[c] at he i
     exact⟨he,a,h.step i k⟩
def Stg.over(h:Stg w Pd b be bp d q ek eg ev pk pg pv wi g vN vD N D W P' s):AH Aq 131 #[Ax (S ⟨b,0,H⟩),J Y 2] W fun e w'=>e=Av (J Y 2)/\
 ∃ a,w'.heap[b]? =S Mq/\Dk w' a d s/\(∀ k,a k->Pd k\/w.heap.size<=k)/\Ext (fun k=>Pd k\/k=b) w w':=
 (oP h.sm).mono fun e w' ⟨he,f,i⟩=>⟨he,P',i,h.sm.dk.same fun k c=>f.2.2.2.2 k fun e=>h.sm.nd (e ▸ c),fun k c=>Mf h.chg c,
   ((Ext.of_chg h.chg fun k c=>A4 c).trans (P2:=fun k=>k=b) (Ext.of_wrote f rfl) fun k _ e=>A8 e)⟩
def Stg.fresh(h:Stg w Pd b be bp d q ek eg ev pk pg pv wi g vN vD N D W P' s){o:Int}(P:0<=o/\o<4294967296):
 let w':=((W.setCell ⟨b,1,H⟩ (J .u32 o)).setCell ⟨b,2,H⟩ (.map (S W.heap.size))).alloc (.map #[] 0)
 ∃ j p B,SMem w' p b j bp d B [] eg ev pk pg pv wi s/\(w.heap.size<=j/\j<w'.heap.size)/\(∀ k,p k->Pd k\/w.heap.size<=k)/\Ext (fun k=>Pd k\/k=b) w w':=by
 intro w';obtain⟨n,c⟩:=nm ((W.setCell ⟨b,1,H⟩ (J .u32 o)).setCell ⟨b,2,H⟩ (.map (S W.heap.size)));have m:w'=n.alloc (.map #[] 0):=by rw[c]
 have v:n.heap.size=W.heap.size:=by rw[c];simp[C.setCell]
 have f:Wrote W n b:=by rw[c];exact(Wrote.setCell W b 1 _).and (Wrote.setCell _ b 2 _)
 have a:AB n.heap.size n w':=by rw[m];exact AF n _
 have y:=h.sm.bl;have L:=Bk W b 1 _ _ (J .u32 o) h.sm.hb;have F:=Bk _ b 2 _ _ (.map (S W.heap.size)) L;rw[<- c] at F;have M:=(a.block b (by rw[v];exact y)).trans F;have E:w'.heap.size=W.heap.size+1:=by rw[m];simp[v]
 have i:∀ k,k<W.heap.size->k≠b->w'.heap[k]? =W.heap[k]? :=fun k z A=>(a.block k (by rw[v];exact z)).trans (f.2.2.2.2 k A)
 have O:Mp w' W.heap.size [] eg:=by
  have G:=Mp.made n eg;rw[v,<- m] at G;exact G
 have l:=h.sm.mp.lt;have t:Ext (fun k=>Pd k\/k=b) w w':=((Ext.of_chg h.chg fun k i=>A4 i).trans (P2:=fun k=>k=b) ⟨a.os.trans f.1,a.tape.trans f.2.1,a.output.trans f.2.2.1,by rw[E];omega,fun k z A=>i k z A⟩ fun k _ e=>A8 e);refine⟨W.heap.size,P',o,⟨M,?_,P,O,?_,?_,fun x u=>absurd u Bu,?_⟩,⟨h.chg.size,by rw[E];omega⟩,fun k i=>Mf h.chg i,t⟩
 . exact h.sm.dk.same fun k I=>i k (h.sm.dk.lt k I) fun e=>h.sm.nd (e ▸ I)
 . exact h.sm.mp.keep (i bp l h.sm.nb.2)
 . exact fun e=>by rw[<- e] at l;exact Nat.lt_irrefl _ l
 . exact fun x u=>(h.sm.rp x u).keep fun r K=>i r ((h.sm.rp x u).lt K) ((h.sm.rp x u).ne K h.sm.hb Af)
end
def wC(w:C)(Pd:Nat->Prop)(b bp:Nat)(d:AA)(eg:Int->AA)(ev:Int->Ab)(pk:Ab)(pg:Int->AA)(pv:Int->Ab)(wi:Bool)(r:Int × DS)(e:Ending)(w':C):Prop:=
 (r.1=0/\e=Av (J Y 0)/\∃ c a f,SMem w' a b c bp d f [] eg ev pk pg pv wi r.2/\(w.heap.size<=c/\c<w'.heap.size)/\(∀ k,a k->Pd k\/w.heap.size<=k)/\Ext (fun k=>Pd k\/k=b) w w')\/
 (r.1=2/\e=Av (J Y 2)/\∃ a,w'.heap[b]? =S Mq/\Dk w' a d r.2/\(∀ k,a k->Pd k\/w.heap.size<=k)/\Ext (fun k=>Pd k\/k=b) w w')
section
variable {w:C}{Pd:Nat->Prop}{b be bp:Nat}{d:AA}{q:Int}{ek:Ab}{eg:Int->AA}{ev:Int->Ab}{pk:Ab}{pg:Int->AA}{pv:Int->Ab}{wi:Bool}{s:DS}
def XW(h:SMem w Pd b be bp d q ek eg ev pk pg pv wi s)(a6:0<ek.length)(Xb:ek.length<=37)(hB:Gb s.F.length (BW ek) ((BW ek).map ev)=AQ)(hU:s.U.length<=800000):
 AH Aq 86 #[Ax (S ⟨b,0,H⟩)] w (wC w Pd b bp d eg ev pk pg pv wi (BP (setA q (BW ek) ((BW ek).map ev)) s)):=by
 have KT:=wN (fp h Xb);obtain⟨N,hN⟩:=nm (BW ek);obtain⟨D,hD⟩:=nm (N.map ev);rw[<- hN,<- hD] at KT hB |-
 have JJ:N.length<=37/\D.length<=37:=by rw[hD,Bn,hN,G9];exact⟨Xb,Xb⟩
 have c2:=h.c2;have a1:=fun ty=>h.me.len ty
 have hp:0<(ek.length:Int):=Aa;obtain⟨m,hm⟩:=nm ek.length;rw[<- hm] at a1 hp;have h0:=h.dk.ptr;obtain⟨bd,rfl⟩:=h0;have z:=wN (fun(c:C) (o n:AA) (r:IR c 0 o N) (p:BBR c 0 n D) (u:AB w.heap.size w c)=>
  show Stg w Pd b be bp (Ax (S ⟨bd,0,H⟩)) q ek eg ev pk pg pv wi c.heap.size o n N D (c.alloc (Ay #[J .u32 q,o,n] 215)) Pd s from
   ⟨(h.below u).below (AF c _),(TxVa.own (h.below u).dk r p).chg (Chg.of_below (AF c _)),AC c _,(Chg.of_below u).trans (Chg.of_below (AF c _))⟩)
 have y:=wN (fun(c:C) (o n:AA) (r:IR c 0 o N) (p:BBR c 0 n D)=>And.intro r.isc.2 p.sl.shape);have B:=FD (Dq q (Eg q N D)) s;have a5:(Dq q (Eg q N D)).length<=50:=by
  unfold Dq Eg;simp only[AO,Bn,List.length_range,BJ,List.length_nil];omega
 have a4:(Ci N D).length<=40:=by
  rw[Fg];omega
 have Y:=wN (fun(g:Nat) (o n:AA) (W:C) (P':Nat->Prop) (hs:Stg w Pd b be bp (Ax (S ⟨bd,0,H⟩)) q ek eg ev pk pg pv wi g o n N D W P' s)=>hs.write hB Aa);have er:=EE (Dq q (Eg q N D)) (Ci N D ++ [.f]) s;have HQ:=wN h.q0;obtain⟨R,hR⟩:=nm (BP (setA q N D) s);have i:=hR;unfold setA at i;rw[er] at i;rw[<- hR];have L:=FA (Dq q (Eg q N D)) s;obtain⟨r1,V,h1⟩:∃ r1 V,BP (Dq q (Eg q N D)) s=(r1,V):=⟨_,_,rfl⟩;rw[h1] at Y B i L;simp only at B;have X:=wN (fun(g:Nat) (o n:AA) (W:C) (P':Nat->Prop) (hs:Stg w Pd b be bp (Ax (S ⟨bd,0,H⟩)) q ek eg ev pk pg pv wi g o n N D W P' V)=>hs.home (by rw[B.1];exact hB) Aa);have a0:=EE (Ci N D) [.f] V;rw[a0] at i;have ZC:=FD (Ci N D) V;have M:=FA (Ci N D) V;obtain⟨r2,s2,h2⟩:∃ r2 s2,BP (Ci N D) V=(r2,s2):=⟨_,_,rfl⟩;rw[h2] at X ZC i M;simp only at ZC;have Z:=wN (fun(g:Nat) (o n:AA) (W:C) (P':Nat->Prop) (hs:Stg w Pd b be bp (Ax (S ⟨bd,0,H⟩)) q ek eg ev pk pg pv wi g o n N D W P' s2)=>hs.flush Aa);have O:=FA [.f] s2;obtain⟨r3,s3,h3⟩:∃ r3 s3,BP [.f] s2=(r3,s3):=⟨_,_,rfl⟩;rw[h3] at Z i O;have uj:∃ q',IntKind.u32.wrap (q+1)=q'/\0<=q'/\q'<4294967296:=⟨(q+1)%4294967296,by simp[IntKind.wrap,IntKind.signed,IntKind.bits],Aa,Aa⟩;obtain⟨q',a8,ZM⟩:=uj;have a2:=wN ZM;clear h Xb hB hU hN hD JJ hm B ZC a5 a4 er a0 h1 h2 h3 a6 ZM hR;simp only at L M O Y X Z i;rcases L with rfl|rfl
 . rcases M with rfl|rfl
   . rcases O with rfl|rfl
     . -- all is done
       rw[AG rfl,AG rfl] at i;subst i;go_enter func86,ntmps86
       go_wp2_with (go_at_call 129;(with_reducible refine KT.out.mono ?_);rintro e c ⟨o,n,rfl,r,p,u⟩
                    have k:=wN (z.out c o n r p u);obtain⟨⟨no,T,rfl,_⟩,I,K,rfl,_⟩:=y.out c o n r p;clear r p u)
       generalize hgg:c.heap.size=g at k;generalize c.alloc (Ay #[J .u32 q,Aw no N.length T,Aw I D.length K] 215)=x at k |-
       obtain⟨k0,k1,P,Q⟩:=k.out.facts;generalize N.length=ln at k P |-
       generalize D.length=ld at k Q |-
       have G:=wN (Y.out g _ _ x.drew _ (k.out.below (AP _ x).drew));go_still_tail 5,Ac
       go_wp2_with (first
                    |(go_at_call 130;(with_reducible refine Ad G.out ?_);rintro A ⟨P3,j⟩
                      have t:=wN j;obtain⟨l0,l1,l2,l3⟩:=j.facts;clear j))
       have a7:=@run_makeMap Aq;have KH:=wN (X.out g _ _ A.drew _ (t.out.below (AP _ A).drew));go_still_tail 5,Ac
       go_wp2_with (first
                    |(go_at_call 122;(with_reducible refine Ad KH.out ?_);rintro W4 ⟨P4,l⟩
                      have v:=wN l;obtain⟨m0,m1,m2,m3⟩:=l.facts;clear l)
                    |(go_at_call 123;(with_reducible refine Ad (Z.out g _ _ W4 _ v.out) ?_);rintro W5 ⟨P5,a⟩
                      have E:=wN a;have n1:=a.sm.c1;have n2:=a.sm.c2;have f1:=a.sm.fr 1;have f2:=a.sm.fr 2;have a3:=a.sm.bl;have sG:b≠W5.heap.size:=Nat.ne_of_lt a.sm.bl;have sH:W5.heap.size≠b:=fun e=>sG e.symm
                      clear a))
       go_ret;exact A4 ⟨rfl,rfl,E.out.fresh a2.out⟩
     . rw[AG rfl,AG rfl] at i
       subst i;go_enter func86,ntmps86
       go_wp2_with (go_at_call 129;(with_reducible refine KT.out.mono ?_);rintro e c ⟨o,n,rfl,r,p,u⟩
                    have k:=wN (z.out c o n r p u);obtain⟨⟨no,T,rfl,_⟩,I,K,rfl,_⟩:=y.out c o n r p;clear r p u)
       generalize hgg:c.heap.size=g at k;generalize c.alloc (Ay #[J .u32 q,Aw no N.length T,Aw I D.length K] 215)=x at k |-
       obtain⟨k0,k1,P,Q⟩:=k.out.facts;generalize N.length=ln at k P |-
       generalize D.length=ld at k Q |-
       have G:=wN (Y.out g _ _ x.drew _ (k.out.below (AP _ x).drew));go_still_tail 5,Ac
       go_wp2_with (first
                    |(go_at_call 130;(with_reducible refine Ad G.out ?_);rintro A ⟨P3,j⟩
                      have t:=wN j;obtain⟨l0,l1,l2,l3⟩:=j.facts;clear j))
       have KH:=wN (X.out g _ _ A.drew _ (t.out.below (AP _ A).drew));go_still_tail 5,Ac
       go_wp2_with (first
                    |(go_at_call 122;(with_reducible refine Ad KH.out ?_);rintro W4 ⟨P4,l⟩
                      have v:=wN l;obtain⟨m0,m1,m2,m3⟩:=l.facts;clear l)
                    |(go_at_call 123;(with_reducible refine Ad (Z.out g _ _ W4 _ v.out) ?_);rintro W5 ⟨P5,a⟩
                      have E:=wN a;have n1:=a.sm.c1;have n2:=a.sm.c2;have f1:=a.sm.fr 1;have f2:=a.sm.fr 2;have a3:=a.sm.bl;have sG:b≠W5.heap.size:=Nat.ne_of_lt a.sm.bl;have sH:W5.heap.size≠b:=fun e=>sG e.symm
                      clear a)|(go_at_call 131;(with_reducible refine Ad E.out.over ?_);rintro w9 vn))
       go_ret;exact A8 ⟨rfl,rfl,vn⟩
   . rw[AG rfl,AJ Af] at i
     subst i;go_enter func86,ntmps86
     go_wp2_with (go_at_call 129;(with_reducible refine KT.out.mono ?_);rintro e c ⟨o,n,rfl,r,p,u⟩
                  have k:=wN (z.out c o n r p u);obtain⟨⟨no,T,rfl,_⟩,I,K,rfl,_⟩:=y.out c o n r p;clear r p u)
     generalize hgg:c.heap.size=g at k;generalize c.alloc (Ay #[J .u32 q,Aw no N.length T,Aw I D.length K] 215)=x at k |-
     obtain⟨k0,k1,P,Q⟩:=k.out.facts;generalize N.length=ln at k P |-
     generalize D.length=ld at k Q |-
     have G:=wN (Y.out g _ _ x.drew _ (k.out.below (AP _ x).drew));go_still_tail 5,Ac
     go_wp2_with (first
                  |(go_at_call 130;(with_reducible refine Ad G.out ?_);rintro A ⟨P3,j⟩
                    have t:=wN j;obtain⟨l0,l1,l2,l3⟩:=j.facts;clear j))
     have KH:=wN (X.out g _ _ A.drew _ (t.out.below (AP _ A).drew));go_still_tail 5,Ac
     go_wp2_with (first
                  |(go_at_call 122;(with_reducible refine Ad KH.out ?_);rintro W4 ⟨P4,l⟩
                    have v:=wN l;obtain⟨m0,m1,m2,m3⟩:=l.facts;clear l)|(go_at_call 131;(with_reducible refine Ad v.out.over ?_);rintro w9 vn))
     go_ret;exact A8 ⟨rfl,rfl,vn⟩
 . rw[AJ Af] at i
   subst i;clear X Z;go_enter func86,ntmps86
   go_wp2_with (go_at_call 129;(with_reducible refine KT.out.mono ?_);rintro e c ⟨o,n,rfl,r,p,u⟩
                have k:=wN (z.out c o n r p u);obtain⟨⟨no,T,rfl,_⟩,I,K,rfl,_⟩:=y.out c o n r p;clear r p u)
   generalize hgg:c.heap.size=g at k;generalize c.alloc (Ay #[J .u32 q,Aw no N.length T,Aw I D.length K] 215)=x at k |-
   obtain⟨k0,k1,P,Q⟩:=k.out.facts;generalize N.length=ln at k P |-
   generalize D.length=ld at k Q |-
   have G:=wN (Y.out g _ _ x.drew _ (k.out.below (AP _ x).drew));go_still_tail 5,Ac
   go_wp2_with (first
                |(go_at_call 130;(with_reducible refine Ad G.out ?_);rintro A ⟨P3,j⟩
                  have t:=wN j;obtain⟨l0,l1,l2,l3⟩:=j.facts;clear j)|(go_at_call 131;(with_reducible refine Ad t.out.over ?_);rintro w9 vn))
   go_ret;exact A8 ⟨rfl,rfl,vn⟩
end
def E7{α:Type}(pk:Ab)(p e:Int->α)(x:Int):α:=if x∈pk then p x else e x
section
variable {w:C}{Pd:Nat->Prop}{b be bp:Nat}{d:AA}{q:Int}{ek:Ab}{eg:Int->AA}{ev:Int->Ab}{pk:Ab}{pg:Int->AA}{pv:Int->Ab}{wi:Bool}{s:DS}
def SMem.copied(h:SMem w Pd b be bp d q ek eg ev pk pg pv wi s){w':C}(o:Mp w' be (EV ek pk) (E7 pk pg eg))(hp:Mp w' bp pk pg)(m:w.grownBy w' (S be)):SMem w' Pd b be bp d q (EV ek pk) (E7 pk pg eg) (E7 pk pv ev) pk pg pv wi s:=by
 have i:∀ k,k<w.heap.size->k≠be->w'.heap[k]? =w.heap[k]? :=fun k n p=>m.block k n fun e=>p (Bc e)
 refine⟨by rw[i b h.bl fun e=>h.nb.1 e.symm];exact h.hb,h.dk.same fun k l=>i k (h.dk.lt k l) fun e=>Mp.nd h.dk h.me (e ▸ l),h.q0,o,hp,h.ne,fun x j=>?_,fun x j=>(h.rp x j).keep fun g a=>i g ((h.rp x j).lt a) ((h.rp x j).nm a h.me)⟩;unfold E7;by_cases c:x∈pk
 . rw[AG c,AG c]
   exact(h.rp x c).keep fun g a=>i g ((h.rp x c).lt a) ((h.rp x c).nm a h.me)
 . rw[AJ c,AJ c]
   have f:=(mem_uniN.1 j).resolve_right c;exact(h.re x f).keep fun g a=>i g ((h.re x f).lt a) ((h.re x f).nm a h.me)
def SMem.copy(h:SMem w Pd b be bp d q ek eg ev pk pg pv wi s)(i:ek.length<=1000)(g:pk.length<=1000):AH Aq 87 #[.map (S be),.map (S bp)] w fun e w'=>e=Av (AT #[])/\SMem w' Pd b be bp d q (EV ek pk) (E7 pk pg eg) (E7 pk pv ev) pk pg pv wi s/\Ext (fun k=>k=be) w w':=
 (ik h.me h.mp h.ne Aa).mono fun e w' ⟨he,c,f,a⟩=>⟨he,h.copied c f a,Ext.of_grown a rfl⟩
def SMem.cleared(h:SMem w Pd b be bp d q ek eg ev pk pg pv wi s)(j:Int->AA)(u:Int->Ab):
 let w':=((w.setCell ⟨b,3,H⟩ (.map (S w.heap.size))).setCell ⟨b,4,H⟩ (AY AN)).alloc (.map #[] 0)
 SMem w' Pd b be w.heap.size d q ek eg ev [] j u AN s/\w'.heap.size=w.heap.size+1/\Ext (fun k=>k=b) w w':=by
 intro w';obtain⟨l,c⟩:=nm ((w.setCell ⟨b,3,H⟩ (.map (S w.heap.size))).setCell ⟨b,4,H⟩ (AY AN));have i:w'=l.alloc (.map #[] 0):=by rw[c]
 have n:l.heap.size=w.heap.size:=by rw[c];simp[C.setCell]
 have f:Wrote w l b:=by rw[c];exact(Wrote.setCell w b 3 _).and (Wrote.setCell _ b 4 _)
 have a:AB l.heap.size l w':=by rw[i];exact AF l _
 have D:=Bk w b 3 _ _ (.map (S w.heap.size)) h.hb;have y:=Bk _ b 4 _ _ (AY AN) D;rw[<- c] at y;have E:=(a.block b (by rw[n];exact h.bl)).trans y;have v:w'.heap.size=w.heap.size+1:=by rw[i];simp[n]
 have o:∀ k,k<w.heap.size->k≠b->w'.heap[k]? =w.heap[k]? :=fun k p t=>(a.block k (by rw[n];exact p)).trans (f.2.2.2.2 k t)
 have F:Mp w' w.heap.size [] j:=by
  have z:=Mp.made l j;rw[n,<- i] at z;exact z
 have g:=h.me.lt
 refine⟨⟨E,h.dk.same fun k A=>o k (h.dk.lt k A) fun e=>h.nd (e ▸ A),h.q0,h.me.keep (o be g h.nb.1),F,fun e=>by rw[e] at g;exact Nat.lt_irrefl _ g,
  fun x m=>(h.re x m).keep fun r B=>o r ((h.re x m).lt B) ((h.re x m).ne B h.hb Af),fun x m=>absurd m Bu⟩,v,
  ⟨a.os.trans f.1,a.tape.trans f.2.1,a.output.trans f.2.2.1,by rw[v];omega,fun k p t=>o k p t⟩⟩
def Wd(h:SMem w Pd b be bp d q ek eg ev pk pg pv wi s)(x:ek.length<=37)(i:pk.length<=37)(hu:(EV ek pk).length<=37):
 AH Aq 46 #[Ax (S ⟨b,0,H⟩)] w fun e w'=>e=Av (J Y 0)/\SMem w' Pd b be bp d q (EV ek pk) (E7 pk pg eg) (E7 pk pv ev) pk pg pv wi s/\Ext (fun k=>k=be) w w':=by
 have m:=wN (L9 h Aa Aa);have l:=wN (fun(W:C) (g:AB w.heap.size w W)=>h.below g);have u:=wN (fun(W:C) (g:AB w.heap.size w W)=>(h.below g).copy Aa Aa);have v:((EV ek pk).length:Int)<=37:=Aa;obtain⟨R,n⟩:=nm ((EV ek pk).length);rw[<- n] at m v;clear h x i hu n;go_enter func46,ntmps46
 go_wp2_with (go_at_call 85;(with_reducible refine Ad m.out ?_);rintro j a
              have c:=wN a;have y:=(l.out j a).c2;have z:=(l.out j a).c3;clear a)
 have f:=wN (u.out j.drew c.out.drew);go_still_tail 8,Ac
 go_wp2_with (go_at_call 87;(with_reducible refine Ad f.out ?_);rintro A ⟨o,p⟩
              have r:=wN o;have t:=wN p;clear o p)
 go_ret;exact⟨rfl,r.out,(Ext.of_below c.out.drew).trans (P2:=fun k=>k=be) t.out fun k _ e=>e⟩
def Vg(h:SMem w Pd b be bp d q ek eg ev pk pg pv wi s)(Z:ek.length<=37)(D:pk.length<=37)(hu:37<(EV ek pk).length)(hB:Gb s.F.length (BW ek) ((BW ek).map ev)=AQ)(hU:s.U.length<=800000):
 AH Aq 46 #[Ax (S ⟨b,0,H⟩)] w fun e w'=>
  ((BP (setA q (BW ek) ((BW ek).map ev)) s).1=0/\e=Av (J Y 0)/\∃ c a E,SMem w' a b c bp d E (EV [] pk) (E7 pk pg eg) (E7 pk pv ev) pk pg pv wi (BP (setA q (BW ek) ((BW ek).map ev)) s).2/\(w.heap.size<=c/\c<w'.heap.size)/\(∀ k,a k->Pd k\/w.heap.size<=k)/\Ext (fun k=>Pd k\/k=b) w w')\/
  ((BP (setA q (BW ek) ((BW ek).map ev)) s).1=2/\e=Av (J Y 2)/\∃ a,w'.heap[b]? =S Mq/\Dk w' a d (BP (setA q (BW ek) ((BW ek).map ev)) s).2/\(∀ k,a k->Pd k\/w.heap.size<=k)/\Ext (fun k=>Pd k\/k=b) w w'):=by
 have B:0<ek.length:=by
  rcases Nat.eq_zero_or_pos ek.length with e|e
  . have:ek=[]:=A3 e
    rw[this] at hu;have G:(EV [] pk).length<=pk.length:=by
     unfold EV;rw[List.nil_append];exact List.length_filter_le _ _
    omega
  . exact e
 have Q:=wN (L9 h Aa Aa);have p:=wN (fun(W:C) (v:AB w.heap.size w W)=>XW (h.below v) B Z hB hU);have N:=wN D;have gN:37<((EV ek pk).length:Int):=Aa;obtain⟨R,hR⟩:=nm ((EV ek pk).length);rw[<- hR] at Q gN;obtain⟨T,V⟩:=nm (BP (setA q (BW ek) ((BW ek).map ev)) s);have td:T.1=0\/T.1=2:=by rw[V];exact FA _ _
 rw[<- V] at p |-
 obtain⟨r,s'⟩:=T;clear h Z D hu hR V hB hU B;rcases td with u|u
 . simp only at u
   subst u;have n:=wN (fun(W:C) (v:AB w.heap.size w W)=>(p.out W v).mono (R':=fun e w'=>e=Av (J Y 0)/\∃ c a E,SMem w' a b c bp d E [] eg ev pk pg pv wi s'/\(W.heap.size<=c/\c<w'.heap.size)/\(∀ k,a k->Pd k\/W.heap.size<=k)/\Ext (fun k=>Pd k\/k=b) W w') (fun e w' X=>by
    rcases X with⟨_,he,i⟩| ⟨G,_⟩
    . exact⟨he,i⟩
    . exact absurd (show(0:Int)=2 from G) Af))
   clear p;go_enter func46,ntmps46
   go_wp2_with (first
    |(go_at_call 85;(with_reducible refine Ad Q.out ?_);rintro w1 j
      have f:=wN j;clear j)
    |(go_at_call 86;(with_reducible refine Ad (n.out _ f.out) ?_);rintro I ⟨c,a,E,o,x,t,i⟩
      have HM:=wN o;have l:=wN x;have m:=wN t;have O:=wN i;have c2:=o.c2;have c3:=o.c3;clear o x t i))
   have P:=wN (SMem.copy (HM.out.below (AP _ I).drew) (A7 _) (by have:=N.out;omega));go_still_tail 8,Ac
   go_wp2_with (go_at_call 87;(with_reducible refine Ad P.out ?_);rintro w3 ⟨o,i⟩
                have M:=wN o;have g:=wN i;clear o i)
   go_ret;refine A4 ⟨by first|rfl|trivial,rfl,c,a,E,M.out,⟨AU f.out.size l.out.1,AL l.out.2 g.out.size⟩,fun k A=>(m.out k A).imp id fun e=>AU f.out.size e,?_⟩;have e1:Ext (fun k=>Pd k\/k=b) w I:=(Ext.of_below f.out).trans (P2:=fun k=>Pd k\/k=b) O.out fun k _ e=>e
   have e2:Ext (fun k=>k=c) I w3:=⟨g.out.os,g.out.tape,g.out.output,g.out.size,g.out.keep⟩;exact e1.trans e2 fun k A e=>absurd (e ▸ A) (by have:=l.out.1;have:=f.out.size;omega)
 . simp only at u
   subst u;have n:=wN (fun(W:C) (v:AB w.heap.size w W)=>(p.out W v).mono (R':=fun e w'=>e=Av (J Y 2)/\∃ a,w'.heap[b]? =S Mq/\Dk w' a d s'/\(∀ k,a k->Pd k\/W.heap.size<=k)/\Ext (fun k=>Pd k\/k=b) W w') (fun e w' X=>by
    rcases X with⟨G,_⟩| ⟨_,he,i⟩
    . exact absurd (show(2:Int)=0 from G) Af
    . exact⟨he,i⟩))
   clear p;go_enter func46,ntmps46
   go_wp2_with (first
    |(go_at_call 85;(with_reducible refine Ad Q.out ?_);rintro w1 j
      have f:=wN j;clear j)
    |(go_at_call 86;(with_reducible refine Ad (n.out _ f.out) ?_);rintro I ⟨a,y,z,t,i⟩
      have K:=wN y;have L:=wN z;have m:=wN t;have O:=wN i;clear y z t i))
   go_ret;exact A8 ⟨by first|rfl|trivial,rfl,a,K.out,L.out,fun k A=>(m.out k A).imp id fun e=>AU f.out.size e,(Ext.of_below f.out).trans (P2:=fun k=>Pd k\/k=b) O.out fun k _ e=>e⟩
end
def OX{w w':C}{P Pd:Nat->Prop}{b be bp:Nat}{d:AA}{q:Int}{ek:Ab}{eg:Int->AA}{ev:Int->Ab}{pk:Ab}{pg:Int->AA}{pv:Int->Ab}{X:XSt}(g:SMem w' Pd b be bp d q ek eg ev pk pg pv X.wi X.ds)(f:SPl X ek ev pk pv)
 (i:∀ k,P k->k<w.heap.size) (j:w.heap.size<=w'.heap.size) (a:∀ k,oh Pd b be bp ek eg pk pg k->P k\/w.heap.size<=k):SInv w' (wj P w w') d (Ax (S ⟨b,0,H⟩)) X:=
 ⟨b,be,bp,Pd,q,ek,eg,ev,pk,pg,pv,rfl,g,f,fun k c=>(a k c).imp id fun e=>⟨e,g.lt k c⟩,fun k c=>c.elim (fun h=>AL (i k h) j) fun h=>h.2⟩
section
variable {w:C}{Pd:Nat->Prop}{b be bp:Nat}{d:AA}{q:Int}{ek:Ab}{eg:Int->AA}{ev:Int->Ab}{pk:Ab}{pg:Int->AA}{pv:Int->Ab}{wi:Bool}{s:DS}
def ez(h:SMem w Pd b be bp d q ek eg ev pk pg pv AQ s):AH Aq 25 #[Ax (S ⟨b,0,H⟩),AY AN] w fun e w'=>e=Av (J Y 0)/\w'=((w.setCell ⟨b,3,H⟩ (.map (S w.heap.size))).setCell ⟨b,4,H⟩ (AY AN)).alloc (.map #[] 0):=by
 have a:=wN (E5 h AQ);have i:=h.c3;have j:=h.c4;have k:=h.fr 3;have l:=h.fr 4;have c:=h.bl;have g:b≠w.heap.size:=Nat.ne_of_lt h.bl;have m:w.heap.size≠b:=fun e=>g e.symm
 have f:=@run_makeMap Aq;clear h;go_enter func25,ntmps25;go_wp2_with (go_at_call 43;(with_reducible refine Ad a.out ?_);rintro n rfl)
 go_ret;exact⟨rfl,rfl⟩
def RC{Q:C->Prop}(h:SMem w Pd b be bp d q ek eg ev pk pg pv AQ s)
 (k:AH Aq 46 #[Ax (S ⟨b,0,H⟩)] w fun e w1=>e=Av (J Y 0)/\Q w1/\∃ a c q1 g f i m,SMem w1 a b c bp d q1 g f i pk pg pv AQ m):
 AH Aq 25 #[Ax (S ⟨b,0,H⟩),AY AQ] w fun e w'=>e=Av (J Y 0)/\∃ w1,Q w1/\w'=((w1.setCell ⟨b,3,H⟩ (.map (S w1.heap.size))).setCell ⟨b,4,H⟩ (AY AN)).alloc (.map #[] 0):=by
 have o:=wN (E5 h AQ);have j:=wN k;have r:=@run_makeMap Aq;clear h k;go_enter func25,ntmps25
 go_wp2_with (first
  |(go_at_call 43;(with_reducible refine Ad o.out ?_);rintro w1 rfl)
  |(go_at_call 46;(with_reducible refine Ad j.out ?_);rintro w1 ⟨l,a,c,q1,g,f,i,m,h⟩
    have n:=wN l;have u:=h.c3;have v:=h.c4;have x:=h.fr 3;have y:=h.fr 4;have p:=h.bl;have t:b≠w1.heap.size:=Nat.ne_of_lt h.bl;have z:w1.heap.size≠b:=fun e=>t e.symm
    clear h l))
 go_ret;exact⟨rfl,w1,n.out,rfl⟩
def eQ{Q:C->Prop}(h:SMem w Pd b be bp d q ek eg ev pk pg pv AQ s)
 (c:AH Aq 46 #[Ax (S ⟨b,0,H⟩)] w fun e w1=>e=Av (J Y 2)/\Q w1):
 AH Aq 25 #[Ax (S ⟨b,0,H⟩),AY AQ] w fun e w'=>e=Av (J Y 2)/\Q w':=by
 have i:=wN (E5 h AQ);have a:=wN c;clear h c;go_enter func25,ntmps25
 go_wp2_with (first
  |(go_at_call 43;(with_reducible refine Ad i.out ?_);rintro w1 rfl)
  |(go_at_call 46;(with_reducible refine Ad a.out ?_);rintro w1 f
    have g:=wN f;clear f))
 go_ret;exact⟨rfl,g.out⟩
def mA(h:SMem w Pd b be bp d q ek eg ev pk pg pv AN s)(k:Bool):AH Aq 25 #[Ax (S ⟨b,0,H⟩),AY k] w fun e w'=>e=Av (J Y 17)/\w=w':=by
 have a:=wN (E5 h AQ);clear h;go_enter func25,ntmps25;go_wp2_with (go_at_call 43;(with_reducible refine Ad a.out ?_);rintro c rfl)
 go_ret;exact⟨rfl,rfl⟩
end
section
variable {X:XSt}{ek:Ab}{ev:Int->Ab}{pk:Ab}{pv:Int->Ab}
def SPl.base(h:SPl X ek ev pk pv):X.base.length=X.is.length:=h.ok.lst.glen
def SPl.undo(h:SPl X ek ev pk pv)(a:Int->Ab):SPl { X with wi:=AN } ek ev [] a:=
 { h with ok:={ h.ok with call:=fun e=>Bool.noConfusion (show AN=AQ from e) },kp:=fun x b=>absurd b Bu,pl:=A7 _,wi0:=fun _=>rfl,wi1:=fun e=>Bool.noConfusion (show AN=AQ from e) }
def SPl.merged(h:SPl X ek ev pk pv)(d:X.wi=AQ)(i:Nat)(b:D7 i)(hi:i<X.is.length):X.call.getD i []=if (i:Int)∈EV ek pk then E7 pk pv ev i else X.base.getD i []:=by
 obtain⟨_,_,c⟩:=h.wi1 d;rw[c i b hi,h.isx i b hi];unfold E7;by_cases a:(i:Int)∈pk
 . rw[AG a,AG (mem_uniN.2 (A8 a)),AG a]
 . rw[AJ a]
   by_cases he:(i:Int)∈ek
   . rw[AG he,AG (mem_uniN.2 (A4 he)),AJ a]
   . rw[AJ he,AJ fun e=>(mem_uniN.1 e).elim he a]
def SPl.small(h:SPl X ek ev pk pv)(f:X.wi=AQ)(hu:(EV ek pk).length<=37)(d:Int->Ab):SPl { X with base:=X.base,is:=X.call,wi:=AN,dt:=(EV ek pk).length,ds:=X.ds } (EV ek pk) (E7 pk pv ev) [] d:=by
 obtain⟨_,b,_⟩:=h.wi1 f;have a:X.call.length=X.is.length:=b;refine⟨⟨?_,h.ok.pow,h.ok.un,fun e=>Bool.noConfusion (show AN=AQ from e),hu⟩,?_,h.u0,?_,fun x c=>absurd c Bu,hu,A7 _,rfl,?_,fun _=>rfl,fun e=>Bool.noConfusion (show AN=AQ from e)⟩
 . show Lst X.call.length X.ds X.base
   rw[a];exact h.ok.lst
 . show 64<=X.call.length/\X.call.length<=768
   rw[a];exact h.n64
 . intro x c
   show sX X.call.length x
   rw[a];exact(mem_uniN.1 c).elim (h.ki x) (h.kp x)
 . intro i k g
   have j:i<X.call.length:=g;exact h.merged f i k Aa
def OR(pk:Ab):EV [] pk=pk:=by
 unfold EV;rw[List.nil_append,List.filter_eq_self];intro x _;simp
def SPl.great(h:SPl X ek ev pk pv)(q:X.wi=AQ){a:DS}(o:Lst X.is.length a X.is)(hd:a.dn=AN)(k:a.U=[])(j:Int->Ab):SPl { X with base:=X.is,is:=X.call,wi:=AN,dt:=(EV [] pk).length,ds:=a } (EV [] pk) (E7 pk pv ev) [] j:=by
 obtain⟨_,g,l⟩:=h.wi1 q;have f:X.call.length=X.is.length:=g;have c:(EV [] pk).length<=37:=by rw[OR];exact h.pl
 refine⟨⟨?_,hd,by show a.U.length<=1000;rw[k];exact A7 _,fun e=>Bool.noConfusion (show AN=AQ from e),c⟩,?_,k,?_,fun x d=>absurd d Bu,c,A7 _,rfl,?_,fun _=>rfl,fun e=>Bool.noConfusion (show AN=AQ from e)⟩
 . show Lst X.call.length a X.is
   rw[f];exact o
 . show 64<=X.call.length/\X.call.length<=768
   rw[f];exact h.n64
 . intro x d
   show sX X.call.length x
   rw[f];rw[OR] at d;exact h.kp x d
 . intro i p m
   have n:i<X.call.length:=m;show X.call.getD i []=if (i:Int)∈EV [] pk then E7 pk pv ev i else X.is.getD i []
   rw[OR,l i p Aa];by_cases b:(i:Int)∈pk
   . rw[AG b,AG b];unfold E7;rw[AG b]
   . rw[AJ b,AJ b]
def SPl.okT(h:SPl X ek ev pk pv)(a:ek.Nodup)(hv:∀ x∈ek,(ev x).length=256):okT X.is.length (BW ek) ((BW ek).map ev):=rA a h.el h.ki h.n64.2 hv
def SPl.set(h:SPl X ek ev pk pv)(m:ek.Nodup)(hv:∀ x∈ek,(ev x).length=256){q:Int}(n:0<=q/\q<4294967296):
 let r:=BP (setA q (BW ek) ((BW ek).map ev)) X.ds
 (r.1=0->r.2.dn=AN/\r.2.U=[]/\Lst X.is.length r.2 X.is)/\(r.1=2->X.ds.fu=AQ/\QH X.is.length r.2 [X.base,X.is]):=by
 intro r;have l:=h.okT m hv;obtain⟨j,k⟩:=bE h.ok.lst (by have:=h.n64.1;omega) h.u0 h.ok.pow l n;have f:=rk (B:=X.base) (I:=X.is) h.ki h.base rfl h.isx;refine⟨fun d=>?_,fun d=>?_⟩
 . obtain⟨a,b,c⟩:=j d
   exact⟨a,b,c.toO f⟩
 . obtain⟨a,b,c,e⟩:=k d
   refine⟨a,b,c,fun o=>?_⟩;obtain⟨G,g,i⟩:=e o;simp only[Ez,Bu,or_false] at g;rcases g with rfl|rfl
   . exact⟨_,Ai,i⟩
   . exact⟨X.is,Ai,i.toO f⟩
end
section
variable {w:C}{P:Nat->Prop}{d p:AA}{X:XSt}
def eI(h:SInv w P d p X)(i:X.wi=AN)(k:Bool):AH Aq 25 #[p,AY k] w (OA SInv w P d p (17,X)):=by
 have f:=h;obtain⟨b,l,m,j,q,ek,n,ev,pk,s,pv,rfl,c,g,r,o⟩:=h;rw[i] at c;exact(mA c k).mono fun e t ⟨he,a⟩=>by subst a;exact⟨he,P,f,Chg.refl _ _⟩
def Wt(h:SInv w P d p X)(o:X.wi=AQ):AH Aq 25 #[p,AY AN] w (OA SInv w P d p (0,{ X with wi:=AN })):=by
 obtain⟨b,u,v,t,q,ek,y,ev,pk,r,pv,rfl,g,j,c,n⟩:=h;rw[o] at g;refine Ad (ez g) ?_;rintro z rfl;obtain⟨i,s,a⟩:=g.cleared r pv;refine⟨rfl,_,OX i (j.undo pv) n a.size ?_,(a.sub fun k e=>c k (A8 (A4 e))).chg⟩;intro k f;rcases f with f|rfl|rfl|rfl| ⟨x,l,m⟩| ⟨x,l,_⟩
 . exact A4 (c k (A4 f))
 . exact A4 (c _ (A8 (A4 rfl)))
 . exact A4 (c _ (A8 (A8 (A4 rfl))))
 . exact A8 (AE _)
 . exact A4 (c k (A8 (A8 (A8 (A8 (A4 ⟨x,l,m⟩))))))
 . exact absurd l Bu
def iK{ek pk:Ab}{c d:Int->AA}{x:Int}{k:Nat}(f:x∈EV ek pk)(a:(E7 pk d c x).ownBlock=S k):(∃ y,y∈ek/\(c y).ownBlock=S k)\/∃ y,y∈pk/\(d y).ownBlock=S k:=by
 unfold E7 at a;by_cases b:x∈pk
 . rw[AG b] at a;exact A8 ⟨x,b,a⟩
 . rw[AJ b] at a;exact A4 ⟨x,(mem_uniN.1 f).resolve_right b,a⟩
def VD(h:SInv w P d p X)(V:X.wi=AQ):AH Aq 25 #[p,AY AQ] w fun e w'=>
 (∃ B dt y,(B=X.base\/B=X.is\/B=X.call)/\y.fu=X.ds.fu/\OA SInv w P d p (0,{ X with base:=B,is:=X.call,wi:=AN,dt:=dt,ds:=y }) e w')\/pR SDead w P d p X [X.base,X.is,X.call] e w':=by
 obtain⟨b,K,Y,u,q,ek,Z,ev,pk,v,pv,rfl,o,a,g,T⟩:=h;rw[V] at o;have hv:∀ x∈ek,(ev x).length=256:=fun x f=>(o.re x f).2
 by_cases hu:(EV ek pk).length<=37
 . refine Ad (RC (Q:=fun i=>SMem i u b K Y d q (EV ek pk) (E7 pk v Z) (E7 pk pv ev) pk v pv AQ X.ds/\Ext (fun k=>k=K) w i) o ((Wd o a.el a.pl hu).mono fun e i ⟨he,A,f⟩=>⟨he,⟨A,f⟩,_,_,_,_,_,_,_,A⟩)) ?_
   rintro w' ⟨i,⟨t,n⟩,rfl⟩;obtain⟨s,Ef,m⟩:=t.cleared v pv;have C:Ext (fun k=>k=K\/k=b) w _:=(n.sub fun k e=>A4 e).trans (P2:=fun k=>k=b) m fun k _ e=>A8 e
   refine A4 ⟨X.base,(EV ek pk).length,X.ds,A4 rfl,rfl,rfl,_,OX s (a.small V hu pv) T C.size ?_,(C.sub fun k e=>e.elim (fun e=>g k (A8 (A8 (A4 e)))) fun e=>g k (A8 (A4 e))).chg⟩;intro k j;rcases j with j|rfl|rfl|rfl| ⟨x,f,E⟩| ⟨x,f,_⟩
   . exact A4 (g k (A4 j))
   . exact A4 (g _ (A8 (A4 rfl)))
   . exact A4 (g _ (A8 (A8 (A4 rfl))))
   . exact A8 n.size
   . exact A4 (g k (A8 (A8 (A8 (A8 (iK f E))))))
   . exact absurd f Bu
 . have hT:=a.okT o.me.nodup hv
   obtain⟨s1,s2⟩:=a.set o.me.nodup hv o.q0;have hB:Gb X.ds.F.length (BW ek) ((BW ek).map ev)=AQ:=(by rw[a.ok.lst.1];exact hT.takes a.n64.1);have J:=Vg o a.el a.pl Aa hB (by rw[a.u0];exact A7 _);have W:=OZ (setA q (BW ek) ((BW ek).map ev)) X.ds;have hr:=FA (setA q (BW ek) ((BW ek).map ev)) X.ds;generalize BP (setA q (BW ek) ((BW ek).map ev)) X.ds=r at s1 s2 J W hr;obtain⟨r,I⟩:=r;rcases hr with z|z
   . simp only at z
     subst z;obtain⟨L,M,g3⟩:=s1 rfl;refine Ad (RC (Q:=fun i=>∃ l c H,SMem i c b l Y d H (EV [] pk) (E7 pk v Z) (E7 pk pv ev) pk v pv AQ I/\(w.heap.size<=l/\l<i.heap.size)/\(∀ k,c k->u k\/w.heap.size<=k)/\Ext (fun k=>u k\/k=b) w i) o (J.mono fun e i U=>by
      rcases U with⟨_,he,f⟩| ⟨O,_⟩
      . obtain⟨l,c,H,A,r⟩:=f
        exact⟨he,⟨l,c,H,A,r⟩,_,_,_,_,_,_,_,A⟩
      . exact absurd (show(0:Int)=2 from O) Af)) ?_
     rintro w' ⟨i,⟨l,c,H,t,R,N,n⟩,rfl⟩;obtain⟨s,Ef,m⟩:=t.cleared v pv;have C:Ext (fun k=>u k\/k=b) w _:=n.trans (P2:=fun k=>k=b) m fun k _ e=>A8 e
     refine A4 ⟨X.is,(EV [] pk).length,I,A8 (A4 rfl),W,rfl,_,OX s (a.great V g3 L M pv) T C.size ?_,(C.sub fun k e=>e.elim (fun e=>g k (A4 e)) fun e=>g k (A8 (A4 e))).chg⟩;intro k j;rcases j with j|rfl|rfl|rfl| ⟨x,f,E⟩| ⟨x,f,_⟩
     . exact(N k j).imp (fun e=>g k (A4 e)) id
     . exact A4 (g _ (A8 (A4 rfl)))
     . exact A8 R.1
     . exact A8 n.size
     . rw[OR] at f
       unfold E7 at E;rw[AG f] at E;exact A4 (g k (A8 (A8 (A8 (A8 (A8 ⟨x,f,E⟩))))))
     . exact absurd f Bu
   . simp only at z
     subst z;obtain⟨L,M⟩:=s2 rfl;refine Ad (eQ (Q:=fun i=>∃ c,i.heap[b]? =S Mq/\Dk i c d I/\(∀ k,c k->u k\/w.heap.size<=k)/\Ext (fun k=>u k\/k=b) w i) o (J.mono fun e i U=>by
      rcases U with⟨O,_⟩| ⟨_,he,f⟩
      . exact absurd (show(2:Int)=0 from O) Af
      . exact⟨he,f⟩)) ?_
     rintro w' ⟨c,hb,D,N,f⟩;obtain⟨k1,k2,k3⟩:=M;refine A8 ⟨L,rfl,wj P w w',I,⟨b,c,rfl,hb,D,fun k j=>?_,fun k j=>j.elim (fun h=>AL (T k h) f.size) fun h=>h.2⟩,(f.sub fun k e=>e.elim (fun e=>g k (A4 e)) fun e=>g k (A8 (A4 e))).chg,k1,k2,fun kp=>?_⟩
     . rcases j with j|rfl
       . exact(N k j).imp (fun e=>g k (A4 e)) fun e=>⟨e,D.lt k j⟩
       . exact A4 (g _ (A8 (A4 rfl)))
     . obtain⟨G,hG,hJ⟩:=k3 kp
       refine⟨G,?_,hJ⟩;simp only[Ez,Bu,or_false] at hG |-
       rcases hG with e|e
       . exact A4 e
       . exact A8 (A4 e)
end
def lf{W:C}{P:Nat->Prop}{d:AA}{s:DS}{x:Int}(hd:Dk W P d s)(i:0<=x/\x<4294967296)(h:Int->AA)(q:Int->Ab):
 let w':=((W.alloc (.map #[] 0)).alloc (.map #[] 0)).alloc (Ay #[d,J .u32 x,.map (S W.heap.size),.map (S (W.heap.size+1)),AY AN,AY AN] 109)
 SMem w' P (W.heap.size+1+1) W.heap.size (W.heap.size+1) d x [] h q [] h q AN s/\AB W.heap.size W w'/\w'.heap.size=W.heap.size+3:=by
 intro w';obtain⟨c,a⟩:=nm (W.alloc (.map #[] 0));obtain⟨f,b⟩:=nm (c.alloc (.map #[] 0));have j:c.heap.size=W.heap.size+1:=by rw[a];simp
 have k:f.heap.size=W.heap.size+1+1:=by rw[b];simp[j]
 have g:w'=f.alloc (Ay #[d,J .u32 x,.map (S W.heap.size),.map (S (W.heap.size+1)),AY AN,AY AN] 109):=by rw[b,a]
 have p:AB W.heap.size W c:=by rw[a];exact AF W _
 have l:AB c.heap.size c f:=by rw[b];exact AF c _
 have m:AB f.heap.size f w':=by rw[g];exact AF f _
 have n:Mp c W.heap.size [] h:=by rw[a];exact Mp.made W h
 have o:Mp f c.heap.size [] h:=by rw[b];exact Mp.made c h
 have r:AB W.heap.size W w':=p.trans ((l.trans (m.mono l.size)).mono p.size);have t:w'.heap[W.heap.size+1+1]? =S (Ay #[d,J .u32 x,.map (S W.heap.size),.map (S (W.heap.size+1)),AY AN,AY AN] 109 (0,0)):=by
  rw[<- k,g];exact AC f _
 refine⟨⟨t,hd.below r,i,(n.keep (l.block _ (by rw[j];omega))).keep (m.block _ (by rw[k];omega)),?_,Aa,fun x i=>absurd i Bu,fun x i=>absurd i Bu⟩,r,by rw[g];simp[k]⟩;rw[<- j];exact o.keep (m.block _ (by rw[k,j];omega))
def Vq{w:C}{P:Nat->Prop}{d:AA}{ds:DS}{n:Nat}{G:Ae}(h:Dk w P d ds)(A:64<=n)(K:n<=768)(Q:ds.U=[])(hd:ds.dn=AN)(D:Jst n ds.F G):AH Aq 38 #[d] w fun e w'=>
 (∃ p a g,e=Av (AT #[p,J Y 0])/\a.fu=ds.fu/\SInv w' g d p ⟨G,G,[],[],AN,0,a⟩/\Chg P g w w')\/
   (ds.fu=AQ/\e=Av (AT #[Ax H,J Y 2])/\∃ a g,Dk w' g d a/\Chg P g w w'/\QH n a [G]):=by
 have KR:=wN (UE h A Q hd D);have q:=fun k f=>h.lt k f
 have V:=wN q;have I:Hid (G.length=n):=wN D.2.1;have v:=wN (And.intro A K);have a0:=@run_makeMap Aq;obtain⟨bd,rfl⟩:=h.ptr;clear h A K Q hd D q;go_enter func38,ntmps38
 go_upto_region 2 with(go_at_call 80;(with_reducible refine KR.out.mono ?_);rintro e w1 ⟨x,r,u,P1,rfl,m,j,R,o,s,l,N,S,b,L⟩
                       have E:=wN m;have t:=wN j;have c:=wN (And.intro R (And.intro o l));have T:=wN N;have y:=wN S;have Z:=wN b;have z:=wN L;have W:=wN s;clear m j R o l N S b L s)
 rcases W.out with B|B
 . subst B
   go_wp2;go_ret2;obtain⟨g1,M,g3⟩:=T.out (by first|rfl|trivial);obtain⟨hm,hb,Ef⟩:=lf E.out Z.out (fun _=>undef) (fun _=>[]);have O:Ext P w _:=(Ext.of_chg t.out fun k f=>f).trans (P2:=P) (Ext.of_below hb) fun k _ e=>e
   refine A4 ⟨_,rfl,u,z.out,_,OX (X:=⟨G,G,[],[],AN,0,u⟩) (P:=P) hm ⟨⟨by show Lst G.length u G;rw[I.out];exact g3,g1,by rw[M];exact A7 _,fun e=>Bool.noConfusion (show AN=AQ from e),A7 _⟩,by show 64<=G.length/\G.length<=768;rw[I.out];exact v.out,M,fun x b=>absurd b Bu,fun x b=>absurd b Bu,A7 _,A7 _,rfl,fun i _ _=>(AJ Bu).symm,fun _=>rfl,fun e=>Bool.noConfusion (show AN=AQ from e)⟩ V.out O.size ?_,O.chg⟩;intro k f;have hs:=t.out.size;rcases f with f|rfl|rfl|rfl| ⟨x,b,_⟩| ⟨x,b,_⟩
   . exact Mf t.out f
   . exact A8 Aa
   . exact A8 Aa
   . exact A8 Aa
   . exact absurd b Bu
   . exact absurd b Bu
 . subst B
   go_wp2;go_ret2;refine A8 ⟨?_,rfl,u,P1,E.out,t.out,c.out.1,c.out.2.1,fun kp=>⟨G,Ai,c.out.2.2 kp⟩⟩;cases hf:ds.fu
   . exact absurd (y.out hf) Af
   . rfl
def landed:Sto SInv SDead where
 plain h:=by obtain⟨_,_,_,_,_,_,_,_,_,_,_,_,_,i,_⟩:=h;exact i.ok
 ptr h:=by obtain⟨b,_,_,_,_,_,_,_,_,_,_,l,_⟩:=h;exact⟨b,l⟩
 lt h:=by obtain⟨_,_,_,_,_,_,_,_,_,_,_,_,_,_,_,g⟩:=h;exact g
 keep h hs a:=h.keep hs a
 disk h:=by obtain⟨_,_,_,d,_,_,_,_,_,_,_,_,j,_,c,_⟩:=h;exact⟨d,fun k a=>c k (A4 a),j.dk⟩
 deadLt h:=by obtain⟨_,_,_,_,_,_,g⟩:=h;exact g
 deadKeep h hs a:=h.keep hs a
 deadDisk h:=by obtain⟨_,d,_,_,f,c,_⟩:=h;exact⟨d,fun k a=>c k (A4 a),f⟩
 begin h:=dW h
 put h hv hn hj:=MM h hv hn hj
 getOut h _ c:=lk h c
 getIn h hn:=oO h hn
 endNo h hw:=eI h hw _
 endUndo h hw:=Wt h hw
 endKeep h hw:=VD h hw
 opens h OO Lp hU f hJ:=Vq h OO Lp hU f hJ
end
section
open Go.RowKit BM
def qR(b l i j:Int):Prop:=C7 b=AN\/C7 l=AN\/b<l\/Gu i j=AN\/i=0\/i=65535
def sV{b l g i j:Int}(hb:b<=9223372036854775807)(z:l<=9223372036854775807)(hi:0<=i/\i<=65535)(y:0<=j/\j<=65535)(o:qR b l i j)(p:AA)(w:C):
 AH Aq 202 #[p,J Y b,J Y l,J Y g,BS #[J .u16 i,J .u16 j]] w fun e w'=>e=Av (AT #[J Y 0,J Y 1])/\AB w.heap.size w w':=by
 have a:=AF w (Ay #[J .u16 i,J .u16 j] 200);cases k:C7 b
 . have q:=wN (fun W:C=>LL b hb k W)
   clear o k;go_enter func202,ntmps202;go_wp2_with (go_at_call 205;refine Ad (q.out _) ?_;rintro w' rfl)
   go_ret2;exact⟨rfl,a⟩
 . have q:Hid (∀ W:C,AH Aq 205 #[J Y b] W fun e w'=>e=Av (AY AQ)/\W=w'):=wN fun W=>by rw[<- k];exact GO b hb W
   cases n:C7 l
   . have s:=wN (fun W:C=>LL l z n W)
     clear o k n;go_enter func202,ntmps202
     go_wp2_with (first|(go_at_call 205;(with_reducible refine Ad (q.out _) ?_);rintro w' rfl)|(go_at_call 205;(with_reducible refine Ad (s.out _) ?_);rintro w' rfl))
     go_ret2;exact⟨rfl,a⟩
   . have s:Hid (∀ W:C,AH Aq 205 #[J Y l] W fun e w'=>e=Av (AY AQ)/\W=w'):=wN fun W=>by rw[<- n];exact GO l z W
     by_cases I:b<l
     . clear o k n
       go_enter func202,ntmps202
       go_wp2_with (first|(go_at_call 205;(with_reducible refine Ad (q.out _) ?_);rintro w' rfl)|(go_at_call 205;(with_reducible refine Ad (s.out _) ?_);rintro w' rfl))
       go_ret2;exact⟨rfl,a⟩
     . cases r:Qz i j
       . have v:=wN (Lg i j AN r)
         cases t:Gu i j
         . have x:=wN (Hk i j hi y AN t)
           have u:=wN (fun(W:C) (hb:AB (w.alloc (Ay #[J .u16 i,J .u16 j] 200)).heap.size (w.alloc (Ay #[J .u16 i,J .u16 j] 200)) W)=>show W.cell? ⟨w.heap.size,0,H⟩=S (J .u16 i)/\W.cell? ⟨w.heap.size,1,H⟩=S (J .u16 j) from⟨AD _ _ _ _ _ _ (BD (AC w _) hb),AD _ _ _ _ _ _ (BD (AC w _) hb)⟩);have d:=wN a;clear o k n r t a;go_enter func202,ntmps202
           go_wp2_with (first|(go_at_call 205;(with_reducible refine Ad (q.out _) ?_);rintro w' rfl)|(go_at_call 205;(with_reducible refine Ad (s.out _) ?_);rintro w' rfl)|(go_at_call 213;refine Ad (v.out _) ?_;rintro A c;obtain⟨B,D⟩:=u.out _ c;have f:=d.out.trans (c.mono d.out.size))|(go_at_call 214;refine Ad (x.out _) ?_;rintro K m))
           go_ret2;exact⟨rfl,f.trans (m.mono f.size)⟩
         . have x:=wN (Hk i j hi y AQ t)
           obtain rfl:i=65535:=by
            have G:i≠0:=fun e=>by subst e;rw[Ps t] at r;exact absurd r Af
            rcases o with h|h|h|h|h|h
            . rw[k] at h;cases h
            . rw[n] at h;cases h
            . exact absurd h I
            . rw[t] at h;cases h
            . exact absurd h G
            . exact h
           have u:=wN (fun(W:C) (hb:AB (w.alloc (Ay #[J .u16 65535,J .u16 j] 200)).heap.size (w.alloc (Ay #[J .u16 65535,J .u16 j] 200)) W)=>show W.cell? ⟨w.heap.size,0,H⟩=S (J .u16 65535)/\W.cell? ⟨w.heap.size,1,H⟩=S (J .u16 j) from⟨AD _ _ _ _ _ _ (BD (AC w _) hb),AD _ _ _ _ _ _ (BD (AC w _) hb)⟩);have d:=wN a;clear o k n r t a;go_enter func202,ntmps202
           go_wp2_with (first|(go_at_call 205;(with_reducible refine Ad (q.out _) ?_);rintro w' rfl)|(go_at_call 205;(with_reducible refine Ad (s.out _) ?_);rintro w' rfl)|(go_at_call 213;refine Ad (v.out _) ?_;rintro A c;obtain⟨B,D⟩:=u.out _ c;have f:=d.out.trans (c.mono d.out.size))|(go_at_call 214;refine Ad (x.out _) ?_;rintro K m;obtain⟨E,F⟩:=u.out _ (c.trans (m.mono c.size))))
           go_ret2;exact⟨rfl,f.trans (m.mono f.size)⟩
       . have v:=wN (Lg i j AQ r)
         have d:=wN a;clear o k n r a;go_enter func202,ntmps202
         go_wp2_with (first|(go_at_call 205;(with_reducible refine Ad (q.out _) ?_);rintro w' rfl)|(go_at_call 205;(with_reducible refine Ad (s.out _) ?_);rintro w' rfl)|(go_at_call 213;refine Ad (v.out _) ?_;rintro A c))
         go_ret2;exact⟨rfl,d.out.trans (c.mono d.out.size)⟩
section
variable {w:C}{P:Nat->Prop}{d p:AA}{X:XSt}{O D:Ag}{k:Nat}
structure TakeK (w:C) (p:AA) (O:Ag) (a m:Nat) (g i j:Int) (P:Nat->Prop):Prop where
 f1:∀ W:C,AH Aq 205 #[J Y (64*(a:Int))] W fun e w'=>e=Av (AY AQ)/\W=w'
 f2:∀ W:C,AH Aq 205 #[J Y (64*(m:Int))] W fun e w'=>e=Av (AY AQ)/\W=w'
 fr:∀ W:C,AH Aq 213 #[BS #[J .u16 i,J .u16 j]] W fun e w'=>e=Av (AY AN)/\AB W.heap.size W w'
 fo:∀ W:C,AH Aq 214 #[BS #[J .u16 i,J .u16 j]] W fun e w'=>e=Av (AY AQ)/\AB W.heap.size W w'
 us:∀ W:C,AB w.heap.size w W->AH Aq 215 #[p,J Y (64*(a:Int))] W fun e w'=>e=Av (AT #[J Y (Dz O (64*a)),J Y 0])/\AB W.heap.size W w'
 op:∀ W:C,AH Aq 216 #[J Y (64*(m:Int))] W fun e w'=>e=Av (J Y (62*(m:Int)-42))/\W=w'
 fi:∀ W:C,AB w.heap.size w W->AH Aq 217 #[p,J Y (64*(m:Int)),J Y g] W fun e w'=>e=Av (AT #[J Y (G4 O (64*m) (GZ (64*m) g)),J Y 0])/\AB W.heap.size W w'
def pG(h:SInv w P d p X)(l:Has X.cur O k)(c:OOk O k){a m:Nat}(b:1<=m)(r:m<=a)(s:a<=k)(g:Int){i j:Int}(hi:0<=i/\i<=65535)(q:0<=j/\j<=65535)(hf:Gu i j=AQ)(n:i≠0):TakeK w p O a m g i j P:=by
 have o:=c.k12
 exact⟨fun W=>GK a Aa Aa W,fun W=>GK m b Aa W,Lg i j AN (by rw[Qz,show(i==0)=AN by simpa using n];rfl),Hk i j hi q AQ hf,
  fun W f=>Xh (h.low f) l c Aa s,fun W=>Sh m b Aa W,fun W f=>XM (h.low f) l c b Aa g⟩
def VR(h:SInv w P d p X)(A:Has X.cur O k)(s:OOk O k){a m:Nat}(q:1<=m)(v:m<=a)(F:a<=k)(g:Int){i j:Int}(hi:0<=i/\i<=65535)(D:0<=j/\j<=65535)(hf:Gu i j=AQ)(y:i≠0)(z:i≠65535)(M:62*(m:Int)-42<=Dz O (64*a)):
 AH Aq 202 #[p,J Y (64*(a:Int)),J Y (64*(m:Int)),J Y g,BS #[J .u16 i,J .u16 j]] w fun e w'=>e=Av (AT #[J Y 0,J Y 13])/\AB w.heap.size w w':=by
 have r:=s.k12;have K:=wN (pG h A s q v F g hi D hf y);have x:=wN (fun(W:C) (B:AB (w.alloc (Ay #[J .u16 i,J .u16 j] 200)).heap.size (w.alloc (Ay #[J .u16 i,J .u16 j] 200)) W)=>show W.cell? ⟨w.heap.size,0,H⟩=S (J .u16 i)/\W.cell? ⟨w.heap.size,1,H⟩=S (J .u16 j) from⟨AD _ _ _ _ _ _ (BD (AC w _) B),AD _ _ _ _ _ _ (BD (AC w _) B)⟩);have l:=wN (AF w (Ay #[J .u16 i,J .u16 j] 200));have R:(i==65535)=AN:=by simpa using z
 have E:¬ (64*(a:Int)<64*(m:Int)):=Aa;obtain⟨U,t⟩:=nm (Dz O (64*a));have G:Hid (∀ W:C,AB w.heap.size w W->AH Aq 215 #[p,J Y (64*(a:Int))] W fun e w'=>e=Av (AT #[J Y U,J Y 0])/\AB W.heap.size W w'):=wN (by rw[t];exact K.out.us);rw[<- t] at M;clear h A s hi D hf y z t q F r;go_enter func202,ntmps202
 go_wp2_with (first|(go_at_call 205;(with_reducible refine Ad (K.out.f1 _) ?_);rintro w' rfl)|(go_at_call 205;(with_reducible refine Ad (K.out.f2 _) ?_);rintro w' rfl)|(go_at_call 213;refine Ad (K.out.fr _) ?_;rintro T c;obtain⟨N,Q⟩:=x.out _ c;have f:=l.out.trans (c.mono l.out.size))|(go_at_call 214;refine Ad (K.out.fo _) ?_;rintro V o;obtain⟨I,L⟩:=x.out _ (c.trans (o.mono c.size));have b:=f.trans (o.mono f.size))|(go_at_call 215;refine Ad (G.out _ b) ?_;rintro Z u;have n:=b.trans (u.mono b.size))|(go_at_call 216;refine Ad (K.out.op _) ?_;rintro w' rfl))
 go_ret2;exact⟨rfl,n⟩
end
end
end Go.Proofs.YtfpdajplfmakhaaGreatDoor
