/- What the law rests on. -/
import Derived.Test.YtfpdajplfmakhaaGreatDoorQC7
open Go.Value renaming int->J,slice->Ak,pointer->Al,tuple->AH,bool->AP,agg->BN
open Go.IntKind renaming i64->Y
open Go.Proofs.Tryz renaming prog->Ae
open Option renaming none->S,some->Ag
open Go renaming World->Ai,Value->Ao,Calls->Av,Oper->BE,wpList->Cf,TypeId->Cg
open Go.Ending renaming returned->Aj
open Go.Obj renaming cells->Am
open Go.RowKit renaming Below->Ap
open List renaming replicate->Aw,length_cons->Bm
open Bool renaming false->Ay,true->AE
open Array renaming replicate->AK
open Or renaming inl->AU,inr->AW
open Int renaming toNat_natCast->Cd
namespace Go.Proofs.YtfpdajplfmakhaaGreatDoor
set_option maxHeartbeats 12000000
set_option linter.unusedVariables false
set_option maxRecDepth 100000
section
open Go.RowKit
structure P2 (G:List (List Int)) (O:List (Int × Int)) (kk g:Nat):Prop where
 len:G.length=64*kk
 ds:∀ h,h<g->G.getD (Ch h) []=Gz (h:Int) (CQ (FJ O h) 64)/\G.getD (Ch h+1) []=DM (FJ O h)
 jr:∀ i,3<=i->i<43->G.getD i []=zb
theorem P2.zero(O:List (Int × Int)){kk:Nat}(h:1<=kk):P2 (Aw (64*kk) zb) O kk 0:=
 ⟨A3,fun h hh=>absurd hh (A9 _),fun i h1 h2=>by rw[An,Cu,Au (by omega)];rfl⟩
theorem P2.group{G:List (List Int)}{O:List (Int × Int)}{kk g:Nat}(h:P2 G O kk g)(hg:g<kk):P2 ((G.set (Ch g) (Gz (g:Int) (CQ (FJ O g) 64))).set (Ch g+1) (DM (FJ O g))) O kk (g+1):=by
 have hl:=h.len;have hin:=Ji hg;have e:∀ m,((G.set (Ch g) (Gz (g:Int) (CQ (FJ O g) 64))).set (Ch g+1) (DM (FJ O g))).getD m []=if m=Ch g+1 then DM (FJ O g) else if m=Ch g then Gz (g:Int) (CQ (FJ O g) 64) else G.getD m []:=fun m=>by
  rw[BM.getD_set _ _ _ _ _ (by rw[AF];omega),BM.getD_set _ _ _ _ _ (by omega)]
 refine⟨by rw[AF,AF];exact hl,fun x hx=>?_,fun i h1 h2=>?_⟩
 . by_cases he:x=g
   . subst he
     exact⟨by rw[e,Ax (by omega),Au rfl],by rw[e,Au rfl]⟩
   . have hne:=Ug he
     obtain⟨a,b⟩:=h.ds x (by omega);exact⟨by rw[e,Ax hne.2.2,Ax hne.1];exact a,by rw[e,Ax (by omega),Ax hne.2.1];exact b⟩
 . rw[e,Ax (by unfold Ch;split <;> omega),Ax (by unfold Ch;split <;> omega)];exact h.jr i h1 h2
theorem P2.other{G:List (List Int)}{O:List (Int × Int)}{kk g:Nat}(h:P2 G O kk g){i:Nat}(hi:i=0\/(43<=i/\i<64))(x:List Int):P2 (G.set i x) O kk g:=by
 have hl:=h.len;have e:∀ m,m≠i->(G.set i x).getD m []=G.getD m []:=fun m hm=>by rw[An,Bp (CT hm),<- An]
 refine⟨by rw[AF];exact hl,fun y hy=>?_,fun j h1 h2=>?_⟩
 . obtain⟨a,b⟩:=h.ds y hy
   have h1:Ch y≠i/\Ch y+1≠i:=by unfold Ch;split <;> omega
   exact⟨by rw[e _ h1.1];exact a,by rw[e _ h1.2];exact b⟩
 . rw[e _ (by omega)];exact h.jr j h1 h2
theorem TN(w:Ai)(b off n cap l h:Nat)(h1:l<=h)(h2:h<=cap)(h3:l<cap):
 (Instr.sliceAt 146 (Ak (Ag ⟨b,off,S⟩) n cap) (Ag (J Y (l:Int))) (Ag (J Y (h:Int))) S).run Ae w=.ok (Ak (Ag ⟨b,off+l*2,S⟩) (h-l) (cap-l)) w:=by
 obtain⟨i,g2,g3,g4,g5⟩:=Bf T9;have hne:cap≠l:=by omega
 have ee:Ae.elem 146=200:=by kernel_rfl
 have hs:(sizeOf 200).run Ae w=.ok 2 w:=by simp[sizeOf,typeInfo,g2,g4]
 rw[run_sliceAt_slice w 146 _ _ _ _ (by rw[ee];exact Tryz.underlying146),run_slice_lh w 146 _ n cap (by rw[ee];exact Tryz.underlying146) Y Y (l:Int) (h:Int) (by omega) (by omega) (by omega),ee,hs];simp[sliced,hne,BY]
theorem NI{w:Ai}{ops:Array BE}{rest:List BE}{o:BE}{a:Act}{Q:Exit->Act->Ai->Prop}(Du:o.guard=S)(x lo hi:Operand)(ho:o.op=.slice 146 x (Ag lo) (Ag hi) S)
 (b off n cap:Nat) (hx:a.eval x=Ak (Ag ⟨b,off,S⟩) n cap) (L H:Int) (hl:a.eval lo=J Y L) (hh:a.eval hi=J Y H) (l h m:Nat) (hm:h-l=m) (hL:L=l) (hH:H=h) (h1:l<=h) (h2:h<=cap) (h3:l<cap) (of:Nat) (hof:off+l*2=of)
 (hK:Cf Ae ops Q rest (a.put o.dst (Ak (Ag ⟨b,of,S⟩) m (cap-l))) w):Cf Ae ops Q (o :: rest) a w:=by
 subst hL hH hm hof;refine CA Du fun K hK'=>?_
 unfold BE.wp execOp;simp only[ho,hx,hl,hh,Option.map_some,Option.map_none,TN w b off n cap l h h1 h2 h3,Dg,Sem.run_pure,Result.andThen_ok];exact hK' _ _ hK
theorem nI:(Ae.info? 159).map (fun i=>(i.zero,i.size,i.bytes))=Ag (Ag (BN #[J Y 0,J Y 0,J Y 0,J Y 0,J Y 0,J Y 0,J Y 0,J Y 0,J Y 0,J Y 0,J Y 0,J Y 0,J Y 0,J Y 0]),14,112):=by kernel_rfl
theorem I6(w:Ai){ops:Array BE}{rest:List BE}{o:BE}{a:Act}{Q:Exit->Act->Ai->Prop}
 (hg:o.guard=S) (l c:Operand) (JF:o.op=Op.makeSlice 158 l c) (C:Int) (n:Nat) (hl:a.eval l=J Y C) (hc:a.eval c=J Y C) (hC:C=n) (hn:n<=1000000)
 (hK:Cf Ae ops Q rest (a.put o.dst (Ak (Ag ⟨w.heap.size,0,S⟩) n n)) (w.alloc (Am (nC (Aw n zeroI)).toArray 159))):
 Cf Ae ops Q (o :: rest) a w:=by
 refine CA hg fun K hK'=>?_
 obtain⟨i,h2,h3,h4,h5⟩:=Bf nI;subst hC;have CX:=run_make (P:=Ae) w 158 159 i (BN #[J Y 0,J Y 0,J Y 0,J Y 0,J Y 0,J Y 0,J Y 0,J Y 0,J Y 0,J Y 0,J Y 0,J Y 0,J Y 0,J Y 0]) Tryz.underlying158 h2 h3 Y Y n n (by omega) (by omega) (by rw[h5];omega) (by omega);unfold BE.wp;simp only[Cd,h4,V7] at CX;simp[execOp,JF,hl,hc,CX,Result.andThen];exact hK' _ _ hK
theorem fw{w:Ai}{go:Nat}{kk g cap:Nat}(hgo:go<w.heap.size)(hg:g<kk)(hc:∀ j,j<64*kk->w.cell? ⟨go,j*2,S⟩=Ag (J .u16 (Gr (64*kk) j).1)/\w.cell? ⟨go,j*2+1,S⟩=Ag (J .u16 (Gr (64*kk) j).2)):
 OwSl w (Ak (Ag ⟨go,64*g*2,S⟩) 64 cap) (FJ (Gv kk) g):=by
 have hl:(FJ (Gv kk) g).length=64:=FS (CL _ _) hg;have e:∀ j,j<64->(FJ (Gv kk) g).getD j (0,0)=Gr (64*kk) (64*g+j):=fun j hj=>by
  rw[JL _ _ hj];exact FX _ _ _ (by omega)
 refine⟨JS fun j hj=>?_,AW ⟨⟨go,64*g*2,S⟩,cap,by rw[hl],fun j hj=>?_⟩⟩
 . rw[e j (by omega)];exact TK _ _
 . rw[hl] at hj
   obtain⟨a,b⟩:=hc (64*g+j) (by omega);refine⟨hgo,rfl,?_,?_⟩
   . rw[e j hj]
     show w.cell? ⟨go,64*g*2+j*2,S⟩=_
     rw[show 64*g*2+j*2=(64*g+j)*2 by omega];exact a
   . rw[e j hj]
     show w.cell? ⟨go,64*g*2+j*2+1,S⟩=_
     rw[show 64*g*2+j*2+1=(64*g+j)*2+1 by omega];exact b
theorem BB2.low{w w':Ai}{B E:Nat}{v:Ao}{G:List (List Int)}(h:BB2 w B E v G)(hb:Ap w.heap.size w w'):BB2 w' B E v G:=by
 obtain⟨vs,hl,hr,ho⟩:=h;exact⟨vs,hl,fun j hj=>(hr j hj).below hb,Fs ho fun g hg=>hb.block g (BO ho g hg).2⟩
theorem BB2.shape0{w:Ai}{B E:Nat}{v:Ao}{G:List (List Int)}(h:BB2 w B E v G)(h0:0<G.length):∃ g cap,v=Ak (Ag ⟨g,0,S⟩) G.length cap/\B<=g/\g<w.heap.size:=by
 obtain⟨vs,hl,hr,ho⟩:=h;rcases ho.2 with⟨_,e0⟩| ⟨g,cap,cur,rfl,hB,hg,_⟩
 . omega
 . exact⟨g,cap,rfl,hB,(Ah.1 hg).1⟩
theorem fh(n:Int){k:Nat}(h:49<=k):GT n k=[n,0,0,0,0,0,43,44,45,46,47,48]:=by
 have e:Yk k=[43,44,45,46,47,48]:=by
  unfold Yk;apply Bg (by simp);intro i h1 h2;simp only[Co,Cc];simp at h1;rw[Au (by omega)];have:i=0\/i=1\/i=2\/i=3\/i=4\/i=5:=by omega
  rcases this with rfl|rfl|rfl|rfl|rfl|rfl <;> rfl
 unfold GT;rw[e];rfl
theorem eY{kk:Nat}(h1:1<=kk)(h2:kk<=12)(w:Ai):Av Ae 73 #[J Y (64*(kk:Int))] w fun e w'=>e=Aj (BN #[J Y (64*(kk:Int)),J Y 0,J Y 0,J Y 0,J Y 0,J Y 0,J Y 43,J Y 44,J Y 45,J Y 46,J Y 47,J Y 48])/\Ap w.heap.size w w':=by
 have:=bH h1 h2 w;rw[fh _ (by omega)] at this;exact this
theorem cX{kk:Nat}(h1:1<=kk)(h2:kk<=12)(w:Ai):Av Ae 75 #[BN #[J Y (64*(kk:Int)),J Y 0,J Y 0,J Y 0,J Y 0,J Y 0,J Y 43,J Y 44,J Y 45,J Y 46,J Y 47,J Y 48]] w fun e w'=>∃ u,e=Aj (AH #[u,J Y 0])/\OB w' w.heap.size u (Gj (Eb kk))/\Ap w.heap.size w w':=by
 have hT:RA (Eb kk):=fun i=>by
  unfold num Eb;by_cases hi:i<12
  . have:i=0\/i=1\/i=2\/i=3\/i=4\/i=5\/i=6\/i=7\/i=8\/i=9\/i=10\/i=11:=by omega
    rcases this with rfl|rfl|rfl|rfl|rfl|rfl|rfl|rfl|rfl|rfl|rfl|rfl <;> simp <;> omega
  . rw[An,A2 (by simp;omega)];decide
 refine(nF (L:=Eb kk) rfl hT w).mono fun e w' he=>?_
 rcases he with⟨_,v,h1,h2,h3⟩| ⟨h0,_,_⟩
 . exact⟨v,h1,h2,h3⟩
 . rw[Pr h1 h2] at h0;cases h0
theorem kR:(Ae.info? 159).map (·.size)=Ag 14:=by kernel_rfl
theorem o6{W:Ai}{g:Nat}{n:Int}{T:Cg}(h:W.heap[g]? =Ag (Am #[J Y n,J Y 0,J Y 0,J Y 0,J Y 0,J Y 0,J Y 43,J Y 44,J Y 45,J Y 46,J Y 47,J Y 48] T (0,0))){k:Nat}(hk:k<6):W.cell? ⟨g,6+k,S⟩=Ag (J Y ((43+k:Nat):Int)):=by
 rw[Aq _ _ _ _ _ _ h];have:k=0\/k=1\/k=2\/k=3\/k=4\/k=5:=by omega
 rcases this with rfl|rfl|rfl|rfl|rfl|rfl <;> rfl
theorem bY{kk:Nat}(h1:1<=kk)(h2:kk<=12)(w:Ai):Av Ae 36 #[J Y (64*(kk:Int)),J Y (64*(kk:Int))] w fun e w'=>∃ v G,e=Aj v/\BBR w' 0 v G/\P2 G (Gv kk) kk kk/\New3 G kk/\Ap w.heap.size w w':=by
 have KN:=wM (fun(W:Ai)=>RD h1 h2 W);have KG:=wM (fun(W:Ai)=>N8 kk h1 h2 W);have KSu:=wM (fun(W:Ai)=>eY h1 h2 W);have KES:=wM (fun(W:Ai)=>cX h1 h2 W);obtain⟨M8,tz⟩:∃ M:Nat,M=8:=⟨_,rfl⟩;have HM8:Hid ((8:Int)=(M8:Int)):=wM (by omega);have hM8':1<M8:=by omega
 have hM82:M8<=1000:=by omega
 have HA0:Hid (G7 ((Aw M8 zeroI).set 1 [2,1,0,0,0,0,0,0,0,0,0,0,0,0])=AE/\Gw ((Aw M8 zeroI).set 1 [2,1,0,0,0,0,0,0,0,0,0,0,0,0])=Gw (Jy newN 0)):=wM (by subst tz;exact⟨newT_frm.1,rfl⟩);have HA1:Hid (G7 (Aw M8 zeroI)=AE/\∀ k,k<6->k≠0->Gw (Aw M8 zeroI)=Gw (Jy newN k)):=wM (by subst tz;exact⟨newT_frm.2,fun k h h0=>by rw[Y0 h h0]⟩);clear tz;have HOK:=wM (aA h1 h2);obtain⟨M,hM⟩:∃ M:Nat,M=256:=⟨_,rfl⟩;have HM:Hid ((256:Int)=(M:Int)):=wM (by omega);have hM2:M<=1000:=by omega
 have HBZ:Hid (∀ (W:Ai) (B g:Nat),W.heap[g]? =Ag (Am (AK M (J .u8 0)) 5 (0,0))->BElt W B (Ak (Ag ⟨g,0,S⟩) M M) zb):=wM (by subst hM;exact fun W B g h=>dF h);clear hM;go_enter Tryz.func36,Tryz.ntmps36;go_wp2;go_loopw [5,23] (fun v i wr=>∃ k:Nat,k<=64*kk/\i=J Y k/\Hid (BB2 wr w.heap.size 0 v (Aw k zb))/\Ap w.heap.size w wr) (fun _ i _=>64*kk-(intOf i).toNat)
 case atStart=>exact⟨0,by omega,rfl,⟨[],rfl,fun j hj=>absurd hj (A9 _),Dn _ _ _ _⟩,AC _ _⟩
 case round=>
  obtain⟨k,hk,rfl,HV,hbr⟩:=hrel;by_cases hlt:k<64*kk
  . have WN:(k:Int)<64*(kk:Int):=by omega
    have hbz:=As wr (Am (AK M (J .u8 0)) 5);have HE:=wM (HBZ.out (wr.alloc (Am (AK M (J .u8 0)) 5)) 0 wr.heap.size (Ar wr _));have HV2:=wM (HV.out.low hbz);have HZ:Hid (Aw (k+1) zb=Aw k zb ++ [zb]):=wM List.replicate_succ';have HL:Hid ((Aw k zb).length<=100000):=wM (by rw[A3];omega);have Ed:=hbr.size
    go_wp2_with (first
     |(at_make;refine CJ _ rfl _ _ rfl _ M rfl rfl HM.out (by omega) ?_)
     |(at_builtin;refine GI 95 Tryz.underlying95 (wr.alloc (Am (AK M (J .u8 0)) 5)) (Ak (Ag ⟨wr.heap.size,0,S⟩) M M) zb rfl (.tmp 25) (.tmp 27) rfl w.heap.size 0 (AT _) _ (Aw k zb) rfl HV2.out HE.out _ rfl (by simp) HL.out (by simp;omega) ?_;intro v' w4 hv4 hb4;have HV4:Hid (BB2 w4 w.heap.size 0 v' (Aw (k+1) zb)):=wM (by rw[HZ.out];exact hv4);have HB4:=wM ((hbr.trans (hbz.mono Ed)).trans hb4);clear hv4 hb4))
    go_roundw
    case rel=>exact⟨k+1,by omega,by go_num,HV4,HB4.out⟩
    case measure=>simp[intOf];omega
  . obtain rfl:k=64*kk:=by omega
    obtain⟨g0,cap0,ev,mc,u_⟩:=HV.out.shape0 (by rw[A3];omega);rw[A3] at ev;subst ev;have HV1:=wM (HV.out.lower (AT _)).bbr;clear HV
    go_wp2_with (first
     |(go_at_call 66;refine(KN.out _).mono ?_;rintro e w3 ⟨b,go,capo,Ms,rfl,hR,c1,hab,hag,hMs,hbl,MX,Cx,hcc,hb3⟩)
     |(go_at_call 67;refine(KG.out _).mono ?_;rintro e w' ⟨rfl,rfl⟩))
    have HP0:Hid (∃ G,BBR w3 0 (Ak (Ag ⟨g0,0,S⟩) (64*kk) cap0) G/\P2 G (Gv kk) kk 0):=wM ⟨_,HV1.out.below hb3,P2.zero _ h1⟩;have HB0:Hid (Ap w.heap.size w w3/\w3.heap.size<=w3.heap.size):=wM ⟨hbr.trans (hb3.mono hbr.size),At _⟩;have HC1:=wM c1;have HCC:=wM hcc;obtain⟨A,hA⟩:=nm wr.heap.size;have HG0:Hid (w.heap.size<=g0/\g0<A):=wM (by rw[hA];exact⟨mc,u_⟩);have HBG:Hid (A<=b/\A<=go/\b<w3.heap.size/\go<w3.heap.size):=wM (by rw[hA];exact⟨hab,hag,hbl,MX⟩);clear hR c1 hMs hcc hb3 hab hag hbl MX mc u_ HV1 hbr HBZ HM hA;go_loopw [34] (fun i WI=>∃ g:Nat,g<=kk/\i=J Y g/\Hid (∃ G,BBR WI 0 (Ak (Ag ⟨g0,0,S⟩) (64*kk) cap0) G/\P2 G (Gv kk) kk g)/\Hid (∀ x,A<=x->x<w3.heap.size->WI.heap[x]? =w3.heap[x]?)/\Hid (Ap w.heap.size w WI/\w3.heap.size<=WI.heap.size)) (fun i _=>kk-(intOf i).toNat)
    case atStart=>exact⟨0,by omega,rfl,HP0,wM fun _ _ _=>rfl,HB0⟩
    case round=>
     obtain⟨g,hg,rfl,HP,HF,HB⟩:=hrel;clear HP0 HB0;by_cases gU:g<kk
     . obtain⟨G,hG,hP⟩:=HP.out
       have pf:=hP.len;have eg:(g:Int)<12:=(by omega);have egk:(g:Int)<(kk:Int):=(by omega);have hin:=Ji gU;have i1:(Ch g:Int)<64*(kk:Int):=(by omega);have i2:(Ch g:Int)+1<64*(kk:Int):=(by omega);have cc1:=(A5 (a:=⟨b,1,S⟩) (HF.out b HBG.out.1 HBG.out.2.2.1)).trans HC1.out;have va:∀ j,j<64*kk->wr.cell? ⟨go,j*2,S⟩=Ag (J .u16 (Gr (64*kk) j).1)/\wr.cell? ⟨go,j*2+1,S⟩=Ag (J .u16 (Gr (64*kk) j).2):=fun j hj=>
        ⟨(A5 (a:=⟨go,j*2,S⟩) (HF.out go HBG.out.2.1 HBG.out.2.2.2)).trans (HCC.out j hj).1,(A5 (a:=⟨go,j*2+1,S⟩) (HF.out go HBG.out.2.1 HBG.out.2.2.2)).trans (HCC.out j hj).2⟩
       have hos:=fw (cap:=capo-64*g) (AA HBG.out.2.2.2 HB.out.2) gU va;obtain⟨_,gA,_⟩:=HOK.out.gr gU;obtain⟨Og,sD⟩:=nm (FJ (Gv kk) g);obtain⟨D,hD⟩:=nm (Gz (g:Int) (CQ Og 64));have hP3:=hP.group gU;rw[<- sD] at hos gA hP3;rw[<- hD] at hP3;have KP:=wM (XW hos gA);have KO:Hid (∀ W,Ap wr.heap.size wr W->Av Ae 69 #[J Y g,Ak (Ag ⟨go,64*g*2,S⟩) 64 (capo-64*g)] W fun e w'=>∃ aL nL cL,e=Aj (AH #[BN #[J Y g,Ak aL nL cL],J Y 0])/\KSl w' (Ak aL nL cL) (CQ Og 64)/\Ap W.heap.size W w'):=wM fun W hb=>(f9 (hos.below hb) (g:Int) (by omega) (by omega) gA).mono fun e w' ⟨v,h1,h2,h3⟩=>by
        obtain⟨aL,cL,rfl⟩:=h2.ksl.shape;exact⟨_,_,_,h1,h2.ksl,h3⟩
       have KE:Hid (∀ (W:Ai) (v:Ao),KSl W v (CQ Og 64)->Av Ae 70 #[BN #[J Y g,v]] W fun e w'=>∃ v,e=Aj (AH #[v,J Y 0])/\OB w' W.heap.size v D/\Ap W.heap.size W w'):=wM fun W v hk=>by
        rw[hD];exact cp hk (g:Int) (by omega) (by omega) (EH _ _)
       have KGd:=wM (fun(W:Ai)=>Nx (g:Int) W);have KGo:=wM (fun(W:Ai)=>UQ (g:Int) W);rw[SU (show g<12 by omega)] at KGd;rw[XS (show g<12 by omega)] at KGo;have HGG:=wM hG;have HP3:=wM hP3;have HGL:Hid (Ch g<G.length/\Ch g+1<G.length):=wM (by omega);have uE:64*g+64<=capo:=(by omega);clear hG hP pf hin va hos gA sD hD hP3
       go_wp2_with (first
        |(with_reducible refine NI rfl (.tmp 40) (.tmp 42) (.tmp 45) rfl go 0 (64*kk) capo rfl (64*(g:Int)) (64*(g:Int)+64) rfl rfl (64*g) (64*g+64) 64 (by omega) (by omega) (by omega) (by omega) uE (by omega) (64*g*2) (by omega) ?_)
        |(go_at_call 68;refine KP.out.mono ?_;rintro e w4 ⟨vp,rfl,hvp,hb4⟩)
        |(go_at_call 69;refine(KO.out _ hb4).mono ?_;rintro e w5 ⟨aL,nL,cL,rfl,hkl,hb5⟩;have hb45:=hb4.trans (hb5.mono hb4.size);have hbx:=As w5 (Am #[J Y g,Ak aL nL cL] 152);have ve:=hkl.below hbx)
        |(go_at_call 70;refine(KE.out _ _ ve).mono ?_;rintro e w6 ⟨vd,rfl,hvd,hb6⟩;have hb46:=(hb45.trans (hbx.mono hb45.size)).trans (hb6.mono (AI hb45.size hbx.size));have qy:=(hb5.trans (hbx.mono hb5.size)).trans (hb6.mono (AI hb5.size hbx.size));have hG6:=HGG.out.below hb46;have hvp6:=(hvp.below qy).elt (B:=0);have vf:=hvd.elt (B:=0);obtain⟨cur6,hr6,_,_⟩:=hG6.row)
        |(with_reducible refine DZ rfl (.tmp 71) (.tmp 69) rfl 0 g0 (64*kk) cap0 (Ch g) G D vd rfl rfl hG6 HGL.out.1 vf ?_;intro w7 qz hb7 hw7;have vg:=hvp6.wrote hw7 (AT _) hr6 (by decide))
        |(with_reducible refine DZ rfl (.tmp 72) (.tmp 70) rfl 0 g0 (64*kk) cap0 (Ch g+1) (G.set (Ch g) D) (DM Og) vp rfl rfl qz (by rw[AF];exact HGL.out.2) vg ?_;intro w8 hG8 hb8 hw8)
        |(go_at_call 71;refine(KGd.out _).mono ?_;rintro e w' ⟨rfl,rfl⟩)
        |(go_at_call 72;refine(KGo.out _).mono ?_;rintro e w' ⟨rfl,rfl⟩))
       have HP8:Hid (∃ G,BBR w8 0 (Ak (Ag ⟨g0,0,S⟩) (64*kk) cap0) G/\P2 G (Gv kk) kk (g+1)):=wM ⟨_,hG8,HP3.out⟩;have HF8:Hid (∀ x,A<=x->x<w3.heap.size->w8.heap[x]? =w3.heap[x]?):=wM fun x hx1 Xb=>by
        have hne:x≠g0:=(by have:=HG0.out.2;omega);exact(hw8.2.2.2.2 x hne).trans ((hw7.2.2.2.2 x hne).trans ((hb46.block x (AA Xb HB.out.2)).trans (HF.out x hx1 Xb)))
       have HB8:Hid (Ap w.heap.size w w8/\w3.heap.size<=w8.heap.size):=wM ⟨((HB.out.1.trans (hb46.mono HB.out.1.size)).trans (hw7.below HG0.out.1)).trans (hw8.below HG0.out.1),by
        have h1:=HB.out.2;have h2:=hb46.size;have h3:=hb7.size;have h4:=hb8.size;omega⟩
       clear hvp hvd hkl ve hbx hb4 hb5 hb6 hb45 hb46 qy hG6 hvp6 vf hr6 qz hb7 hw7 vg hG8 hb8 hw8;go_roundw
       case rel=>exact⟨g+1,by omega,by go_num,HP8,HF8,HB8⟩
       case measure=>simp[intOf];omega
     . have e0:g=kk:=by omega
       subst e0;have HP1:=wM HP.out;have hbr:=HB.out.1;have gF:g0<wr.heap.size:=by
        have a1:=HG0.out.2;have a2:=HBG.out.1;have a3:=HBG.out.2.2.1;have a4:=HB.out.2;omega
       clear HP HF HB gU HBG HCC HC1 KN
       go_wp2_with (first
        |(go_at_call 73;refine(KSu.out _).mono ?_;rintro e w9 ⟨rfl,hb9⟩;have hbx:=As w9 (Am #[J Y (64*(g:Int)),J Y 0,J Y 0,J Y 0,J Y 0,J Y 0,J Y 43,J Y 44,J Y 45,J Y 46,J Y 47,J Y 48] 156);have EN:=Ar w9 (Am #[J Y (64*(g:Int)),J Y 0,J Y 0,J Y 0,J Y 0,J Y 0,J Y 43,J Y 44,J Y 45,J Y 46,J Y 47,J Y 48] 156)))
       obtain⟨s0,Na⟩:=nm w9.heap.size;have hb90:=hb9.trans (hbx.mono hb9.size);generalize w9.alloc (Am #[J Y (64*(g:Int)),J Y 0,J Y 0,J Y 0,J Y 0,J Y 0,J Y 43,J Y 44,J Y 45,J Y 46,J Y 47,J Y 48] 156)=W0 at hbx EN hb90 |-
       rw[<- Na] at EN |-
       have HS0:=wM EN;have hgs0:g0<s0:=(by have:=hb9.size;omega);have HSL:Hid (s0<W0.heap.size):=wM (Ah.1 EN).1;have HQ0:Hid (∃ G,BBR W0 0 (Ak (Ag ⟨g0,0,S⟩) (64*g) cap0) G/\P2 G (Gv g) g g/\T3 G 0):=wM (by obtain⟨G,a,b⟩:=HP1.out;exact⟨G,a.below hb90,b,T3.zero _⟩);have HB0:Hid (Ap w.heap.size w W0):=wM (hbr.trans (hb90.mono hbr.size));have HNS:Hid (∀ (W:Ai) (gI:Nat) (O:List (List Int)),F4 O->O.length=M8->W.heap[gI]? =Ag (Am (O.flatMap iC).toArray 159 (0,0))->NSl W (Ak (Ag ⟨gI,0,S⟩) M8 M8) O):=wM fun W gI O h1 h2 h3=>by
        have:=(NR.of_row (B:=0) h1 (AT _) h3 (by rw[h2];simp only[maxLen];omega)).sl
        rwa [h2] at this
       have hZ:F4 (Aw M8 zeroI):=fun x hx=>by rw[BS hx];rfl
       have HZ:=wM hZ;have HZ1:Hid (F4 ((Aw M8 zeroI).set 1 [2,1,0,0,0,0,0,0,0,0,0,0,0,0])):=wM fun x hx=>by
        rcases D8 hx with h|h
        . exact hZ x h
        . rw[h];rfl
       have HI:Hid (∀ x∈Aw M8 zeroI,(iC x).length=14):=wM fun x hx=>by rw[Cz];exact hZ x hx
       clear hbx EN hb90 hb9 Na hZ gF hbr HP1;go_wp2;go_loopw [76] (fun i WI=>∃ k:Nat,k<=6/\i=J Y k/\Hid (WI.heap[s0]? =Ag (Am #[J Y (64*(g:Int)),J Y 0,J Y 0,J Y 0,J Y 0,J Y 0,J Y 43,J Y 44,J Y 45,J Y 46,J Y 47,J Y 48] 156 (0,0)))/\Hid (∃ G,BBR WI 0 (Ak (Ag ⟨g0,0,S⟩) (64*g) cap0) G/\P2 G (Gv g) g g/\T3 G k)/\Hid (Ap w.heap.size w WI)) (fun i _=>6-(intOf i).toNat)
       case atStart=>exact⟨0,by omega,rfl,HS0,HQ0,HB0⟩
       case round=>
        obtain⟨k,hk,rfl,HS,HQ,HB⟩:=hrel;clear HS0 HQ0 HB0;by_cases qA:k<6
        . have ek6:(k:Int)<6:=by omega
          obtain⟨G,hG,hP,hT3⟩:=HQ.out;have hsl:=(Ah.1 HS.out).1;have hbI:=As wr (Am (nC (Aw M8 zeroI)).toArray 159);have hnI:(wr.alloc (Am (nC (Aw M8 zeroI)).toArray 159)).heap[wr.heap.size]? =Ag (Am ((Aw M8 zeroI).flatMap iC).toArray 159 (0,0)):=Ar wr _;obtain⟨t,ht⟩:=nm (43+k);have lE:(t:Int)<64*(g:Int):=(by omega);have HTL:Hid (t<G.length):=wM (by rw[hP.len];omega);have HC6:Hid (∀ W,Ap wr.heap.size wr W->W.cell? ⟨s0,6+k,S⟩=Ag (J Y (t:Int))):=wM fun W hb=>by
           have h6:=(hb.block s0 hsl).trans HS.out;rw[o6 h6 qA,ht]
          have HPT:Hid (∀ x,P2 (G.set t x) (Gv g) g g):=wM fun x=>hP.other (AW (by omega)) x
          have HT3:Hid (∀ x,x=Gw (Jy newN k)->T3 (G.set t x) (k+1)):=wM fun x hx=>by rw[ht];exact hT3.put (by rw[hP.len];omega) hx
          have HGG:=wM hG;have HS7:Hid (∀ W W',Ap wr.heap.size wr W->Wrote W W' g0->W'.heap[s0]? =Ag (Am #[J Y (64*(g:Int)),J Y 0,J Y 0,J Y 0,J Y 0,J Y 0,J Y 43,J Y 44,J Y 45,J Y 46,J Y 47,J Y 48] 156 (0,0))):=wM fun W W' hb hw=>(hw.2.2.2.2 s0 (by omega)).trans ((hb.block s0 hsl).trans HS.out)
          have hbs:=HB.out.size;clear ht hG hP hsl hT3;by_cases Ur:k=0
          . subst Ur
            go_wp2_with (first
             |(at_make;refine I6 _ rfl _ _ rfl _ M8 rfl rfl HM8.out (by omega) ?_)
             |(refine EX (f:=iC) (s:=14) rfl 159 (.tmp 84) (.tmp 83) rfl kR wr.heap.size 1 (Aw M8 zeroI) [2,1,0,0,0,0,0,0,0,0,0,0,0,0] 159 rfl rfl hnI (by rw[A3];omega) HI.out rfl (Qy _) ?_;intro w5 hw5 Db;have hbN:=hbI.trans (hw5.below (At _));have JK:=HNS.out w5 wr.heap.size _ HZ1.out (by rw[AF,A3]) Db)
             |(go_at_call 74;refine(So JK HA0.out.1).mono ?_;rintro e w6 ⟨u,rfl,hu,hb6⟩;have hb06:=hbN.trans (hb6.mono hbN.size);have c6:=HC6.out _ hb06;have hG6:=HGG.out.below hb06;have hu6:=hu.elt (B:=0))
             |(with_reducible refine DZ rfl (.tmp 96) (.tmp 95) rfl 0 g0 (64*g) cap0 t G _ u rfl rfl hG6 HTL.out hu6 ?_;intro w7 qz hb7 hw7))
            go_roundw
            case rel=>exact⟨1,by omega,rfl,wM (HS7.out _ _ hb06 hw7),wM ⟨_,qz,HPT.out _,HT3.out _ HA0.out.2⟩,wM ((HB.out.trans (hb06.mono hbs)).trans (hw7.below HG0.out.1))⟩
            case measure=>simp[intOf]
          . have hk0b:((k:Int)==0)=Ay:=by simpa using Ur
            have JK:=HNS.out _ wr.heap.size _ HZ.out (by rw[A3]) hnI;have HB1:=wM hbI
            go_wp2_with (first
             |(at_make;refine I6 _ rfl _ _ rfl _ M8 rfl rfl HM8.out (by omega) ?_)
             |(go_at_call 74;refine(So JK HA1.out.1).mono ?_;rintro e w6 ⟨u,rfl,hu,hb6⟩;have hb06:=HB1.out.trans (hb6.mono HB1.out.size);have c6:=HC6.out _ hb06;have hG6:=HGG.out.below hb06;have hu6:=hu.elt (B:=0))
             |(with_reducible refine DZ rfl (.tmp 96) (.tmp 95) rfl 0 g0 (64*g) cap0 t G _ u rfl rfl hG6 HTL.out hu6 ?_;intro w7 qz hb7 hw7))
            go_roundw
            case rel=>exact⟨k+1,by omega,by go_num,wM (HS7.out _ _ hb06 hw7),wM ⟨_,qz,HPT.out _,HT3.out _ (HA1.out.2 k qA Ur)⟩,wM ((HB.out.trans (hb06.mono hbs)).trans (hw7.below HG0.out.1))⟩
            case measure=>simp[intOf];omega
        . obtain rfl:k=6:=by omega
          obtain⟨G,hG,hP,hT3⟩:=HQ.out;have hs:=HS.out;have HGG:=wM hG;have HGL:Hid (0<G.length/\63<G.length):=wM (by rw[hP.len];omega);have HPE:Hid (∀ x y,P2 ((G.set 0 x).set 63 y) (Gv g) g g):=wM fun x y=>(hP.other (AU rfl) x).other (AW (by omega)) y
          have HNW:Hid (New3 ((G.set 0 (Gj (Eb g))).set 63 (Gj (Eb g))) g):=wM (hT3.sup g (by rw[hP.len];omega) rfl);have hbs:=HB.out.size;have HBB:=wM HB.out;clear hG hP hT3 HQ HS HB
          go_wp2_with (first
           |(with_reducible refine wpList_load_row rfl 156 (.tmp 15) rfl s0 rfl 156 _ (0,0) _ hs Tryz.underlying156 rfl (by rw[TP];simp) ?_)
           |(go_at_call 75;refine(KES.out _).mono ?_;rintro e w6 ⟨u,rfl,hu,hb6⟩;have hG6:=HGG.out.below hb6;have hu6:=hu.elt (B:=0);obtain⟨cur6,hr6,_,hg06⟩:=hG6.row)
           |(with_reducible refine DZ rfl (.tmp 107) (.tmp 105) rfl 0 g0 (64*g) cap0 0 G (Gj (Eb g)) u rfl rfl hG6 HGL.out.1 hu6 ?_;intro w7 qz hb7 hw7;have hu7:=hu6.wrote hw7 hg06 hr6 (by decide))
           |(with_reducible refine DZ rfl (.tmp 108) (.tmp 106) rfl 0 g0 (64*g) cap0 63 (G.set 0 (Gj (Eb g))) (Gj (Eb g)) u rfl rfl qz (by rw[AF];exact HGL.out.2) hu7 ?_;intro w8 hG8 hb8 hw8))
          go_ret;exact⟨_,_,rfl,hG8,HPE.out _ _,HNW.out,((HBB.out.trans (hb6.mono hbs)).trans (hw7.below HG0.out.1)).trans (hw8.below HG0.out.1)⟩
theorem jf(ao:Option Addr)(cap:Nat)(f:Ao)(w:Ai):Av Ae 158 #[Ak ao 0 cap,f] w fun e w'=>e=Aj (J Y (-1))/\w=w':=by
 go_enter Tryz.func158,Tryz.ntmps158;go_wp2
 go_loop [8] (fun i=>i=J Y 0) (fun _=>0)
 case atStart=>rfl
 case round=>
  subst hrel;go_wp2;go_ret;exact⟨rfl,rfl⟩
theorem iU(ao:Option Addr)(cap:Nat)(f:Ao)(w:Ai):Av Ae 119 #[Ak ao 0 cap,f] w fun e w'=>e=Aj (Ak ao 0 cap)/\w=w':=by
 go_enter Tryz.func119,Tryz.ntmps119;go_wp2_with (go_at_call 158;refine(jf _ _ _ _).mono ?_;rintro e w' ⟨rfl,rfl⟩)
 go_ret;exact⟨rfl,rfl⟩
section
variable {w:Ai}{B bp bf bv:Nat}{u:Ao}{F V:List (List Int)}{fu dn:Bool}{le:Int}
theorem Vv(h:DskAt w B bp bf bv u F V [] fu le dn)(f:Ao):Av Ae 78 #[Al (Ag ⟨bp,0,S⟩),f] w fun e w'=>e=Aj (AH #[])/\DskAt w' B bp bf bv u F V [] fu le dn/\Wrote w w' bp:=by
 obtain⟨ao,cap,rfl⟩:=h.shapeU;have c2:=h.c2;have f2:=h.fr 2;have hp:=h.hp;have hw:=Wrote.setCell w bp 2 (Ak ao 0 cap);have hs:(w.setCell ⟨bp,2,S⟩ (Ak ao 0 cap)).heap[bp]? =_:=A8 w bp 2 _ _ _ hp;have HE:Hid (DskAt (w.setCell ⟨bp,2,S⟩ (Ak ao 0 cap)) B bp bf bv (Ak ao 0 cap) F V [] fu le dn):=wM (by
  have oth:∀ {k:Nat},k≠bp->(w.setCell ⟨bp,2,S⟩ (Ak ao 0 cap)).heap[k]? =w.heap[k]? :=fun hk=>AN _ _ _ _ hk
  refine⟨h.bB,h.ne,by rw[hs];rfl,by rw[oth (CT h.ne.1)];exact h.hf,by rw[oth (CT h.ne.2.1)];exact h.hv,⟨h.hu.1,?_⟩,h.une,h.okF,h.okV,h.okU,h.len,h.max⟩;rcases h.hu.2 with h0| ⟨g,cap',cur,hv,hg,hh,r⟩
  . exact AU h0
  . exact AW ⟨g,cap',cur,hv,hg,by rw[oth (fun e=>h.une.1 (by rw[hv,<- e];rfl))];exact hh,r⟩)
 have HW:=wM hw;clear hp hs hw h;go_enter Tryz.func78,Tryz.ntmps78;go_wp2_with (go_at_call 119;refine(iU _ _ _ _).mono ?_;rintro e w' ⟨rfl,rfl⟩)
 go_end0
 exact⟨rfl,HE.out,HW.out⟩
theorem Xt(h:DskAt w B bp bf bv u F V [] fu le dn){n:Nat}(hn:n<V.length){v:Ao}{l:List Int}(hv:BSl w v l)(hl:l.length=256):
 Av Ae 37 #[Al (Ag ⟨bp,0,S⟩),J Y n,v] w fun e w'=>e=Aj (J Y 0)/\DskAt w' B bp bf bv u (F.set n l) (V.set n l) [] fu le dn/\Fr3 w w' bp bf bv:=by
 obtain⟨W0,hW0⟩:=nm (w.alloc (Am #[J Y n] 3));have hb0:Ap w.heap.size w W0:=by rw[hW0];exact As w _
 have hx0:W0.heap[w.heap.size]? =Ag (Am #[J Y n] 3 (0,0)):=by rw[hW0];exact Ar w _
 have hd0:=h.below hb0;have hv0:=hv.below hb0;have HW0:=wM hW0;have hd:decide ((0<=(n:Int)/\(n:Int)<V.length)/\l.length=256)=AE:=Az ⟨by omega,hl⟩;have KF:=wM (MQ hd0 n hv0);rw[hd] at KF;have KB:=wM (MP hv0 hl);have HL:Hid ((cB l).length=256):=by show _=_;rw[CG,hl]
 have HBl:Hid (WY l):=⟨hl,hv.1⟩;have HZ:=wM Fj;have x0:W0.cell? ⟨w.heap.size,0,S⟩=Ag (J Y n):=by rw[Aq _ _ _ _ _ _ hx0];rfl
 have HX:=wM hx0;have HD0:=wM hd0;have HB0:=wM hb0;have hlt:=And.intro (Ah.1 h.hp).1 (And.intro (Ah.1 h.hf).1 (Ah.1 h.hv).1);have HLT:=wM hlt;have HH:=wM h;have hn':(n:Int)<V.length:=by omega
 have hnF:n<F.length:=by have:=h.len;omega
 have hnF':(n:Int)<F.length:=by omega
 clear hW0 hb0 hx0 hd0 hv0 hv hl hd hlt h;go_enter Tryz.func37,Tryz.ntmps37;go_upto_region 1 with(fail)
 rw[HW0.out.symm]
 go_upto_region 4 with(first
  |(go_at_call 76;refine KF.out.mono ?_;rintro e w' ⟨rfl,rfl⟩)
  |(go_at_call 77;refine KB.out.mono ?_;rintro e w1 ⟨rfl,hb1⟩)
  |with_reducible refine GF _ rfl rfl ?_
  |(refine FH _ rfl _ _ (by rfl) _ 164 zB (cB l) (by rfl) (by rfl) (Cq _ _) HZ.out HL.out (GV l) ?_
    rw[E3]))
 have hb2:Ap W0.heap.size W0 (w1.alloc (Am (cB l).toArray 164)):=hb1.alloc hb1.size _;obtain⟨H1,WO⟩:=nm w1.heap.size;obtain⟨xb,hxb⟩:=nm w.heap.size;have hrow:(w1.alloc (Am (cB l).toArray 164)).heap[H1]? =Ag (Am (cB l).toArray 164 (0,0)):=by rw[WO];exact Cq _ _
 rw[<- WO,<- hxb];have rX:xb<W0.heap.size:=by rw[hxb];exact(Ah.1 HX.out).1
 have Un:bp<xb/\bf<xb/\bv<xb:=by rw[hxb];exact HLT.out
 have hxf:xb≠bf/\xb≠bv:=⟨by omega,by omega⟩;have hxH:xb<H1:=by rw[WO];exact AA rX hb1.size
 have xr:(w1.alloc (Am (cB l).toArray 164)).heap[xb]? =Ag (Am #[J Y n] 3 (0,0)):=(hb2.block xb rX).trans (by rw[hxb];exact HX.out);generalize w1.alloc (Am (cB l).toArray 164)=W1 at hb2 hrow xr |-
 have h1:=HD0.out.below hb2;have HFR0:Hid (Ap w.heap.size w W1):=wM (HB0.out.trans (hb2.mono HB0.out.size));have lH:=GV l;have r9:=Tryz.underlying164;have se:(Ae.info? 164).map (·.size)=Ag (cB l).length:=by rw[PS,HL.out]
 have hlen:=HL.out;have rL:W1.rangeAt H1 0 (cB l):=Ev hrow (by rw[CP,BP]);have tF:W1.there bf (n*256) (cB l).length:=Fg h1.hf (by rw[HL.out,CM (Er h1.okF)];omega);have x1:W1.cell? ⟨xb,0,S⟩=Ag (J Y n):=by rw[Aq _ _ _ _ _ _ xr];rfl
 have hne:=h1.ne;have hS1:W1.drew.cell? ⟨bp,0,S⟩=Ag (Ak (Ag ⟨bf,0,S⟩) F.length F.length)/\W1.drew.cell? ⟨xb,0,S⟩=Ag (J Y n)/\W1.drew.rangeAt H1 0 (cB l)/\W1.drew.there bf (n*256) (cB l).length:=⟨h1.c0,x1,rL,tF⟩;have hS2:(W1.drew.setCells bf (n*256) (cB l)).cell? ⟨bp,0,S⟩=Ag (Ak (Ag ⟨bf,0,S⟩) F.length F.length)/\(W1.drew.setCells bf (n*256) (cB l)).cell? ⟨xb,0,S⟩=Ag (J Y n)/\(W1.drew.setCells bf (n*256) (cB l)).rangeAt H1 0 (cB l)/\(W1.drew.setCells bf (n*256) (cB l)).there bf (n*256) (cB l).length:=
  ⟨by rw[CE _ _ _ _ _ (fun e=>absurd e hne.1)];exact hS1.1,by rw[CE _ _ _ _ _ (fun e=>absurd e hxf.1)];exact hS1.2.1,GY hS1.2.2.1 _ _ _ (AU (by omega)),Ai.there_setCells hS1.2.2.2 _ _ _⟩
 have HD1:=wM h1;have HB2:=wM hb2;clear WO hxb h1 hrow xr rL tF x1 hb1 hb2 KF KB HB0 x0
 go_region_held (fun W=>W.cell? ⟨bp,0,S⟩=Ag (Ak (Ag ⟨bf,0,S⟩) F.length F.length)/\W.cell? ⟨xb,0,S⟩=Ag (J Y n)/\W.rangeAt H1 0 (cB l)/\W.there bf (n*256) (cB l).length) (first|exact hS1|exact hS2) (fail)
 go_wp2_with fail
 obtain⟨h2,hwr⟩:=HD1.out.setF (W:=W1.drew) (AC _ _).drew n hnF l HBl.out;have hr2:=hS2.2.2.1;have Xb:=hS2.2.1;have hdw:Ap W1.heap.size W1 W1.drew:=(AC _ _).drew;have HFR1:Hid (∀ k,k<w.heap.size->k≠bf->(W1.drew.setCells bf (n*256) (cB l)).heap[k]? =w.heap[k]?):=wM fun k hk hkf=>(hwr.2.2.2.2 k hkf).trans ((show W1.drew.heap[k]? =W1.heap[k]? from rfl).trans (HFR0.out.block k hk))
 have HFS1:Hid ((W1.drew.setCells bf (n*256) (cB l)).os=w.os/\(W1.drew.setCells bf (n*256) (cB l)).tape=w.tape/\(W1.drew.setCells bf (n*256) (cB l)).output=w.output/\w.heap.size<=(W1.drew.setCells bf (n*256) (cB l)).heap.size):=wM ⟨hwr.1.trans (hdw.os.trans HFR0.out.os),hwr.2.1.trans (hdw.tape.trans HFR0.out.tape),hwr.2.2.1.trans (hdw.output.trans HFR0.out.output),by rw[hwr.2.2.2.1];exact AI HFR0.out.size hdw.size⟩;generalize W1.drew.setCells bf (n*256) (cB l)=W2 at h2 hr2 Xb HFR1 HFS1 |-
 have HD2:=wM h2;have tV:W2.there bv (n*256) (cB l).length:=Fg h2.hv (by rw[HL.out,CM (Er h2.okV)];omega);have hS3:W2.drew.cell? ⟨bp,1,S⟩=Ag (Ak (Ag ⟨bv,0,S⟩) V.length V.length)/\W2.drew.cell? ⟨xb,0,S⟩=Ag (J Y n)/\W2.drew.rangeAt H1 0 (cB l)/\W2.drew.there bv (n*256) (cB l).length:=⟨h2.c1,Xb,hr2,tV⟩;have hS4:(W2.drew.setCells bv (n*256) (cB l)).cell? ⟨bp,1,S⟩=Ag (Ak (Ag ⟨bv,0,S⟩) V.length V.length)/\(W2.drew.setCells bv (n*256) (cB l)).cell? ⟨xb,0,S⟩=Ag (J Y n)/\(W2.drew.setCells bv (n*256) (cB l)).rangeAt H1 0 (cB l)/\(W2.drew.setCells bv (n*256) (cB l)).there bv (n*256) (cB l).length:=
  ⟨by rw[CE _ _ _ _ _ (fun e=>absurd e hne.2.1)];exact hS3.1,by rw[CE _ _ _ _ _ (fun e=>absurd e hxf.2)];exact hS3.2.1,GY hS3.2.2.1 _ _ _ (AU (by omega)),Ai.there_setCells hS3.2.2.2 _ _ _⟩
 clear h2 hwr hdw hS1 hS2 hr2 Xb tV HD1 HD0
 go_region_held (fun W=>W.cell? ⟨bp,1,S⟩=Ag (Ak (Ag ⟨bv,0,S⟩) V.length V.length)/\W.cell? ⟨xb,0,S⟩=Ag (J Y n)/\W.rangeAt H1 0 (cB l)/\W.there bv (n*256) (cB l).length) (first|exact hS3|exact hS4) (fail)
 go_wp2_with fail
 obtain⟨h3,hwr⟩:=HD2.out.setV (W:=W2.drew) (AC _ _).drew n hn l HBl.out;have hdw:Ap W2.heap.size W2 W2.drew:=(AC _ _).drew;have HFR2:Hid (∀ k,k<w.heap.size->k≠bf->k≠bv->(W2.drew.setCells bv (n*256) (cB l)).heap[k]? =w.heap[k]?):=wM fun k hk hkf hkv=>(hwr.2.2.2.2 k hkv).trans ((show W2.drew.heap[k]? =W2.heap[k]? from rfl).trans (HFR1.out k hk hkf))
 have HFS2:Hid ((W2.drew.setCells bv (n*256) (cB l)).os=w.os/\(W2.drew.setCells bv (n*256) (cB l)).tape=w.tape/\(W2.drew.setCells bv (n*256) (cB l)).output=w.output/\w.heap.size<=(W2.drew.setCells bv (n*256) (cB l)).heap.size):=wM ⟨hwr.1.trans (hdw.os.trans HFS1.out.1),hwr.2.1.trans (hdw.tape.trans HFS1.out.2.1),hwr.2.2.1.trans (hdw.output.trans HFS1.out.2.2.1),by rw[hwr.2.2.2.1];exact AI HFS1.out.2.2.2 hdw.size⟩;generalize W2.drew.setCells bv (n*256) (cB l)=W3 at h3 HFR2 HFS2 |-
 have KFo:=wM (fun f=>Vv h3 f);clear hS3 hS4 hwr hdw h3;go_wp2_with (go_at_call 78;refine(KFo.out _).mono ?_;rintro e w4 ⟨rfl,hd4,hw4⟩)
 go_ret;exact⟨rfl,hd4,⟨hw4.1.trans HFS2.out.1,hw4.2.1.trans HFS2.out.2.1,hw4.2.2.1.trans HFS2.out.2.2.1,by rw[hw4.2.2.2.1];exact HFS2.out.2.2.2,fun k hk h1 h2 h3=>(hw4.2.2.2.2 k h1).trans (HFR2.out k hk h2 h3)⟩⟩
end
theorem nK{w:Ai}{P:Nat->Prop}{p:Ao}{s:DS}(h:Dk w P p s)(hU:s.U=[]){n:Nat}(hn:n<s.F.length){v:Ao}{l:List Int}(hv:BSl w v l):
 Av Ae 37 #[p,J Y n,v] w fun e w'=>(∃ x,e=Aj (J Y x))/\Dk w' P p { s with F:=if l.length=256 then s.F.set n l else s.F }/\Chg P P w w':=by
 obtain⟨bp,bf,bv,u,rfl,hd,hl,hP⟩:=h;obtain⟨F,U,fu,le,dn⟩:=s;simp only at hU hn hd hl;subst hU;have po:(⟨F,[],fu,le,dn⟩:DS).vis=F:=rfl;rw[po] at hd;by_cases MY:l.length=256
 . rw[Au MY]
   refine(Xt hd hn hv MY).mono fun e w' ⟨he,h2,hf⟩=>⟨⟨0,he⟩,⟨bp,bf,bv,u,rfl,h2,hl,hP⟩,⟨hf.os,hf.tape,hf.output,hf.size,fun k hk hn'=>⟨hf.block k hk (fun e=>hn' ((hP k).2 (AU e))) (fun e=>hn' ((hP k).2 (AW (AU e)))) (fun e=>hn' ((hP k).2 (AW (AW (AU e))))),hn'⟩⟩⟩
 . rw[Ax MY]
   have hb:=As w (Am #[J Y n] 3);have KF:=wM (MQ (hd.below hb) n (hv.below hb));rw[AB (fun h=>MY h.2)] at KF;have HE:Hid (∀ w',Ap w.heap.size w w'->Dk w' P (Al (Ag ⟨bp,0,S⟩)) ⟨F,[],fu,le,dn⟩):=wM fun w' hb'=>⟨bp,bf,bv,u,rfl,hd.below hb',hl,hP⟩
   have HB:=wM hb;clear hd hl hP hv hb MY po;refine Av.mono (R:=fun e w'=>e=Aj (J Y 1)/\Ap w.heap.size w w') ?_ fun e w' ⟨he,hb'⟩=>⟨⟨1,he⟩,HE.out w' hb',Chg.of_below hb'⟩
   clear HE;go_enter Tryz.func37,Tryz.ntmps37;go_wp2_with (go_at_call 76;refine KF.out.mono ?_;rintro e w' ⟨rfl,rfl⟩)
   go_ret;exact⟨rfl,HB.out⟩
end
section
open Go.RowKit Go.Maps
def Ti(ek pk:List Int)(left:Lit->Bool):Nat:=(pk.filter fun x=>!left (.int Y x) && decide (x ∉ ek)).length
theorem Za{ek pk:List Int}{left:Lit->Bool}(h:∀ x,left (.int Y x)=decide (x∈pk)):Ti ek pk left=0:=by
 unfold Ti;rw[List.length_eq_zero_iff,List.filter_eq_nil_iff];intro x hx;rw[h x,Az hx];simp
theorem ir{ek pk:List Int}{left:Lit->Bool}(h:∀ k,left k=Ay):ek.length+Ti ek pk left=(EU ek pk).length:=by
 unfold Ti EU;rw[AD];congr 3;funext x;rw[h];simp
theorem ob(ek pk:List Int)(left:Lit->Bool):Ti ek pk left<=pk.length:=List.length_filter_le _ _
theorem jj(x y:Int):(Lit.int Y y).sameKey (.int Y x)=decide (y=x):=by
 by_cases h:y=x
 . subst h;simp[Lit.sameKey]
 . rw[AB h];exact Maps.sameKey_ne (fun e=>h (by cases e;rfl))
theorem Oa{ek:List Int}{f:Int->Bool}{x:Int}:∀ {pk:List Int},pk.Nodup->x∈pk->f x=AE->
 (pk.filter fun z=>!(f z && !decide (z=x)) && decide (z ∉ ek)).length=(pk.filter fun z=>!f z && decide (z ∉ ek)).length+if x∈ek then 0 else 1
 |[],_,hx,_=>absurd hx Bi
 |a :: r,hn,hx,hl=>by
  obtain⟨h1,h2⟩:=List.nodup_cons.1 hn;by_cases e:a=x
  . subst e
    have hr:(r.filter fun z=>!(f z && !decide (z=a)) && decide (z ∉ ek))=r.filter fun z=>!f z && decide (z ∉ ek):=by
     refine List.filter_congr fun y hy=>?_
     have:y≠a:=fun e=>h1 (e ▸ hy)
     rw[AB this];simp
    rw[List.filter_cons,List.filter_cons,hl,hr];by_cases hk:a∈ek <;> simp[hk]
  . have ih:=Oa (ek:=ek) (f:=f) h2 ((Ew.1 hx).resolve_left fun e'=>e e'.symm) hl
    rw[List.filter_cons,List.filter_cons,AB e];cases tA:f a <;> by_cases hk:a∈ek <;> simp only[hk,Bool.not_true,Bool.not_false,Bool.and_true,Bool.and_false,decide_true,decide_false,not_true_eq_false,not_false_eq_true,if_true,if_false,Bm,Bool.false_eq_true,ih] <;> omega
theorem cA{ek:List Int}{left:Lit->Bool}{x:Int}{pk:List Int}(hn:pk.Nodup)(hx:x∈pk)(hl:left (.int Y x)=AE):
 Ti ek pk (fun z=>left z && !z.sameKey (.int Y x))=Ti ek pk left+if x∈ek then 0 else 1:=by
 have h:=Oa (ek:=ek) (f:=fun z=>left (.int Y z)) hn hx hl;unfold Ti;rw[<- h];congr 2;funext z;show(!(left (.int Y z) && !(Lit.int Y z).sameKey (.int Y x)) && decide (z ∉ ek))=_
 rw[jj]
section
variable {w:Ai}{Pd:Nat->Prop}{b be bp:Nat}{d:Ao}{q:Int}{ek:List Int}{eg:Int->Ao}{ev:Int->List Int}{pk:List Int}{pg:Int->Ao}{pv:Int->List Int}{wi:Bool}{ds:DS}
theorem ML(h:SMem w Pd b be bp d q ek eg ev pk pg pv wi ds)(Xe:ek.length<=1000)(hpl:pk.length<=1000):Av Ae 85 #[Al (Ag ⟨b,0,S⟩)] w fun e w'=>e=Aj (.int Y (EU ek pk).length)/\Ap w.heap.size w w':=by
 have c2:=h.c2;have c3:=h.c3;have hlen:=fun ty=>h.me.len ty
 have HB:=wM (fun W (hb:Ap w.heap.size w W)=>h.below hb);obtain⟨D,p1,p2,p3,p4,p5⟩:=h.mp;have HN:=wM p2;have HH:=wM p4;have HS:=wM (Za (ek:=ek) p4);have HE:=wM (fun(left:Lit->Bool) h=>ir (ek:=ek) (pk:=pk) (left:=left) h);have HL:=wM (fun(left:Lit->Bool)=>ob ek pk left);have HEL:=wM Xe;have HPL:=wM hpl;obtain⟨m,hm⟩:=nm pk.length;rw[<- hm] at p1 HL HPL;obtain⟨c,hc⟩:=nm ek.length;rw[<- hc] at hlen HE HEL;obtain⟨R,hR⟩:=nm ((EU ek pk).length);rw[<- hR] at HE |-
 clear h p2 p3 p4 p5 Xe hpl hm hc hR;go_enter Tryz.func85,Tryz.ntmps85
 go_wp2_with (first
  |(at_range;refine wpList_range_own _ rfl _ 107 rfl 3 77 iKeyed Tryz.underlying107 hdr bp m D rfl p1 ?_;intro w0 vh mc Na)
  |go_in)
 go_frame
 have HB0:=wM ((AC w.heap.size w).grown mc (At _) (fun k hk=>by cases hk))
 go_loopw [3] (fun i wr=>∃ (left:Lit->Bool) (cnt k:Nat),Hid (wr.ranges Ae 3 hdr bp w.heap.size m D left cnt)/\Hid (c+Ti ek pk left=k)/\i=.int Y k/\Ap w.heap.size w wr)
  (fun _ wr=>wr.rangeLeft bp w.heap.size)
 case atStart=>
  exact⟨_,_,c,wM vh,wM (by rw[HS.out];rfl),rfl,HB0.out⟩
 case round=>
  obtain⟨left,cnt,k,HRG,HK,rfl,hbr⟩:=hrel;have HBR:=wM hbr;have NS:=HRG.out;have h2k:k<=2000:=by have:=HL.out left;have:=HK.out;have:=HEL.out;have:=HPL.out;omega
  clear vh mc Na p1 c2 c3 hlen hbr
  go_wp2_with (first
   |(at_next;refine wpList_next_ranges _ rfl _ rfl 3 iKeyed hdr (J Y) id (fun key kl hk=>by obtain⟨x,e,_⟩:=Maps.keyOf_i64 Tryz.underlying3 hk;exact⟨x,e⟩) (fun v _ _=>⟨v,rfl⟩) bp w.heap.size m _ _ _ rfl NS ?_ ?_)
   |go_in)
  . intro rV qr
    have he:k=R:=HK.out.symm.trans (HE.out left qr);subst he;clear NS;go_wp2;go_ret;exact⟨rfl,HBR.out⟩
  . intro x u kl y1 y2 w1 cnt1 sE hlk tn GB sF hlt hg1 IL hen
    obtain⟨x',e1,rfl,Uy⟩:=Maps.keyOf_i64 Tryz.underlying3 sE;cases e1
    have hb1:Ap w.heap.size w w1:=HBR.out.grown hg1 HBR.out.size (fun j hj=>by cases hj;exact At _);have hm1:=HB.out w1 hb1;have hin:x∈pk:=by
     have:=Maps.has_true_of_atKey GB;rw[HH.out x] at this;exact AX this
    have Oq:=cA HN.out hin hlk (ek:=ek);have c2:=hm1.c2;have hlo:=hm1.me.look_ok Uy;obtain⟨uu,sy⟩:=nm ((if x∈ek then eg x else Ak S 0 0));rw[<- sy] at hlo;have HRG1:=wM sF;have HLT:=wM hlt;have HB1:=wM hb1;have hwr:Y.wrap ((k:Int)+1)=(k:Int)+1:=Bq _ (by omega);by_cases gO:x∈ek
    . rw[Az gO] at hlo
      rw[Au gO] at Oq;have HK1:=wM Oq;clear Oq NS sF hlt hb1 hm1 sE hlk tn GB hg1 IL sy hin gO Uy;go_wp2;go_roundw
      case rel=>exact⟨_,cnt1,k,HRG1,wM (by rw[HK1.out];exact HK.out),rfl,HB1.out⟩
      case measure=>rw[HRG1.out.left_eq,HRG.out.left_eq];exact HLT.out
    . rw[AB gO] at hlo
      rw[Ax gO] at Oq;have HK1:=wM Oq;clear Oq NS sF hlt hb1 hm1 sE hlk tn GB hg1 IL sy hin gO Uy;go_wp2;go_roundw
      case rel=>exact⟨_,cnt1,k+1,HRG1,wM (by rw[HK1.out,<- HK.out];omega),rfl,HB1.out⟩
      case measure=>rw[HRG1.out.left_eq,HRG.out.left_eq];exact HLT.out
end
def ww:Obj:=Am #[J .u32 0,Ak S 0 0,Ak S 0 0] 215
theorem Wv{w:Ai}{g:Nat}{a b c:Ao}(h:w.heap[g]? =Ag (Am #[a,b,c] 215 (0,0))):
 (w.cell? ⟨g,0,S⟩=Ag a/\w.cell? ⟨g,1,S⟩=Ag b/\w.cell? ⟨g,2,S⟩=Ag c)/\w.frozen? ⟨g,0,S⟩=Ay/\w.frozen? ⟨g,1,S⟩=Ay/\w.frozen? ⟨g,2,S⟩=Ay:=by
 refine⟨⟨?_,?_,?_⟩,?_,?_,?_⟩
 . rw[Aq _ _ _ _ _ _ h];rfl
 . rw[Aq _ _ _ _ _ _ h];rfl
 . rw[Aq _ _ _ _ _ _ h];rfl
 all_goals simp[Ai.frozen?,h]
theorem iR{W:Ai}{b g:Nat}{x y u0 u1 u2:Ao}(h:W.cell? ⟨b,1,S⟩=Ag x/\W.cell? ⟨b,2,S⟩=Ag y)(hne:b≠g):
 (((W.setCell ⟨g,0,S⟩ u0).setCell ⟨g,1,S⟩ u1).setCell ⟨g,2,S⟩ u2).cell? ⟨b,1,S⟩=Ag x/\(((W.setCell ⟨g,0,S⟩ u0).setCell ⟨g,1,S⟩ u1).setCell ⟨g,2,S⟩ u2).cell? ⟨b,2,S⟩=Ag y:=by
 have e:(((W.setCell ⟨g,0,S⟩ u0).setCell ⟨g,1,S⟩ u1).setCell ⟨g,2,S⟩ u2).heap[b]? =W.heap[b]? :=by
  rw[AN _ ⟨g,2,S⟩ _ _ hne,AN _ ⟨g,1,S⟩ _ _ hne,AN _ ⟨g,0,S⟩ _ _ hne]
 exact⟨(A5 e).trans h.1,(A5 e).trans h.2⟩
theorem Wrote.and{a b c:Ai}{g:Nat}(h:Wrote a b g)(k:Wrote b c g):Wrote a c g:=⟨k.1.trans h.1,k.2.1.trans h.2.1,k.2.2.1.trans h.2.2.1,k.2.2.2.1.trans h.2.2.2.1,fun i hi=>(k.2.2.2.2 i hi).trans (h.2.2.2.2 i hi)⟩
theorem qT(W:Ai)(g:Nat)(u0 u1 u2:Ao):Wrote W (((W.setCell ⟨g,0,S⟩ u0).setCell ⟨g,1,S⟩ u1).setCell ⟨g,2,S⟩ u2) g:=((Wrote.setCell W g 0 u0).and (Wrote.setCell _ g 1 u1)).and (Wrote.setCell _ g 2 u2)
theorem tZ{n1:Nat}{w1 W:Ai}{g:Nat}{q:Int}{no:Option Addr}{L nc:Nat}{l:List Int}{a0 a1 a2:Ao}(HS1:n1=w1.heap.size)(hb:Ap n1 w1 W)(hg:W.heap[g]? =Ag (Am #[a0,a1,a2] 215 (0,0)))(hi:IR W n1 (Ak no L nc) l)(hn:n1<=g):
 ∃ g' no' nc',Ao.pointer (Ag ⟨g,0,S⟩)=Al (Ag ⟨g',0,S⟩)/\n1<=g'/\Ap n1 w1 (((W.setCell ⟨g,0,S⟩ (J .u32 q)).setCell ⟨g,1,S⟩ (Ak no L nc)).setCell ⟨g,2,S⟩ (Ak S 0 0))/\
   (((W.setCell ⟨g,0,S⟩ (J .u32 q)).setCell ⟨g,1,S⟩ (Ak no L nc)).setCell ⟨g,2,S⟩ (Ak S 0 0)).heap[g']? =Ag (Am #[J .u32 q,Ak no' L nc',Ak S 0 0] 215 (0,0))/\
   IR (((W.setCell ⟨g,0,S⟩ (J .u32 q)).setCell ⟨g,1,S⟩ (Ak no L nc)).setCell ⟨g,2,S⟩ (Ak S 0 0)) n1 (Ak no' L nc') l:=by
 have hw:=qT W g (J .u32 q) (Ak no L nc) (Ak S 0 0);refine⟨g,no,nc,rfl,hn,hb.trans (hw.below hn),?_,hi.wrote hw hg (by decide)⟩;have e1:=A8 W g 0 _ _ (J .u32 q) hg;have e2:=A8 _ g 1 _ _ (Ak no L nc) e1;exact A8 _ g 2 _ _ (Ak S 0 0) e2
theorem Oz{ops:Array BE}{o:BE}{a:Act}{w:Ai}{K:Act->Ai->Prop}{Q:Exit->Act->Ai->Prop}{E:Prop}(Du:o.guard=S)(s y:Operand)(T ty:Cg)
 (ho:o.op=.call { callee:=.builtin .append,args:=#[s,y],argTypes:=#[T,T] }) (hty:o.type=ty) (u v v5:Ao) (w5:Ai) (hs:a.eval s=u) (hy:a.eval y=v) (CX:(Builtin.append_ #[T,T] ty #[u,v]).run Ae w=.ok v5 w5)
 (h:K (a.put o.dst v5) w5):if Region.wanted o (yielded ops a.tmps)=AE then BE.wp Ae o a w K Q else E:=by
 rw[Au (by simp[Region.wanted,Du])];unfold BE.wp execOp;simp only[ho,hty,resolve,invoke,builtin,Dg,Sem.run_pure,Result.andThen_ok,Fc,DO,IJ,hs,hy,CX];exact h
theorem R9{w w':Ai}{B g:Nat}{v:Ao}{L:List (List Int)}(h:BB2 w B 0 v L)(hw:Wrote w w' g){cur:Array Ao}(hg:w.heap[g]? =Ag (Am cur 215 (0,0))):BB2 w' B 0 v L:=by
 obtain⟨vs,hl,hr,ho⟩:=h;refine⟨vs,hl,fun j hj=>(hr j hj).wrote hw (AT _) hg (by decide),Fs ho fun r hr=>hw.2.2.2.2 r fun e=>?_⟩;rcases ho.2 with⟨hv,_⟩| ⟨g',cap,cur',hv,_,hh,_⟩
 . rw[hv] at hr;simp[Ao.ownBlock] at hr
 . rw[hv] at hr
   obtain rfl:g'=r:=by simpa [Ao.ownBlock] using hr
   rw[e,hg] at hh
   injection hh with hh
   injection hh with _ e2
   exact absurd e2 (by decide)
theorem jM{w:Ai}{B:Nat}{v:Ao}{l:List Int}(h:IR w B v l):IR w 0 v l:=⟨h.1,h.2.imp id fun⟨g,cap,cur,hv,_,r⟩=>⟨g,cap,cur,hv,AT _,r⟩⟩
theorem ZB{w:Ai}{p:Nat}{o:Obj}(h:w.heap[p]? =Ag o)(o':Obj):(w.alloc o').heap[p]? =Ag o:=(Ap.block (As w o') p (Ah.1 h).1).trans h
theorem pK{w:Ai}{B:Nat}{v:Ao}{l:List Int}(h:IR w B v l){r:Nat}(hr:v.ownBlock=Ag r):r<w.heap.size/\∃ cur,w.heap[r]? =Ag (Am cur 3 (0,0)):=by
 rcases h.2 with⟨hv,_⟩| ⟨g,cap,cur,hv,_,hh,_⟩
 . rw[hv] at hr;simp[Ao.ownBlock] at hr
 . rw[hv] at hr
   obtain rfl:g=r:=by simpa [Ao.ownBlock] using hr
   exact⟨(Ah.1 hh).1,cur,hh⟩
section
variable {w:Ai}{Pd:Nat->Prop}{b be bp:Nat}{d:Ao}{q:Int}{ek:List Int}{eg:Int->Ao}{ev:Int->List Int}{pk:List Int}{pg:Int->Ao}{pv:Int->List Int}{wi:Bool}{ds:DS}
theorem eU(h:SMem w Pd b be bp d q ek eg ev pk pg pv wi ds)(Xe:ek.length<=37):Av Ae 129 #[Al (Ag ⟨b,0,S⟩)] w fun e w'=>
 ∃ vN vD,e=Aj (BN #[J .u32 q,vN,vD])/\IR w' 0 vN (BJ ek)/\BBR w' 0 vD ((BJ ek).map ev)/\Ap w.heap.size w w':=by
 obtain⟨w1,hw1⟩:=nm (w.alloc ww);have hb1:Ap w.heap.size w w1:=by rw[hw1];exact As w _
 have h1:=h.below hb1;have HS:=wM (fun(W:Ai) (hb:Ap w1.heap.size w1 W)=>show W.cell? ⟨b,1,S⟩=Ag (J .u32 q)/\W.cell? ⟨b,2,S⟩=Ag (.map (Ag be)) from⟨(h1.below hb).c1,(h1.below hb).c2⟩);have KK:=wM (fun(W:Ai) (hb:Ap w1.heap.size w1 W)=>(lD be W).mono (R':=fun e wk=>∃ p,e=Aj (.func (.func 199) #[] #[Al (Ag ⟨p,0,S⟩)])/\wk.heap[p]? =Ag (Am #[.map (Ag be)] 107 (0,0))/\Ap w1.heap.size w1 wk/\Ap W.heap.size W wk) (fun e wk ⟨he,hk⟩=>by
  subst hk;exact⟨_,he,Ar W _,hb.trans ((As W _).mono hb.size),As W _⟩))
 have KS:=wM (fun(W:Ai) (p:Nat) (hb:Ap w1.heap.size w1 W) (hp:W.heap[p]? =Ag (Am #[.map (Ag be)] 107 (0,0)))=>(Vq (h1.below hb).me hp (by omega)).mono (R':=fun e wk=>∃ no nc,e=Aj (Ak no (BJ ek).length nc)/\IR wk w1.heap.size (Ak no (BJ ek).length nc) (BJ ek)/\Ap w1.heap.size w1 wk/\Ap W.heap.size W wk) (fun e wk ⟨v,he,hi,hk⟩=>by
  obtain⟨_,no,nc,rfl,_⟩:=hi.isc;exact⟨no,nc,he,⟨hi.1,hi.2.imp id fun⟨g,cap,cur,hv,hg,r⟩=>⟨g,cap,cur,hv,AI hb.size hg,r⟩⟩,hb.trans (hk.mono hb.size),hk⟩))
 have HAL:=wM (fun(W:Ai) (o:Obj) (hb:Ap w1.heap.size w1 W)=>show Ap w1.heap.size w1 (W.alloc o) from hb.trans ((As W _).mono hb.size));have b0:Ap w1.heap.size w1 w1.drew:=AM (AC _ _) 1;have HW1:=wM hw1;have HB1:=wM hb1;clear h hw1 hb1;go_enter Tryz.func129,Tryz.ntmps129;go_upto_region 1 with(fail)
 rw[show w.alloc (Am #[J .u32 0,Ak S 0 0,Ak S 0 0] 215)=w1 from HW1.out.symm];obtain⟨n1,FV⟩:=nm w1.heap.size;rw[<- FV] at HS KK KS HAL b0;obtain⟨L,hL⟩:=nm ((BJ ek).length);rw[<- hL] at KS;have s0:=HS.out _ b0;have bA:Ap n1 w1 (w1.alloc (Am #[J .u32 0,Ak S 0 0,Ak S 0 0] 215)).drew:=AM (HAL.out _ _ (by rw[FV];exact AC _ _)) 1;have sA:=HS.out _ bA;have hA:(w1.alloc (Am #[J .u32 0,Ak S 0 0,Ak S 0 0] 215)).drew.heap[w1.heap.size]? =Ag (Am #[J .u32 0,Ak S 0 0,Ak S 0 0] 215 (0,0)):=Ar w1 _;have HN1:=wM FV;have HL:=wM hL;have HBL:=wM h1.bl;have HMEM:=wM (fun(W:Ai) (hb:Ap w1.heap.size w1 W)=>h1.below hb);clear FV hL h1
 go_cut [3] from 6 (fun t3 wc=>∃ g no nc,t3=Al (Ag ⟨g,0,S⟩)/\n1<=g/\Ap n1 w1 wc/\wc.heap[g]? =Ag (Am #[J .u32 q,Ak no L nc,Ak S 0 0] 215 (0,0))/\IR wc n1 (Ak no L nc) (BJ ek))
 case first=>
  go_region_held3 (fun W=>W.cell? ⟨b,1,S⟩=Ag (J .u32 q)/\W.cell? ⟨b,2,S⟩=Ag (.map (Ag be))) (first|with_reducible exact iR (HS.out _ bS) hg1|with_reducible exact iR (HS.out _ bS) hg2|with_reducible exact iR (HS.out _ (HAL.out _ _ bS)) hg3|with_reducible exact HS.out _ bS|with_reducible exact HS.out _ (HAL.out _ _ bS)|with_reducible exact HS.out _ bK|with_reducible exact HS.out _ (HAL.out _ _ bK)|with_reducible exact sA|with_reducible exact s0) (first
   |(go_at_call 171;(with_reducible refine(KK.out _ (by first|with_reducible exact b0|with_reducible exact bA)).mono ?_);rintro e wk ⟨p,rfl,hp,bK,bKW⟩
     try have yK:=(by with_reducible exact JZ hA bKW))
   |(go_at_call 170;(with_reducible refine(KS.out _ _ (by first|with_reducible exact bK|with_reducible exact HAL.out _ _ bK) (by first|with_reducible exact hp|with_reducible exact ZB hp _)).mono ?_);rintro e ws ⟨no,nc,rfl,hir,bS,bSW⟩
     first
      |(have xS:=(by with_reducible exact JZ yK bSW);obtain⟨⟨x0,x1,x2⟩,y0,y1,y2⟩:=Wv xS)
      |(have xS:ws.heap[wk.heap.size]? =Ag (Am #[J .u32 0,Ak S 0 0,Ak S 0 0] 215):=(by with_reducible exact JZ (Ar wk _) bSW)
        obtain⟨⟨x0,x1,x2⟩,y0,y1,y2⟩:=Wv xS)
      |skip
     have hg1:b≠w1.heap.size:=(by have:=HBL.out;omega);have hg2:b≠wk.heap.size:=(by have:=HBL.out;have:=bK.size;omega);have hg3:b≠ws.heap.size:=by have:=HBL.out;have:=bS.size;omega))
  . go_wp2_with fail
    go_meet
    exact⟨ws.heap.size,no,nc,rfl,by have:=HN1.out;have:=bS.size;omega,HAL.out _ _ bS,Ar ws _,hir.below (As ws _)⟩
  . go_wp2_with fail
    go_meet
    exact tZ (HS1:=HN1.out) bS xS hir (by have:=HN1.out;have:=bK.size;omega)
  . go_wp2_with fail
    go_meet
    exact tZ (HS1:=HN1.out) bS xS hir (by have:=HN1.out;omega)
 case rest=>
  obtain⟨g,no,nc,rfl,WP,Q4,vi,hir⟩:=hcut;clear s0 bA sA hA b0;obtain⟨m1,hm1⟩:=nm wc.heap.size;have hgm:g<m1:=by rw[hm1];exact(Ah.1 vi).1
  obtain⟨⟨y0,y1,y2⟩,_⟩:=Wv vi;have HSM:=wM (fun(W:Ai) (hb:Ap n1 w1 W)=>HMEM.out W (HN1.out ▸ hb));have HCN:=wM (fun(W:Ai) (hk:∀ j,j<m1->j≠g->W.heap[j]? =wc.heap[j]?)=>show IR W n1 (Ak no L nc) (BJ ek) from Fs hir fun r hr=>hk r (by rw[hm1];exact(pK hir hr).1) (fun e=>by
   obtain⟨cur,hh⟩:=(pK hir hr).2;rw[e,vi] at hh
   injection hh with hh
   injection hh with _ e2
   exact absurd e2 (by decide)))
  have HGM:=wM hgm;have HGN:=wM WP;have HW0:Hid (∀ W,Ap n1 w1 W->W.heap[w.heap.size]? =Ag (Am #[J .u32 0,Ak S 0 0,Ak S 0 0] 215 (0,0))):=wM (fun W hb=>by
   have e1:w1.heap[w.heap.size]? =Ag ww:=(by rw[HW1.out];exact Ar w ww);rw[hb.block _ (by rw[HN1.out,HW1.out];simp),e1];rfl)
  have HST:Hid (wc.heap[g]? =Ag (Am #[J .u32 q,Ak no L nc,Ak S 0 0] 215 (0,0))):=wM vi;have HSB:Hid (BB2 wc m1 0 (Ak S 0 0) []):=wM ⟨[],rfl,fun j hj=>absurd hj (A9 _),Dn _ _ _ _⟩;have HSE:=wM Q4;have HSZ:Hid (m1<=wc.heap.size):=wM (by omega);have HELS:=wM (fun k (hk:k<L)=>show(BJ ek).getD k 0∈ek/\(BJ ek).take (k+1)=(BJ ek).take k ++ [(BJ ek).getD k 0] from by
   rw[HL.out] at hk;refine⟨?_,?_⟩
   . rw[An,AL hk];exact mem_sortN.1 (Be hk)
   . rw[List.take_add_one,An,AL hk];rfl)
  have HL37:Hid (L<=37):=wM (by rw[HL.out,G9];exact Xe);clear WP Q4 vi hir hgm hm1 Xe HS KK KS HAL;go_wp2;go_loopw [20] (fun i wr=>∃ (k:Nat) (vD:Ao),k<=L/\i=J Y k/\Hid (wr.heap[g]? =Ag (Am #[J .u32 q,Ak no L nc,vD] 215 (0,0)))/\Hid (BB2 wr m1 0 vD (((BJ ek).take k).map ev))/\Hid (Ap n1 w1 wr)/\Hid (m1<=wr.heap.size/\∀ j,j<m1->j≠g->wr.heap[j]? =wc.heap[j]?)) (fun i _=>L-(intOf i).toNat)
  case atStart=>exact⟨0,Ak S 0 0,by omega,rfl,HST,HSB,HSE,wM ⟨HSZ.out,fun _ _ _=>rfl⟩⟩
  case round=>
   obtain⟨k,vD,hk,rfl,HG,HB,HE,HZ⟩:=hrel;clear HST HSB HSE HSZ y0 y1 y2;obtain⟨⟨y0,y1,y2⟩,f0,f1,f2⟩:=Wv HG.out;obtain⟨vo,vc,rfl,_⟩:=(HB.out.lower (AT _)).bbr.sl.shape;by_cases hlt:k<L
   . obtain⟨hx,gQ⟩:=HELS.out k hlt
     have hm:=HSM.out wr HE.out;obtain⟨no',nc',e1,q1⟩:=(HCN.out wr HZ.out.2).sl.open';obtain⟨rfl,rfl⟩:=And.intro (AY e1).1 (AY e1).2.2;rw[<- HL.out] at q1;obtain⟨b1,o1,rfl,_,c1⟩:=q1 (by omega);have z1:=c1 k hlt;have c2:=hm.c2;have hlo:=hm.me.look hx;obtain⟨gx,cx,cur,hv,_⟩:=(hm.re _ hx).row;have HBE:Hid (BElt wr.drew 0 (eg ((BJ ek).getD k 0)) (ev ((BJ ek).getD k 0))):=wM ((hm.re _ hx).1.elt.below (AM (AC _ _) 1));rw[hv] at hlo HBE;obtain⟨x,Uu⟩:=nm ((BJ ek).getD k 0);rw[<- Uu] at z1 hlo HBE gQ;have HTK:=wM gQ;have HRD:=wM (HB.out.below (AC _ wr).drew);have HLN:Hid ((((BJ ek).take k).map ev).length<=100000):=wM (by rw[Ba,AJ];have:=HL37.out;omega);have HM1:Hid (m1<=wr.drew.heap.size):=wM HZ.out.1;have ek':(k:Int)<(L:Int):=(by omega);obtain⟨W1,hW1⟩:=nm ((wr.alloc (Am #[Ak (Ag ⟨gx,0,S⟩) 256 cx] 77)).drew);have hbW:Ap wr.heap.size wr W1:=(by rw[hW1];exact AM (As wr _) 1);have hone:BB2 W1 m1 0 (Ak (Ag ⟨wr.heap.size,0,S⟩) 1 1) [ev x]:=(by rw[hW1];exact TU (B:=m1) HBE.out HM1.out);obtain⟨v5,w5,bz,hv5,hb5,_⟩:=Hu 95 Tryz.underlying95 W1 m1 0 (AT _) 95 _ _ (HB.out.below hbW) (Ak (Ag ⟨wr.heap.size,0,S⟩) 1 1) [ev x] (BBR.be (BB2.bbr (hone.lower (AT _)))) (by have:=HLN.out;simp only[List.length_singleton];omega) (AI HZ.out.1 hbW.size);have HG5:=(hb5.block g HGM.out).trans ((hbW.block g (AA HGM.out HZ.out.1)).trans HG.out);obtain⟨⟨z0,z1',z2⟩,g0,g1,g2⟩:=Wv HG5;obtain⟨vo5,vc5,rfl,_⟩:=(hv5.lower (AT _)).bbr.sl.shape;have HV5:=wM hv5;have HB5:=wM (show Ap m1 wr w5 from(hbW.mono HZ.out.1).trans hb5);have HG5':=wM HG5;have a2:=(hbW.cell (p:=⟨g,2,S⟩) (AA HGM.out HZ.out.1)).trans y2;have d2:=(show wr.drew.cell? ⟨g,2,S⟩=wr.cell? ⟨g,2,S⟩ from rfl).trans y2;have d3:wr.drew.cell? ⟨b,2,S⟩=Ag (.map (Ag be)):=c2;have hlo':=(HSM.out wr.drew (AM HE.out 1)).me.look hx;rw[hv,<- Uu] at hlo';rw[hW1] at bz a2;clear hv5 hb5 hbW hone hW1 HG5 HLN hx gQ hm e1 q1 c1 hv Uu hlo;generalize ((((BJ ek).take k).map ev) ++ [ev x]).length=K2 at HV5 bz;generalize (((BJ ek).take k).map ev).length=K1 at HB HRD bz a2 d2 y2 HG z2 HG5';have hwr6:=Wrote.setCell w5 g 2 (Ak vo5 K2 vc5);have HR1:=wM (A8 w5 g 2 _ _ (Ak vo5 K2 vc5) HG5'.out);have HR2:Hid (BB2 (w5.setCell ⟨g,2,S⟩ (Ak vo5 K2 vc5)) m1 0 (Ak vo5 K2 vc5) (((BJ ek).take (k+1)).map ev)):=wM (by
      rw[HTK.out,Cp];exact R9 HV5.out hwr6 HG5'.out)
     have HR3:Hid (Ap n1 w1 (w5.setCell ⟨g,2,S⟩ (Ak vo5 K2 vc5))):=wM ((HE.out.trans (HB5.out.mono (by have:=HGN.out;have:=HGM.out;omega))).trans (hwr6.below HGN.out));have HR4:Hid (m1<=(w5.setCell ⟨g,2,S⟩ (Ak vo5 K2 vc5)).heap.size/\∀ j,j<m1->j≠g->(w5.setCell ⟨g,2,S⟩ (Ak vo5 K2 vc5)).heap[j]? =wc.heap[j]?):=wM ⟨by rw[hwr6.2.2.2.1];exact AI HZ.out.1 HB5.out.size,fun j hj hn=>(hwr6.2.2.2.2 j hn).trans ((HB5.out.block j hj).trans (HZ.out.2 j hj hn))⟩;clear hwr6;go_wp2
     go_region_law (refine Oz (by rfl) (.tmp 25) (.tmp 32) 95 95 (by rfl) (by rfl) _ _ _ _ (by rfl) (by rfl) bz ?_)
     all_goals
      have hk37:L<=37:=HL37.out;go_wp2;go_roundw
      case rel=>exact⟨k+1,_,by omega,by go_num,HR1,HR2,HR3,HR4⟩
      case measure=>simp[intOf];omega
   . obtain rfl:k=L:=by omega
     have hw0:=HW0.out wr HE.out;generalize (((BJ ek).take k).map ev).length=K1 at HB y2 HG;go_wp2_with (with_reducible refine BD rfl 215 EG (.tmp 2) (.tmp 36) rfl w.heap.size rfl _ _ _ _ _ _ rfl rfl rfl rfl _ hw0 ?_;intro w9 hw9 hr9)
     refine AS (v:=BN #[J .u32 q,Ak no k nc,Ak vo K1 vc]) (results_cell_row rfl _ _ w.heap.size _ _ (0,0) _ rfl hr9 Tryz.underlying215 rfl (by rw[EG];rfl)) rfl ⟨_,_,rfl,?_,?_,?_⟩
     . exact jM ((HCN.out wr HZ.out.2).wrote hw9 hw0 (by decide))
     . have e1:(BJ ek).take k=BJ ek:=AR (by rw[HL.out];exact At _)
       have h9:=R9 HB.out hw9 hw0;rw[e1] at h9;exact(h9.lower (AT _)).bbr
     . exact HB1.out.trans (((HE.out.mono (by rw[HN1.out];exact HB1.out.size))).trans (hw9.below (At _)))
end
end
section
open Go.RowKit
theorem pL{t:DS}(hok:t.ok=AE)(tm:t.dn=Ay):t.pay.dn=Ay:=by
 have:WZ t.fu t.le t.dn=Ay:=by
  unfold DS.ok mb at hok;unfold WZ
  revert hok
  rw[tm];cases t.fu <;> simp
 exact this
theorem TX:∀ (A:List PA) (t:DS),(BC A t).1=0->t.dn=Ay->(BC A t).2.dn=Ay
 |[],_,_,h=>h
 |a :: A,t,h0,tm=>by
  rw[Ej] at h0 |-
  cases hok:t.ok
  . rw[hok,Ax CF] at h0
    exact absurd (show(2:Int)=0 from h0) (by decide)
  . rw[hok,Au rfl] at h0
    rw[Au rfl];refine TX A _ h0 ?_;have:=pL hok tm;cases a <;> exact this
theorem Lst.flush{n:Nat}{s:DS}{G:List (List Int)}(h:Lst n s G)(ZM:43<=n):Lst n s.flush G:=by
 obtain⟨h1,h2,h3⟩:=h;have hz:s.flush.F.length=n:=by show s.vis.length=n;rw[DS.vis_length];exact h1
 refine⟨hz,?_,?_⟩
 . rw[DS.flush_vis];exact h2
 . rcases h3 with⟨q,N,D,Z,a,b,c,e⟩| ⟨a,b⟩
   . have pc:Z.length=n:=b.1.symm.trans h1
     exact AU ⟨q,N,D,Z,a,b.home a.1 (by rw[pc];exact a.far) (by omega) c,fun x hx=>(by cases hx),e⟩
   . refine AW ⟨?_,rfl⟩
     show InvN s.vis G
     rw[KV b];exact a
def setA(q:Int)(N:List Int)(D:List (List Int)):List PA:=Dl q (Ee q N D) ++ (B7 N D ++ [.f])
theorem nJ{n:Nat}{N:List Int}{D:List (List Int)}(hT:okT n N D)(q:Int):(setA q N D).length<=100:=by
 obtain⟨h1,h2,_⟩:=EJ hT.1;unfold setA Dl Ee B7 Ci;simp only[AD,Ba,Dp,Bm,List.length_nil];omega
theorem cC{n:Nat}{s:DS}{G:List (List Int)}(h:Lst n s G)(ZM:43<=n)(hU:s.U=[])(hd:s.dn=Ay){q:Int}{N:List Int}{D:List (List Int)}(hT:okT n N D)(hq:0<=q/\q<4294967296):
 let r:=BC (setA q N D) s
 (r.1=0->r.2.dn=Ay/\r.2.U=[]/\Lst n r.2 (Cb (Ci N D) G))/\(r.1=2->s.fu=AE/\Pb n r.2 [G,Cb (Ci N D) G]):=by
 intro r;have hlen:=FD (setA q N D) s;have hsl:=nJ hT q;have hF:r.2.F.length=n:=hlen.1.trans h.1;have hU1:r.2.U.length<=1000:=by
  have h2:r.2.U.length<=s.U.length+(setA q N D).length:=hlen.2;rw[hU] at h2;simp at h2;omega
 have Ly:r.1=2->s.fu=AE:=fun h2=>by
  cases hf:s.fu
  . have:=(Lh (setA q N D) s hf hd).1
    have h2':(BC (setA q N D) s).1=2:=h2;rw[this] at h2';cases h2'
  . rfl
 have hw:=h.write ZM hT hq;have er:r=if (BC (Dl q (Ee q N D)) s).1=0 then BC (B7 N D ++ [.f]) (BC (Dl q (Ee q N D)) s).2 else BC (Dl q (Ee q N D)) s:=EE _ _ _
 by_cases h1:(BC (Dl q (Ee q N D)) s).1=0
 . rw[Au h1] at er
   have hm:=hw.2 h1;have hd1:=TX _ _ h1 hd;generalize (BC (Dl q (Ee q N D)) s).2=s1 at er hm hd1;obtain⟨k1,k2⟩:=hm.home ZM hT;have er2:=EE (B7 N D) [.f] s1;by_cases h2:(BC (B7 N D) s1).1=0
   . rw[Au h2] at er2
     have hl:=k2 h2;have hd2:=TX _ _ h2 hd1;generalize (BC (B7 N D) s1).2=s2 at er2 hl hd2;rw[er2] at er;cases hok:s2.ok
     . have e3:BC [.f] s2=(2,s2.pay):=by rw[Ej,hok,Ax (by decide)]
       rw[e3] at er;rw[er];refine⟨fun e=>absurd (show(2:Int)=0 from e) (by decide),fun e=>⟨Ly (by rw[er]),by rw[er] at hU1;exact hU1,by rw[er] at hF;exact hF,fun kp=>⟨_,by simp,hl.pay.crash ZM (fK kp)⟩⟩⟩
     . have e3:BC [.f] s2=(0,s2.flush):=by rw[Ej,hok,Au rfl];rfl
       rw[e3] at er;rw[er];exact⟨fun _=>⟨pL hok hd2,rfl,hl.flush ZM⟩,fun e=>absurd (show(0:Int)=2 from e) (by decide)⟩
   . rw[Ax h2] at er2
     rw[er2] at er;have h2':=(FG (B7 N D) s1).resolve_left h2;refine⟨fun e=>absurd (by rw[er] at e;exact e) h2,fun e=>⟨Ly e,hU1,hF,fun kp=>⟨Cb (Ci N D) G,by simp,?_⟩⟩⟩;rw[er];exact k1 (fK kp)
 . rw[Ax h1] at er
   have h1':=(FG (Dl q (Ee q N D)) s).resolve_left h1;refine⟨fun e=>absurd (by rw[er] at e;exact e) h1,fun e=>⟨Ly e,hU1,hF,fun kp=>?_⟩⟩;rw[er];rcases hw.1 (fK kp) h1' with k|k
   . exact⟨_,by simp,k⟩
   . exact⟨_,by simp,k⟩
theorem SO{l:List Int}(j:Nat)(hj:j<l.length):l.getD j 0∈l:=by
 rw[An,AL hj];exact Be hj
theorem rD{n:Nat}{ek:List Int}{ev:Int->List Int}(hn:ek.Nodup)(hl:ek.length<=37)(hk:∀ x∈ek,ta n x)(Ls:n<=768)(hv:∀ x∈ek,(ev x).length=256):okT n (BJ ek) ((BJ ek).map ev):=by
 have hmem:∀ j,j<(BJ ek).length->(BJ ek).getD j 0∈ek:=fun j hj=>mem_sortN.1 (SO j hj)
 have hD:∀ j,j<(BJ ek).length->((BJ ek).map ev).getD j []=ev ((BJ ek).getD j 0):=fun j hj=>by
  simp[hj]
 refine⟨?_,?_,?_⟩
 . unfold Gf
   rw[Az (by rw[G9];exact hl),Az (by rw[Ba]),AG,AG];refine(Nc _ _ _).2 fun i hi=>?_
   have hm:=hmem i hi;obtain⟨h0,h1,_⟩:=hk _ hm;unfold Y5 S0;rw[Az (by omega),hD i hi,Az (hv _ hm),AG,AG];refine(QB _ i hi).2 fun j hj e=>?_
   have hnd:=VE hn;have hj':j<(BJ ek).length:=(by omega);rw[An,An,AL hi,AL hj'] at e;exact(List.pairwise_iff_getElem.1 hnd) j i hj' hi hj e
 . exact(J8 _ _).2 fun k hk'=>(hk _ (hmem k hk')).2.1
 . refine(ay _).2 fun k hk' e=>?_
   have:=(hk _ (hmem k hk')).2.2;unfold D6 at this;omega
theorem ry{n:Nat}{ek:List Int}{ev:Int->List Int}{B I:List (List Int)}(hk:∀ x∈ek,ta n x)(hB:B.length=n)(hI:I.length=n)(hv:∀ i,D6 i->i<n->I.getD i []=if (i:Int)∈ek then ev i else B.getD i []):
 eqO (Cb (Ci (BJ ek) ((BJ ek).map ev)) B) I:=by
 have hD:∀ j,j<(BJ ek).length->((BJ ek).map ev).getD j []=ev ((BJ ek).getD j 0):=fun j hj=>by
  simp[hj]
 refine⟨by rw[BU];omega,fun i ho hi=>?_⟩;rw[hv i ho (by omega)];by_cases hin:(i:Int)∈ek
 . rw[Au hin]
   refine IS _ B i _ (by omega) (fun x hx hxi=>?_) ?_
   . unfold Ci at hx
     obtain⟨j,hj,rfl⟩:=BZ.1 hx;have hj':=Bd.1 hj;have h0:=(hk _ (mem_sortN.1 (SO j hj'))).1;have:(BJ ek).getD j 0=(i:Int):=by
      have h2:((BJ ek).getD j 0).toNat=i:=hxi;omega
     show((BJ ek).map ev).getD j []=ev i
     rw[hD j hj',this]
   . obtain⟨j,hj,e⟩:=Cw (mem_sortN.2 hin)
     refine⟨(((BJ ek).getD j 0).toNat,((BJ ek).map ev).getD j []),?_,?_⟩
     . unfold Ci
       exact BZ.2 ⟨j,Bd.2 hj,rfl⟩
     . show((BJ ek).getD j 0).toNat=i
       rw[An,AL hj];show((BJ ek)[j]).toNat=i
       rw[e];rfl
 . rw[Ax hin]
   refine Dj _ B i fun x hx hxi=>?_
   unfold Ci at hx;obtain⟨j,hj,rfl⟩:=BZ.1 hx;have hj':=Bd.1 hj;have hm:=mem_sortN.1 (SO j hj');have h0:=(hk _ hm).1;have h2:((BJ ek).getD j 0).toNat=i:=hxi;exact hin (by rw[show(i:Int)=(BJ ek).getD j 0 by omega];exact hm)
structure Stg (w:Ai) (Pd:Nat->Prop) (b be bp:Nat) (d:Ao) (q:Int) (ek:List Int) (eg:Int->Ao) (ev:Int->List Int) (pk:List Int) (pg:Int->Ao) (pv:Int->List Int) (wi:Bool) (g:Nat) (vN vD:Ao) (N:List Int) (D:List (List Int)) (W:Ai) (P':Nat->Prop) (s:DS):Prop where
 sm:SMem W P' b be bp d q ek eg ev pk pg pv wi s
 tx:TxVa W P' (BN #[J .u32 q,vN,vD]) q N D
 box:W.heap[g]? =Ag (Am #[J .u32 q,vN,vD] 215 (0,0))
 chg:Chg Pd P' w W
def MA:Obj:=Am #[Al S,J .u32 0,.map S,.map S,AP Ay,AP AE] 109 (0,0)
section
variable {w:Ai}{Pd:Nat->Prop}{b be bp:Nat}{d:Ao}{q:Int}{ek:List Int}{eg:Int->Ao}{ev:Int->List Int}{pk:List Int}{pg:Int->Ao}{pv:Int->List Int}{wi:Bool}{g:Nat}{vN vD:Ao}{N:List Int}{D:List (List Int)}{W:Ai}{P':Nat->Prop}{s:DS}
theorem Stg.below(h:Stg w Pd b be bp d q ek eg ev pk pg pv wi g vN vD N D W P' s){W':Ai}(hb:Ap W.heap.size W W'):Stg w Pd b be bp d q ek eg ev pk pg pv wi g vN vD N D W' P' s:=
 ⟨h.sm.below hb,h.tx.chg (Chg.of_below hb),(hb.block g (Ah.1 h.box).1).trans h.box,h.chg.trans (Chg.of_below hb)⟩
theorem Stg.step(h:Stg w Pd b be bp d q ek eg ev pk pg pv wi g vN vD N D W P' s){W':Ai}{P'':Nat->Prop}{s':DS}(hd:Dk W' P'' d s')(hc:Chg P' P'' W W'):Stg w Pd b be bp d q ek eg ev pk pg pv wi g vN vD N D W' P'' s':=
 ⟨h.sm.disk hd hc,h.tx.chg hc,(hc.keep g (Ah.1 h.box).1 (h.sm.dk.not h.box (by decide) (by decide) (by decide))).1.trans h.box,h.chg.trans hc⟩
theorem Stg.facts(h:Stg w Pd b be bp d q ek eg ev pk pg pv wi g vN vD N D W P' s):W.cell? ⟨b,0,S⟩=Ag d/\W.cell? ⟨g,0,S⟩=Ag (J .u32 q)/\W.cell? ⟨g,1,S⟩=Ag vN/\W.cell? ⟨g,2,S⟩=Ag vD:=⟨h.sm.c0,(Wv h.box).1.1,(Wv h.box).1.2.1,(Wv h.box).1.2.2⟩
theorem Stg.write(h:Stg w Pd b be bp d q ek eg ev pk pg pv wi g vN vD N D W P' s)(hB:Gl s.F.length N D=AE)(hU:s.U.length<=900000):
 Av Ae 130 #[d,BN #[J .u32 q,vN,vD]] W fun e W'=>e=Aj (J Y (BC (Dl q (Ee q N D)) s).1)/\∃ P'',Stg w Pd b be bp d q ek eg ev pk pg pv wi g vN vD N D W' P'' (BC (Dl q (Ee q N D)) s).2:=
 (Xp h.sm.dk h.tx.v h.sm.q0.1 h.sm.q0.2 hB hU).mono fun e W' ⟨he,P'',hd,hc⟩=>⟨he,P'',h.step hd hc⟩
theorem Stg.home(h:Stg w Pd b be bp d q ek eg ev pk pg pv wi g vN vD N D W P' s)(hB:Gl s.F.length N D=AE)(hU:s.U.length<=900000):
 Av Ae 122 #[d,BN #[J .u32 q,vN,vD]] W fun e W'=>e=Aj (J Y (BC (B7 N D) s).1)/\∃ P'',Stg w Pd b be bp d q ek eg ev pk pg pv wi g vN vD N D W' P'' (BC (B7 N D) s).2:=
 (Sc h.sm.dk h.tx hB hU).mono fun e W' ⟨he,P'',hd,hc⟩=>⟨he,P'',h.step hd hc⟩
theorem Stg.flush(h:Stg w Pd b be bp d q ek eg ev pk pg pv wi g vN vD N D W P' s)(hU:s.U.length<=900000):
 Av Ae 123 #[d] W fun e W'=>e=Aj (J Y (BC [.f] s).1)/\∃ P'',Stg w Pd b be bp d q ek eg ev pk pg pv wi g vN vD N D W' P'' (BC [.f] s).2:=
 (Td h.sm.dk (by omega)).mono fun e W' ⟨he,P'',hd,hc⟩=>by
   rw[Ej];cases hok:s.ok
   . rw[hok] at he hd
     exact⟨he,P'',h.step hd hc⟩
   . rw[hok] at he hd
     exact⟨he,P'',h.step hd hc⟩
theorem Stg.over(h:Stg w Pd b be bp d q ek eg ev pk pg pv wi g vN vD N D W P' s):Av Ae 131 #[Al (Ag ⟨b,0,S⟩),J Y 2] W fun e w'=>e=Aj (J Y 2)/\
 ∃ Pd',w'.heap[b]? =Ag MA/\Dk w' Pd' d s/\(∀ k,Pd' k->Pd k\/w.heap.size<=k)/\Ext (fun k=>Pd k\/k=b) w w':=
 (oP h.sm).mono fun e w' ⟨he,hw,hb⟩=>⟨he,P',hb,h.sm.dk.same fun k hk=>hw.2.2.2.2 k fun e=>h.sm.nd (e ▸ hk),fun k hk=>Mv h.chg hk,
   ((Ext.of_chg h.chg fun k hk=>AU hk).trans (P2:=fun k=>k=b) (Ext.of_wrote hw rfl) fun k _ e=>AW e)⟩
theorem Stg.fresh(h:Stg w Pd b be bp d q ek eg ev pk pg pv wi g vN vD N D W P' s){q':Int}(hq:0<=q'/\q'<4294967296):
 let w':=((W.setCell ⟨b,1,S⟩ (J .u32 q')).setCell ⟨b,2,S⟩ (.map (Ag W.heap.size))).alloc (.map #[] 0)
 ∃ be' Pd' q'',SMem w' Pd' b be' bp d q'' [] eg ev pk pg pv wi s/\(w.heap.size<=be'/\be'<w'.heap.size)/\(∀ k,Pd' k->Pd k\/w.heap.size<=k)/\Ext (fun k=>Pd k\/k=b) w w':=by
 intro w';obtain⟨w2,hw2⟩:=nm ((W.setCell ⟨b,1,S⟩ (J .u32 q')).setCell ⟨b,2,S⟩ (.map (Ag W.heap.size)));have hw':w'=w2.alloc (.map #[] 0):=by rw[hw2]
 have Ot:w2.heap.size=W.heap.size:=by rw[hw2];simp[Ai.setCell]
 have hwr:Wrote W w2 b:=by rw[hw2];exact(Wrote.setCell W b 1 _).and (Wrote.setCell _ b 2 _)
 have hbb:Ap w2.heap.size w2 w':=by rw[hw'];exact As w2 _
 have hbW:=h.sm.bl;have e1:=A8 W b 1 _ _ (J .u32 q') h.sm.hb;have e2:=A8 _ b 2 _ _ (.map (Ag W.heap.size)) e1;rw[<- hw2] at e2;have e3:=(hbb.block b (by rw[Ot];exact hbW)).trans e2;have Ed:w'.heap.size=W.heap.size+1:=by rw[hw'];simp[Ot]
 have hk:∀ k,k<W.heap.size->k≠b->w'.heap[k]? =W.heap[k]? :=fun k hl hn=>(hbb.block k (by rw[Ot];exact hl)).trans (hwr.2.2.2.2 k hn)
 have hM:Mp w' W.heap.size [] eg:=by
  have h0:=Mp.made w2 eg;rw[Ot,<- hw'] at h0;exact h0
 have hbp:=h.sm.mp.lt;have hext:Ext (fun k=>Pd k\/k=b) w w':=((Ext.of_chg h.chg fun k hk=>AU hk).trans (P2:=fun k=>k=b) ⟨hbb.os.trans hwr.1,hbb.tape.trans hwr.2.1,hbb.output.trans hwr.2.2.1,by rw[Ed];omega,fun k hl hn=>hk k hl hn⟩ fun k _ e=>AW e);refine⟨W.heap.size,P',q',⟨e3,?_,hq,hM,?_,?_,fun x hx=>absurd hx Bi,?_⟩,⟨h.chg.size,by rw[Ed];omega⟩,fun k hk=>Mv h.chg hk,hext⟩
 . exact h.sm.dk.same fun k hp=>hk k (h.sm.dk.lt k hp) fun e=>h.sm.nd (e ▸ hp)
 . exact h.sm.mp.keep (hk bp hbp h.sm.nb.2)
 . exact fun e=>by rw[<- e] at hbp;exact Nat.lt_irrefl _ hbp
 . exact fun x hx=>(h.sm.rp x hx).keep fun r hr=>hk r ((h.sm.rp x hx).lt hr) ((h.sm.rp x hx).ne hr h.sm.hb (by decide))
end
def wz(w:Ai)(Pd:Nat->Prop)(b bp:Nat)(d:Ao)(eg:Int->Ao)(ev:Int->List Int)(pk:List Int)(pg:Int->Ao)(pv:Int->List Int)(wi:Bool)(r:Int × DS)(e:Ending)(w':Ai):Prop:=
 (r.1=0/\e=Aj (J Y 0)/\∃ be' Pd' q',SMem w' Pd' b be' bp d q' [] eg ev pk pg pv wi r.2/\(w.heap.size<=be'/\be'<w'.heap.size)/\(∀ k,Pd' k->Pd k\/w.heap.size<=k)/\Ext (fun k=>Pd k\/k=b) w w')\/
 (r.1=2/\e=Aj (J Y 2)/\∃ Pd',w'.heap[b]? =Ag MA/\Dk w' Pd' d r.2/\(∀ k,Pd' k->Pd k\/w.heap.size<=k)/\Ext (fun k=>Pd k\/k=b) w w')
section
variable {w:Ai}{Pd:Nat->Prop}{b be bp:Nat}{d:Ao}{q:Int}{ek:List Int}{eg:Int->Ao}{ev:Int->List Int}{pk:List Int}{pg:Int->Ao}{pv:Int->List Int}{wi:Bool}{s:DS}
theorem XV(h:SMem w Pd b be bp d q ek eg ev pk pg pv wi s)(hne:0<ek.length)(Xe:ek.length<=37)(hB:Gl s.F.length (BJ ek) ((BJ ek).map ev)=AE)(hU:s.U.length<=800000):
 Av Ae 86 #[Al (Ag ⟨b,0,S⟩)] w (wz w Pd b bp d eg ev pk pg pv wi (BC (setA q (BJ ek) ((BJ ek).map ev)) s)):=by
 have KT:=wM (eU h Xe);obtain⟨N,hN⟩:=nm (BJ ek);obtain⟨D,hD⟩:=nm (N.map ev);rw[<- hN,<- hD] at KT hB |-
 have JJ:N.length<=37/\D.length<=37:=by rw[hD,Ba,hN,G9];exact⟨Xe,Xe⟩
 have c2:=h.c2;have hlen:=fun ty=>h.me.len ty
 have hp:0<(ek.length:Int):=by omega
 obtain⟨m,hm⟩:=nm ek.length;rw[<- hm] at hlen hp;have h0:=h.dk.ptr;obtain⟨bd,rfl⟩:=h0;have HST:=wM (fun(w1:Ai) (vN vD:Ao) (hi:IR w1 0 vN N) (hd:BBR w1 0 vD D) (hb:Ap w.heap.size w w1)=>
  show Stg w Pd b be bp (Al (Ag ⟨bd,0,S⟩)) q ek eg ev pk pg pv wi w1.heap.size vN vD N D (w1.alloc (Am #[J .u32 q,vN,vD] 215)) Pd s from
   ⟨(h.below hb).below (As w1 _),(TxVa.own (h.below hb).dk hi hd).chg (Chg.of_below (As w1 _)),Ar w1 _,(Chg.of_below hb).trans (Chg.of_below (As w1 _))⟩)
 have HSH:=wM (fun(w1:Ai) (vN vD:Ao) (hi:IR w1 0 vN N) (hd:BBR w1 0 vD D)=>And.intro hi.isc.2 hd.sl.shape);have hl1:=FD (Dl q (Ee q N D)) s;have hlw:(Dl q (Ee q N D)).length<=50:=by
  unfold Dl Ee;simp only[AD,Ba,Dp,Bm,List.length_nil];omega
 have hlh:(B7 N D).length<=40:=by
  rw[Fh];omega
 have HW:=wM (fun(g:Nat) (vN vD:Ao) (W:Ai) (P':Nat->Prop) (hs:Stg w Pd b be bp (Al (Ag ⟨bd,0,S⟩)) q ek eg ev pk pg pv wi g vN vD N D W P' s)=>hs.write hB (by omega));have er:=EE (Dl q (Ee q N D)) (B7 N D ++ [.f]) s;have HQ:=wM h.q0;obtain⟨R,hR⟩:=nm (BC (setA q N D) s);have hR':=hR;unfold setA at hR';rw[er] at hR';rw[<- hR];have hr1:=FG (Dl q (Ee q N D)) s;obtain⟨r1,s1,h1⟩:∃ r1 s1,BC (Dl q (Ee q N D)) s=(r1,s1):=⟨_,_,rfl⟩;rw[h1] at HW hl1 hR' hr1;simp only at hl1;have HH:=wM (fun(g:Nat) (vN vD:Ao) (W:Ai) (P':Nat->Prop) (hs:Stg w Pd b be bp (Al (Ag ⟨bd,0,S⟩)) q ek eg ev pk pg pv wi g vN vD N D W P' s1)=>hs.home (by rw[hl1.1];exact hB) (by omega));have er2:=EE (B7 N D) [.f] s1;rw[er2] at hR';have Xa:=FD (B7 N D) s1;have hr2:=FG (B7 N D) s1;obtain⟨r2,s2,h2⟩:∃ r2 s2,BC (B7 N D) s1=(r2,s2):=⟨_,_,rfl⟩;rw[h2] at HH Xa hR' hr2;simp only at Xa;have HF:=wM (fun(g:Nat) (vN vD:Ao) (W:Ai) (P':Nat->Prop) (hs:Stg w Pd b be bp (Al (Ag ⟨bd,0,S⟩)) q ek eg ev pk pg pv wi g vN vD N D W P' s2)=>hs.flush (by omega));have hr3:=FG [.f] s2;obtain⟨r3,s3,h3⟩:∃ r3 s3,BC [.f] s2=(r3,s3):=⟨_,_,rfl⟩;rw[h3] at HF hR' hr3;have ur:∃ q',IntKind.u32.wrap (q+1)=q'/\0<=q'/\q'<4294967296:=⟨(q+1)%4294967296,by simp[IntKind.wrap,IntKind.signed,IntKind.bits],by omega,by omega⟩;obtain⟨q',hq',Xf⟩:=ur;have HQ':=wM Xf;clear h Xe hB hU hN hD JJ hm hl1 Xa hlw hlh er er2 h1 h2 h3 hne Xf hR;simp only at hr1 hr2 hr3 HW HH HF hR';rcases hr1 with rfl|rfl
 . rcases hr2 with rfl|rfl
   . rcases hr3 with rfl|rfl
     . -- all is done
       rw[Au rfl,Au rfl] at hR';subst hR';go_enter Tryz.func86,Tryz.ntmps86
       go_wp2_with (go_at_call 129;(with_reducible refine KT.out.mono ?_);rintro e w1 ⟨vN,vD,rfl,hi,hd,hb⟩
                    have HS:=wM (HST.out w1 vN vD hi hd hb);obtain⟨⟨no,nc,rfl,_⟩,ao,dc,rfl,_⟩:=HSH.out w1 vN vD hi hd;clear hi hd hb)
       generalize hgg:w1.heap.size=g at HS;generalize w1.alloc (Am #[J .u32 q,Ak no N.length nc,Ak ao D.length dc] 215)=W2 at HS |-
       obtain⟨k0,k1,k2,k3⟩:=HS.out.facts;generalize N.length=ln at HS k2 |-
       generalize D.length=ld at HS k3 |-
       have KW:=wM (HW.out g _ _ W2.drew _ (HS.out.below (AC _ W2).drew));go_still_tail 5,(by kernel_rfl)
       go_wp2_with (first
                    |(go_at_call 130;(with_reducible refine KW.out.mono ?_);rintro e W3 ⟨rfl,P3,hs3⟩
                      have HS3:=wM hs3;obtain⟨l0,l1,l2,l3⟩:=hs3.facts;clear hs3))
       have hmm:=@run_makeMap Ae;have KH:=wM (HH.out g _ _ W3.drew _ (HS3.out.below (AC _ W3).drew));go_still_tail 5,(by kernel_rfl)
       go_wp2_with (first
                    |(go_at_call 122;(with_reducible refine KH.out.mono ?_);rintro e W4 ⟨rfl,P4,hs4⟩
                      have HS4:=wM hs4;obtain⟨m0,m1,m2,m3⟩:=hs4.facts;clear hs4)
                    |(go_at_call 123;(with_reducible refine(HF.out g _ _ W4 _ HS4.out).mono ?_);rintro e W5 ⟨rfl,P5,hs5⟩
                      have HS5:=wM hs5;have n1:=hs5.sm.c1;have n2:=hs5.sm.c2;have f1:=hs5.sm.fr 1;have f2:=hs5.sm.fr 2;have hbl:=hs5.sm.bl;have sG:b≠W5.heap.size:=Nat.ne_of_lt hs5.sm.bl;have sH:W5.heap.size≠b:=fun e=>sG e.symm
                      clear hs5))
       go_ret;exact AU ⟨rfl,rfl,HS5.out.fresh HQ'.out⟩
     . rw[Au rfl,Au rfl] at hR'
       subst hR';go_enter Tryz.func86,Tryz.ntmps86
       go_wp2_with (go_at_call 129;(with_reducible refine KT.out.mono ?_);rintro e w1 ⟨vN,vD,rfl,hi,hd,hb⟩
                    have HS:=wM (HST.out w1 vN vD hi hd hb);obtain⟨⟨no,nc,rfl,_⟩,ao,dc,rfl,_⟩:=HSH.out w1 vN vD hi hd;clear hi hd hb)
       generalize hgg:w1.heap.size=g at HS;generalize w1.alloc (Am #[J .u32 q,Ak no N.length nc,Ak ao D.length dc] 215)=W2 at HS |-
       obtain⟨k0,k1,k2,k3⟩:=HS.out.facts;generalize N.length=ln at HS k2 |-
       generalize D.length=ld at HS k3 |-
       have KW:=wM (HW.out g _ _ W2.drew _ (HS.out.below (AC _ W2).drew));go_still_tail 5,(by kernel_rfl)
       go_wp2_with (first
                    |(go_at_call 130;(with_reducible refine KW.out.mono ?_);rintro e W3 ⟨rfl,P3,hs3⟩
                      have HS3:=wM hs3;obtain⟨l0,l1,l2,l3⟩:=hs3.facts;clear hs3))
       have KH:=wM (HH.out g _ _ W3.drew _ (HS3.out.below (AC _ W3).drew));go_still_tail 5,(by kernel_rfl)
       go_wp2_with (first
                    |(go_at_call 122;(with_reducible refine KH.out.mono ?_);rintro e W4 ⟨rfl,P4,hs4⟩
                      have HS4:=wM hs4;obtain⟨m0,m1,m2,m3⟩:=hs4.facts;clear hs4)
                    |(go_at_call 123;(with_reducible refine(HF.out g _ _ W4 _ HS4.out).mono ?_);rintro e W5 ⟨rfl,P5,hs5⟩
                      have HS5:=wM hs5;have n1:=hs5.sm.c1;have n2:=hs5.sm.c2;have f1:=hs5.sm.fr 1;have f2:=hs5.sm.fr 2;have hbl:=hs5.sm.bl;have sG:b≠W5.heap.size:=Nat.ne_of_lt hs5.sm.bl;have sH:W5.heap.size≠b:=fun e=>sG e.symm
                      clear hs5)
                    |(go_at_call 131;(with_reducible refine HS5.out.over.mono ?_);rintro e w9 ⟨rfl,vj⟩))
       go_ret;exact AW ⟨rfl,rfl,vj⟩
   . rw[Au rfl,Ax (by decide)] at hR'
     subst hR';go_enter Tryz.func86,Tryz.ntmps86
     go_wp2_with (go_at_call 129;(with_reducible refine KT.out.mono ?_);rintro e w1 ⟨vN,vD,rfl,hi,hd,hb⟩
                  have HS:=wM (HST.out w1 vN vD hi hd hb);obtain⟨⟨no,nc,rfl,_⟩,ao,dc,rfl,_⟩:=HSH.out w1 vN vD hi hd;clear hi hd hb)
     generalize hgg:w1.heap.size=g at HS;generalize w1.alloc (Am #[J .u32 q,Ak no N.length nc,Ak ao D.length dc] 215)=W2 at HS |-
     obtain⟨k0,k1,k2,k3⟩:=HS.out.facts;generalize N.length=ln at HS k2 |-
     generalize D.length=ld at HS k3 |-
     have KW:=wM (HW.out g _ _ W2.drew _ (HS.out.below (AC _ W2).drew));go_still_tail 5,(by kernel_rfl)
     go_wp2_with (first
                  |(go_at_call 130;(with_reducible refine KW.out.mono ?_);rintro e W3 ⟨rfl,P3,hs3⟩
                    have HS3:=wM hs3;obtain⟨l0,l1,l2,l3⟩:=hs3.facts;clear hs3))
     have KH:=wM (HH.out g _ _ W3.drew _ (HS3.out.below (AC _ W3).drew));go_still_tail 5,(by kernel_rfl)
     go_wp2_with (first
                  |(go_at_call 122;(with_reducible refine KH.out.mono ?_);rintro e W4 ⟨rfl,P4,hs4⟩
                    have HS4:=wM hs4;obtain⟨m0,m1,m2,m3⟩:=hs4.facts;clear hs4)
                  |(go_at_call 131;(with_reducible refine HS4.out.over.mono ?_);rintro e w9 ⟨rfl,vj⟩))
     go_ret;exact AW ⟨rfl,rfl,vj⟩
 . rw[Ax (by decide)] at hR'
   subst hR';clear HH HF;go_enter Tryz.func86,Tryz.ntmps86
   go_wp2_with (go_at_call 129;(with_reducible refine KT.out.mono ?_);rintro e w1 ⟨vN,vD,rfl,hi,hd,hb⟩
                have HS:=wM (HST.out w1 vN vD hi hd hb);obtain⟨⟨no,nc,rfl,_⟩,ao,dc,rfl,_⟩:=HSH.out w1 vN vD hi hd;clear hi hd hb)
   generalize hgg:w1.heap.size=g at HS;generalize w1.alloc (Am #[J .u32 q,Ak no N.length nc,Ak ao D.length dc] 215)=W2 at HS |-
   obtain⟨k0,k1,k2,k3⟩:=HS.out.facts;generalize N.length=ln at HS k2 |-
   generalize D.length=ld at HS k3 |-
   have KW:=wM (HW.out g _ _ W2.drew _ (HS.out.below (AC _ W2).drew));go_still_tail 5,(by kernel_rfl)
   go_wp2_with (first
                |(go_at_call 130;(with_reducible refine KW.out.mono ?_);rintro e W3 ⟨rfl,P3,hs3⟩
                  have HS3:=wM hs3;obtain⟨l0,l1,l2,l3⟩:=hs3.facts;clear hs3)
                |(go_at_call 131;(with_reducible refine HS3.out.over.mono ?_);rintro e w9 ⟨rfl,vj⟩))
   go_ret;exact AW ⟨rfl,rfl,vj⟩
end
def E8{α:Type}(pk:List Int)(p e:Int->α)(x:Int):α:=if x∈pk then p x else e x
section
variable {w:Ai}{Pd:Nat->Prop}{b be bp:Nat}{d:Ao}{q:Int}{ek:List Int}{eg:Int->Ao}{ev:Int->List Int}{pk:List Int}{pg:Int->Ao}{pv:Int->List Int}{wi:Bool}{s:DS}
theorem SMem.copied(h:SMem w Pd b be bp d q ek eg ev pk pg pv wi s){w':Ai}(hm:Mp w' be (EU ek pk) (E8 pk pg eg))(hp:Mp w' bp pk pg)(hg:w.grownBy w' (Ag be)):SMem w' Pd b be bp d q (EU ek pk) (E8 pk pg eg) (E8 pk pv ev) pk pg pv wi s:=by
 have hk:∀ k,k<w.heap.size->k≠be->w'.heap[k]? =w.heap[k]? :=fun k hl hn=>hg.block k hl fun e=>hn (A0 e)
 refine⟨by rw[hk b h.bl fun e=>h.nb.1 e.symm];exact h.hb,h.dk.same fun k gV=>hk k (h.dk.lt k gV) fun e=>Mp.nd h.dk h.me (e ▸ gV),h.q0,hm,hp,h.ne,fun x hx=>?_,fun x hx=>(h.rp x hx).keep fun g hg'=>hk g ((h.rp x hx).lt hg') ((h.rp x hx).nm hg' h.me)⟩;unfold E8;by_cases hin:x∈pk
 . rw[Au hin,Au hin]
   exact(h.rp x hin).keep fun g hg'=>hk g ((h.rp x hin).lt hg') ((h.rp x hin).nm hg' h.me)
 . rw[Ax hin,Ax hin]
   have hx':=(mem_uniN.1 hx).resolve_right hin;exact(h.re x hx').keep fun g hg'=>hk g ((h.re x hx').lt hg') ((h.re x hx').nm hg' h.me)
theorem SMem.copy(h:SMem w Pd b be bp d q ek eg ev pk pg pv wi s)(Xe:ek.length<=1000)(hpl:pk.length<=1000):Av Ae 87 #[.map (Ag be),.map (Ag bp)] w fun e w'=>e=Aj (AH #[])/\SMem w' Pd b be bp d q (EU ek pk) (E8 pk pg eg) (E8 pk pv ev) pk pg pv wi s/\Ext (fun k=>k=be) w w':=
 (ks h.me h.mp h.ne (by omega)).mono fun e w' ⟨he,hm,hp,hg⟩=>⟨he,h.copied hm hp hg,Ext.of_grown hg rfl⟩
theorem SMem.cleared(h:SMem w Pd b be bp d q ek eg ev pk pg pv wi s)(pg':Int->Ao)(pv':Int->List Int):
 let w':=((w.setCell ⟨b,3,S⟩ (.map (Ag w.heap.size))).setCell ⟨b,4,S⟩ (AP Ay)).alloc (.map #[] 0)
 SMem w' Pd b be w.heap.size d q ek eg ev [] pg' pv' Ay s/\w'.heap.size=w.heap.size+1/\Ext (fun k=>k=b) w w':=by
 intro w';obtain⟨w2,hw2⟩:=nm ((w.setCell ⟨b,3,S⟩ (.map (Ag w.heap.size))).setCell ⟨b,4,S⟩ (AP Ay));have hw':w'=w2.alloc (.map #[] 0):=by rw[hw2]
 have Ot:w2.heap.size=w.heap.size:=by rw[hw2];simp[Ai.setCell]
 have hwr:Wrote w w2 b:=by rw[hw2];exact(Wrote.setCell w b 3 _).and (Wrote.setCell _ b 4 _)
 have hbb:Ap w2.heap.size w2 w':=by rw[hw'];exact As w2 _
 have e1:=A8 w b 3 _ _ (.map (Ag w.heap.size)) h.hb;have e2:=A8 _ b 4 _ _ (AP Ay) e1;rw[<- hw2] at e2;have e3:=(hbb.block b (by rw[Ot];exact h.bl)).trans e2;have Ed:w'.heap.size=w.heap.size+1:=by rw[hw'];simp[Ot]
 have hk:∀ k,k<w.heap.size->k≠b->w'.heap[k]? =w.heap[k]? :=fun k hl hn=>(hbb.block k (by rw[Ot];exact hl)).trans (hwr.2.2.2.2 k hn)
 have hM:Mp w' w.heap.size [] pg':=by
  have h0:=Mp.made w2 pg';rw[Ot,<- hw'] at h0;exact h0
 have hbe:=h.me.lt
 refine⟨⟨e3,h.dk.same fun k hp=>hk k (h.dk.lt k hp) fun e=>h.nd (e ▸ hp),h.q0,h.me.keep (hk be hbe h.nb.1),hM,fun e=>by rw[e] at hbe;exact Nat.lt_irrefl _ hbe,
  fun x hx=>(h.re x hx).keep fun r hr=>hk r ((h.re x hx).lt hr) ((h.re x hx).ne hr h.hb (by decide)),fun x hx=>absurd hx Bi⟩,Ed,
  ⟨hbb.os.trans hwr.1,hbb.tape.trans hwr.2.1,hbb.output.trans hwr.2.2.1,by rw[Ed];omega,fun k hl hn=>hk k hl hn⟩⟩
theorem WF(h:SMem w Pd b be bp d q ek eg ev pk pg pv wi s)(Xe:ek.length<=37)(hpl:pk.length<=37)(hu:(EU ek pk).length<=37):
 Av Ae 46 #[Al (Ag ⟨b,0,S⟩)] w fun e w'=>e=Aj (J Y 0)/\SMem w' Pd b be bp d q (EU ek pk) (E8 pk pg eg) (E8 pk pv ev) pk pg pv wi s/\Ext (fun k=>k=be) w w':=by
 have KT:=wM (ML h (by omega) (by omega));have HB:=wM (fun(W:Ai) (hb:Ap w.heap.size w W)=>h.below hb);have KC:=wM (fun(W:Ai) (hb:Ap w.heap.size w W)=>(h.below hb).copy (by omega) (by omega));have Lo:((EU ek pk).length:Int)<=37:=by omega
 obtain⟨R,hR⟩:=nm ((EU ek pk).length);rw[<- hR] at KT Lo;clear h Xe hpl hu hR;go_enter Tryz.func46,Tryz.ntmps46
 go_wp2_with (go_at_call 85;(with_reducible refine KT.out.mono ?_);rintro e w1 ⟨rfl,hb1⟩
              have HB1:=wM hb1;have c2:=(HB.out w1 hb1).c2;have c3:=(HB.out w1 hb1).c3;clear hb1)
 have KC1:=wM (KC.out w1.drew HB1.out.drew);go_still_tail 8,(by kernel_rfl)
 go_wp2_with (go_at_call 87;(with_reducible refine KC1.out.mono ?_);rintro e w2 ⟨rfl,hm,hx⟩
              have HM:=wM hm;have HX:=wM hx;clear hm hx)
 go_ret;exact⟨rfl,HM.out,(Ext.of_below HB1.out.drew).trans (P2:=fun k=>k=be) HX.out fun k _ e=>e⟩
theorem UK(h:SMem w Pd b be bp d q ek eg ev pk pg pv wi s)(Xe:ek.length<=37)(hpl:pk.length<=37)(hu:37<(EU ek pk).length)(hB:Gl s.F.length (BJ ek) ((BJ ek).map ev)=AE)(hU:s.U.length<=800000):
 Av Ae 46 #[Al (Ag ⟨b,0,S⟩)] w fun e w'=>
  ((BC (setA q (BJ ek) ((BJ ek).map ev)) s).1=0/\e=Aj (J Y 0)/\∃ be' Pd' q',SMem w' Pd' b be' bp d q' (EU [] pk) (E8 pk pg eg) (E8 pk pv ev) pk pg pv wi (BC (setA q (BJ ek) ((BJ ek).map ev)) s).2/\(w.heap.size<=be'/\be'<w'.heap.size)/\(∀ k,Pd' k->Pd k\/w.heap.size<=k)/\Ext (fun k=>Pd k\/k=b) w w')\/
  ((BC (setA q (BJ ek) ((BJ ek).map ev)) s).1=2/\e=Aj (J Y 2)/\∃ Pd',w'.heap[b]? =Ag MA/\Dk w' Pd' d (BC (setA q (BJ ek) ((BJ ek).map ev)) s).2/\(∀ k,Pd' k->Pd k\/w.heap.size<=k)/\Ext (fun k=>Pd k\/k=b) w w'):=by
 have hne:0<ek.length:=by
  rcases Nat.eq_zero_or_pos ek.length with e|e
  . have:ek=[]:=AO e
    rw[this] at hu;have h2:(EU [] pk).length<=pk.length:=by
     unfold EU;rw[List.nil_append];exact List.length_filter_le _ _
    omega
  . exact e
 have KT:=wM (ML h (by omega) (by omega));have KS:=wM (fun(W:Ai) (hb:Ap w.heap.size w W)=>XV (h.below hb) hne Xe hB hU);have HPL:=wM hpl;have gU:37<((EU ek pk).length:Int):=by omega
 obtain⟨R,hR⟩:=nm ((EU ek pk).length);rw[<- hR] at KT gU;obtain⟨T,hT⟩:=nm (BC (setA q (BJ ek) ((BJ ek).map ev)) s);have tj:T.1=0\/T.1=2:=by rw[hT];exact FG _ _
 rw[<- hT] at KS |-
 obtain⟨r,s'⟩:=T;clear h Xe hpl hu hR hT hB hU hne;rcases tj with h0|h0
 . simp only at h0
   subst h0;have KS':=wM (fun(W:Ai) (hb:Ap w.heap.size w W)=>(KS.out W hb).mono (R':=fun e w'=>e=Aj (J Y 0)/\∃ be' Pd' q',SMem w' Pd' b be' bp d q' [] eg ev pk pg pv wi s'/\(W.heap.size<=be'/\be'<w'.heap.size)/\(∀ k,Pd' k->Pd k\/W.heap.size<=k)/\Ext (fun k=>Pd k\/k=b) W w') (fun e w' hq=>by
    rcases hq with⟨_,he,hx⟩| ⟨h2,_⟩
    . exact⟨he,hx⟩
    . exact absurd (show(0:Int)=2 from h2) (by decide)))
   clear KS;go_enter Tryz.func46,Tryz.ntmps46
   go_wp2_with (first
    |(go_at_call 85;(with_reducible refine KT.out.mono ?_);rintro e w1 ⟨rfl,hb1⟩
      have HB1:=wM hb1;clear hb1)
    |(go_at_call 86;(with_reducible refine(KS'.out _ HB1.out).mono ?_);rintro e w2 ⟨rfl,be',Pd',q',hm,hbe,gV,hx⟩
      have HM:=wM hm;have HBE:=wM hbe;have HPD:=wM gV;have HX:=wM hx;have c2:=hm.c2;have c3:=hm.c3;clear hm hbe gV hx))
   have KC1:=wM (SMem.copy (HM.out.below (AC _ w2).drew) (AT _) (by have:=HPL.out;omega));go_still_tail 8,(by kernel_rfl)
   go_wp2_with (go_at_call 87;(with_reducible refine KC1.out.mono ?_);rintro e w3 ⟨rfl,hm,hx⟩
                have HM3:=wM hm;have HX3:=wM hx;clear hm hx)
   go_ret;refine AU ⟨by first|rfl|trivial,rfl,be',Pd',q',HM3.out,⟨AI HB1.out.size HBE.out.1,AA HBE.out.2 HX3.out.size⟩,fun k hk=>(HPD.out k hk).imp id fun e=>AI HB1.out.size e,?_⟩;have e1:Ext (fun k=>Pd k\/k=b) w w2:=(Ext.of_below HB1.out).trans (P2:=fun k=>Pd k\/k=b) HX.out fun k _ e=>e
   have e2:Ext (fun k=>k=be') w2 w3:=⟨HX3.out.os,HX3.out.tape,HX3.out.output,HX3.out.size,HX3.out.keep⟩;exact e1.trans e2 fun k hk e=>absurd (e ▸ hk) (by have:=HBE.out.1;have:=HB1.out.size;omega)
 . simp only at h0
   subst h0;have KS':=wM (fun(W:Ai) (hb:Ap w.heap.size w W)=>(KS.out W hb).mono (R':=fun e w'=>e=Aj (J Y 2)/\∃ Pd',w'.heap[b]? =Ag MA/\Dk w' Pd' d s'/\(∀ k,Pd' k->Pd k\/W.heap.size<=k)/\Ext (fun k=>Pd k\/k=b) W w') (fun e w' hq=>by
    rcases hq with⟨h2,_⟩| ⟨_,he,hx⟩
    . exact absurd (show(2:Int)=0 from h2) (by decide)
    . exact⟨he,hx⟩))
   clear KS;go_enter Tryz.func46,Tryz.ntmps46
   go_wp2_with (first
    |(go_at_call 85;(with_reducible refine KT.out.mono ?_);rintro e w1 ⟨rfl,hb1⟩
      have HB1:=wM hb1;clear hb1)
    |(go_at_call 86;(with_reducible refine(KS'.out _ HB1.out).mono ?_);rintro e w2 ⟨rfl,Pd',hbr,hdk,gV,hx⟩
      have HBR:=wM hbr;have HDK:=wM hdk;have HPD:=wM gV;have HX:=wM hx;clear hbr hdk gV hx))
   go_ret;exact AW ⟨by first|rfl|trivial,rfl,Pd',HBR.out,HDK.out,fun k hk=>(HPD.out k hk).imp id fun e=>AI HB1.out.size e,(Ext.of_below HB1.out).trans (P2:=fun k=>Pd k\/k=b) HX.out fun k _ e=>e⟩
end
theorem OU{w w':Ai}{P Pd:Nat->Prop}{b be bp:Nat}{d:Ao}{q:Int}{ek:List Int}{eg:Int->Ao}{ev:Int->List Int}{pk:List Int}{pg:Int->Ao}{pv:Int->List Int}{X:XSt}(hm:SMem w' Pd b be bp d q ek eg ev pk pg pv X.wi X.ds)(hpl:SPl X ek ev pk pv)
 (hl:∀ k,P k->k<w.heap.size) (hs:w.heap.size<=w'.heap.size) (hown:∀ k,o7 Pd b be bp ek eg pk pg k->P k\/w.heap.size<=k):SInv w' (wg P w w') d (Al (Ag ⟨b,0,S⟩)) X:=
 ⟨b,be,bp,Pd,q,ek,eg,ev,pk,pg,pv,rfl,hm,hpl,fun k hk=>(hown k hk).imp id fun e=>⟨e,hm.lt k hk⟩,fun k hk=>hk.elim (fun h=>AA (hl k h) hs) fun h=>h.2⟩
section
variable {w:Ai}{Pd:Nat->Prop}{b be bp:Nat}{d:Ao}{q:Int}{ek:List Int}{eg:Int->Ao}{ev:Int->List Int}{pk:List Int}{pg:Int->Ao}{pv:Int->List Int}{wi:Bool}{s:DS}
theorem bJ(h:SMem w Pd b be bp d q ek eg ev pk pg pv AE s):Av Ae 25 #[Al (Ag ⟨b,0,S⟩),AP Ay] w fun e w'=>e=Aj (J Y 0)/\w'=((w.setCell ⟨b,3,S⟩ (.map (Ag w.heap.size))).setCell ⟨b,4,S⟩ (AP Ay)).alloc (.map #[] 0):=by
 have KA:=wM (Fb h AE);have c3:=h.c3;have c4:=h.c4;have f3:=h.fr 3;have f4:=h.fr 4;have hbl:=h.bl;have sG:b≠w.heap.size:=Nat.ne_of_lt h.bl;have sH:w.heap.size≠b:=fun e=>sG e.symm
 have hmm:=@run_makeMap Ae;clear h;go_enter Tryz.func25,Tryz.ntmps25;go_wp2_with (go_at_call 43;(with_reducible refine KA.out.mono ?_);rintro e w1 ⟨rfl,rfl⟩)
 go_ret;exact⟨rfl,rfl⟩
theorem Sz{Q:Ai->Prop}(h:SMem w Pd b be bp d q ek eg ev pk pg pv AE s)
 (KJ:Av Ae 46 #[Al (Ag ⟨b,0,S⟩)] w fun e w1=>e=Aj (J Y 0)/\Q w1/\∃ Pd1 be1 q1 ek1 eg1 ev1 s1,SMem w1 Pd1 b be1 bp d q1 ek1 eg1 ev1 pk pg pv AE s1):
 Av Ae 25 #[Al (Ag ⟨b,0,S⟩),AP AE] w fun e w'=>e=Aj (J Y 0)/\∃ w1,Q w1/\w'=((w1.setCell ⟨b,3,S⟩ (.map (Ag w1.heap.size))).setCell ⟨b,4,S⟩ (AP Ay)).alloc (.map #[] 0):=by
 have KA:=wM (Fb h AE);have KJ':=wM KJ;have hmm:=@run_makeMap Ae;clear h KJ;go_enter Tryz.func25,Tryz.ntmps25
 go_wp2_with (first
  |(go_at_call 43;(with_reducible refine KA.out.mono ?_);rintro e w1 ⟨rfl,rfl⟩)
  |(go_at_call 46;(with_reducible refine KJ'.out.mono ?_);rintro e w1 ⟨rfl,hq,Pd1,be1,q1,ek1,eg1,ev1,s1,h⟩
    have HQ:=wM hq;have c3:=h.c3;have c4:=h.c4;have f3:=h.fr 3;have f4:=h.fr 4;have hbl:=h.bl;have sG:b≠w1.heap.size:=Nat.ne_of_lt h.bl;have sH:w1.heap.size≠b:=fun e=>sG e.symm
    clear h hq))
 go_ret;exact⟨rfl,w1,HQ.out,rfl⟩
theorem dV{Q:Ai->Prop}(h:SMem w Pd b be bp d q ek eg ev pk pg pv AE s)
 (KJ:Av Ae 46 #[Al (Ag ⟨b,0,S⟩)] w fun e w1=>e=Aj (J Y 2)/\Q w1):
 Av Ae 25 #[Al (Ag ⟨b,0,S⟩),AP AE] w fun e w'=>e=Aj (J Y 2)/\Q w':=by
 have KA:=wM (Fb h AE);have KJ':=wM KJ;clear h KJ;go_enter Tryz.func25,Tryz.ntmps25
 go_wp2_with (first
  |(go_at_call 43;(with_reducible refine KA.out.mono ?_);rintro e w1 ⟨rfl,rfl⟩)
  |(go_at_call 46;(with_reducible refine KJ'.out.mono ?_);rintro e w1 ⟨rfl,hq⟩
    have HQ:=wM hq;clear hq))
 go_ret;exact⟨rfl,HQ.out⟩
theorem ol(h:SMem w Pd b be bp d q ek eg ev pk pg pv Ay s)(k:Bool):Av Ae 25 #[Al (Ag ⟨b,0,S⟩),AP k] w fun e w'=>e=Aj (J Y 17)/\w=w':=by
 have KA:=wM (Fb h AE);clear h;go_enter Tryz.func25,Tryz.ntmps25;go_wp2_with (go_at_call 43;(with_reducible refine KA.out.mono ?_);rintro e w1 ⟨rfl,rfl⟩)
 go_ret;exact⟨rfl,rfl⟩
end
section
variable {X:XSt}{ek:List Int}{ev:Int->List Int}{pk:List Int}{pv:Int->List Int}
theorem SPl.base(h:SPl X ek ev pk pv):X.base.length=X.is.length:=h.ok.lst.glen
theorem SPl.undo(h:SPl X ek ev pk pv)(pv':Int->List Int):SPl { X with wi:=Ay } ek ev [] pv':=
 { h with ok:={ h.ok with call:=fun e=>Bool.noConfusion (show Ay=AE from e) },kp:=fun x hx=>absurd hx Bi,pl:=AT _,wi0:=fun _=>rfl,wi1:=fun e=>Bool.noConfusion (show Ay=AE from e) }
theorem SPl.merged(h:SPl X ek ev pk pv)(hw:X.wi=AE)(i:Nat)(ho:D6 i)(hi:i<X.is.length):X.call.getD i []=if (i:Int)∈EU ek pk then E8 pk pv ev i else X.base.getD i []:=by
 obtain⟨_,_,h2⟩:=h.wi1 hw;rw[h2 i ho hi,h.isx i ho hi];unfold E8;by_cases hp:(i:Int)∈pk
 . rw[Au hp,Au (mem_uniN.2 (AW hp)),Au hp]
 . rw[Ax hp]
   by_cases he:(i:Int)∈ek
   . rw[Au he,Au (mem_uniN.2 (AU he)),Ax hp]
   . rw[Ax he,Ax fun e=>(mem_uniN.1 e).elim he hp]
theorem SPl.small(h:SPl X ek ev pk pv)(hw:X.wi=AE)(hu:(EU ek pk).length<=37)(pv':Int->List Int):SPl { X with base:=X.base,is:=X.call,wi:=Ay,dt:=(EU ek pk).length,ds:=X.ds } (EU ek pk) (E8 pk pv ev) [] pv':=by
 obtain⟨_,hcl,_⟩:=h.wi1 hw;have ZT:X.call.length=X.is.length:=hcl;refine⟨⟨?_,h.ok.pow,h.ok.un,fun e=>Bool.noConfusion (show Ay=AE from e),hu⟩,?_,h.u0,?_,fun x hx=>absurd hx Bi,hu,AT _,rfl,?_,fun _=>rfl,fun e=>Bool.noConfusion (show Ay=AE from e)⟩
 . show Lst X.call.length X.ds X.base
   rw[ZT];exact h.ok.lst
 . show 64<=X.call.length/\X.call.length<=768
   rw[ZT];exact h.n64
 . intro x hx
   show ta X.call.length x
   rw[ZT];exact(mem_uniN.1 hx).elim (h.ki x) (h.kp x)
 . intro i ho hi
   have hi':i<X.call.length:=hi;exact h.merged hw i ho (by omega)
theorem OZ(pk:List Int):EU [] pk=pk:=by
 unfold EU;rw[List.nil_append,List.filter_eq_self];intro x _;simp
theorem SPl.great(h:SPl X ek ev pk pv)(hw:X.wi=AE){ds':DS}(hl:Lst X.is.length ds' X.is)(hd:ds'.dn=Ay)(hU:ds'.U=[])(pv':Int->List Int):SPl { X with base:=X.is,is:=X.call,wi:=Ay,dt:=(EU [] pk).length,ds:=ds' } (EU [] pk) (E8 pk pv ev) [] pv':=by
 obtain⟨_,hcl,WQ⟩:=h.wi1 hw;have ZT:X.call.length=X.is.length:=hcl;have hpl:(EU [] pk).length<=37:=by rw[OZ];exact h.pl
 refine⟨⟨?_,hd,by show ds'.U.length<=1000;rw[hU];exact AT _,fun e=>Bool.noConfusion (show Ay=AE from e),hpl⟩,?_,hU,?_,fun x hx=>absurd hx Bi,hpl,AT _,rfl,?_,fun _=>rfl,fun e=>Bool.noConfusion (show Ay=AE from e)⟩
 . show Lst X.call.length ds' X.is
   rw[ZT];exact hl
 . show 64<=X.call.length/\X.call.length<=768
   rw[ZT];exact h.n64
 . intro x hx
   show ta X.call.length x
   rw[ZT];rw[OZ] at hx;exact h.kp x hx
 . intro i ho hi
   have hi':i<X.call.length:=hi;show X.call.getD i []=if (i:Int)∈EU [] pk then E8 pk pv ev i else X.is.getD i []
   rw[OZ,WQ i ho (by omega)];by_cases hp:(i:Int)∈pk
   . rw[Au hp,Au hp];unfold E8;rw[Au hp]
   . rw[Ax hp,Ax hp]
theorem SPl.okT(h:SPl X ek ev pk pv)(hn:ek.Nodup)(hv:∀ x∈ek,(ev x).length=256):okT X.is.length (BJ ek) ((BJ ek).map ev):=rD hn h.el h.ki h.n64.2 hv
theorem SPl.set(h:SPl X ek ev pk pv)(hn:ek.Nodup)(hv:∀ x∈ek,(ev x).length=256){q:Int}(hq:0<=q/\q<4294967296):
 let r:=BC (setA q (BJ ek) ((BJ ek).map ev)) X.ds
 (r.1=0->r.2.dn=Ay/\r.2.U=[]/\Lst X.is.length r.2 X.is)/\(r.1=2->X.ds.fu=AE/\Pb X.is.length r.2 [X.base,X.is]):=by
 intro r;have hT:=h.okT hn hv;obtain⟨h1,h2⟩:=cC h.ok.lst (by have:=h.n64.1;omega) h.u0 h.ok.pow hT hq;have hE:=ry (B:=X.base) (I:=X.is) h.ki h.base rfl h.isx;refine⟨fun h0=>?_,fun h0=>?_⟩
 . obtain⟨a,b,c⟩:=h1 h0
   exact⟨a,b,c.toO hE⟩
 . obtain⟨a,b,c,e⟩:=h2 h0
   refine⟨a,b,c,fun kp=>?_⟩;obtain⟨G,hG,hJ⟩:=e kp;simp only[Ew,Bi,or_false] at hG;rcases hG with rfl|rfl
   . exact⟨_,by simp,hJ⟩
   . exact⟨X.is,by simp,hJ.toO hE⟩
end
section
variable {w:Ai}{P:Nat->Prop}{d p:Ao}{X:XSt}
theorem d_(h:SInv w P d p X)(hw:X.wi=Ay)(k:Bool):Av Ae 25 #[p,AP k] w (OK SInv w P d p (17,X)):=by
 have h':=h;obtain⟨b,be,bp,Pd,q,ek,eg,ev,pk,pg,pv,rfl,hm,hpl,ho,hl⟩:=h;rw[hw] at hm;exact(ol hm k).mono fun e w' ⟨he,hww⟩=>by subst hww;exact⟨he,P,h',Chg.refl _ _⟩
theorem Wm(h:SInv w P d p X)(hw:X.wi=AE):Av Ae 25 #[p,AP Ay] w (OK SInv w P d p (0,{ X with wi:=Ay })):=by
 obtain⟨b,be,bp,Pd,q,ek,eg,ev,pk,pg,pv,rfl,hm,hpl,ho,hl⟩:=h;rw[hw] at hm;refine(bJ hm).mono ?_;rintro e w' ⟨rfl,rfl⟩;obtain⟨hm',Ed,hext⟩:=hm.cleared pg pv;refine⟨rfl,_,OU hm' (hpl.undo pv) hl hext.size ?_,(hext.sub fun k e=>ho k (AW (AU e))).chg⟩;intro k hk;rcases hk with hk|rfl|rfl|rfl| ⟨x,hx,hg⟩| ⟨x,hx,_⟩
 . exact AU (ho k (AU hk))
 . exact AU (ho _ (AW (AU rfl)))
 . exact AU (ho _ (AW (AW (AU rfl))))
 . exact AW (At _)
 . exact AU (ho k (AW (AW (AW (AW (AU ⟨x,hx,hg⟩))))))
 . exact absurd hx Bi
theorem iS{ek pk:List Int}{eg pg:Int->Ao}{x:Int}{k:Nat}(hx:x∈EU ek pk)(hg:(E8 pk pg eg x).ownBlock=Ag k):(∃ y,y∈ek/\(eg y).ownBlock=Ag k)\/∃ y,y∈pk/\(pg y).ownBlock=Ag k:=by
 unfold E8 at hg;by_cases hp:x∈pk
 . rw[Au hp] at hg;exact AW ⟨x,hp,hg⟩
 . rw[Ax hp] at hg;exact AU ⟨x,(mem_uniN.1 hx).resolve_right hp,hg⟩
theorem Vc(h:SInv w P d p X)(hw:X.wi=AE):Av Ae 25 #[p,AP AE] w fun e w'=>
 (∃ B dt ds',(B=X.base\/B=X.is\/B=X.call)/\ds'.fu=X.ds.fu/\OK SInv w P d p (0,{ X with base:=B,is:=X.call,wi:=Ay,dt:=dt,ds:=ds' }) e w')\/pS SDead w P d p X [X.base,X.is,X.call] e w':=by
 obtain⟨b,be,bp,Pd,q,ek,eg,ev,pk,pg,pv,rfl,hm,hpl,ho,hl⟩:=h;rw[hw] at hm;have hv:∀ x∈ek,(ev x).length=256:=fun x hx=>(hm.re x hx).2
 by_cases hu:(EU ek pk).length<=37
 . refine(Sz (Q:=fun w1=>SMem w1 Pd b be bp d q (EU ek pk) (E8 pk pg eg) (E8 pk pv ev) pk pg pv AE X.ds/\Ext (fun k=>k=be) w w1) hm ((WF hm hpl.el hpl.pl hu).mono fun e w1 ⟨he,h1,hx⟩=>⟨he,⟨h1,hx⟩,_,_,_,_,_,_,_,h1⟩)).mono ?_
   rintro e w' ⟨rfl,w1,⟨hm1,hx1⟩,rfl⟩;obtain⟨hm',Ed,hext⟩:=hm1.cleared pg pv;have hE:Ext (fun k=>k=be\/k=b) w _:=(hx1.sub fun k e=>AU e).trans (P2:=fun k=>k=b) hext fun k _ e=>AW e
   refine AU ⟨X.base,(EU ek pk).length,X.ds,AU rfl,rfl,rfl,_,OU hm' (hpl.small hw hu pv) hl hE.size ?_,(hE.sub fun k e=>e.elim (fun e=>ho k (AW (AW (AU e)))) fun e=>ho k (AW (AU e))).chg⟩;intro k hk;rcases hk with hk|rfl|rfl|rfl| ⟨x,hx,hg⟩| ⟨x,hx,_⟩
   . exact AU (ho k (AU hk))
   . exact AU (ho _ (AW (AU rfl)))
   . exact AU (ho _ (AW (AW (AU rfl))))
   . exact AW hx1.size
   . exact AU (ho k (AW (AW (AW (AW (iS hx hg))))))
   . exact absurd hx Bi
 . have hT:=hpl.okT hm.me.nodup hv
   obtain⟨s1,s2⟩:=hpl.set hm.me.nodup hv hm.q0;have hB:Gl X.ds.F.length (BJ ek) ((BJ ek).map ev)=AE:=(by rw[hpl.ok.lst.1];exact hT.takes hpl.n64.1);have KJ:=UK hm hpl.el hpl.pl (by omega) hB (by rw[hpl.u0];exact AT _);have Ly:=O4 (setA q (BJ ek) ((BJ ek).map ev)) X.ds;have hr:=FG (setA q (BJ ek) ((BJ ek).map ev)) X.ds;generalize BC (setA q (BJ ek) ((BJ ek).map ev)) X.ds=r at s1 s2 KJ Ly hr;obtain⟨r,s'⟩:=r;rcases hr with h0|h0
   . simp only at h0
     subst h0;obtain⟨g1,g2,g3⟩:=s1 rfl;refine(Sz (Q:=fun w1=>∃ be' Pd' q',SMem w1 Pd' b be' bp d q' (EU [] pk) (E8 pk pg eg) (E8 pk pv ev) pk pg pv AE s'/\(w.heap.size<=be'/\be'<w1.heap.size)/\(∀ k,Pd' k->Pd k\/w.heap.size<=k)/\Ext (fun k=>Pd k\/k=b) w w1) hm (KJ.mono fun e w1 hq=>by
      rcases hq with⟨_,he,hx⟩| ⟨h2,_⟩
      . obtain⟨be',Pd',q',h1,r⟩:=hx
        exact⟨he,⟨be',Pd',q',h1,r⟩,_,_,_,_,_,_,_,h1⟩
      . exact absurd (show(0:Int)=2 from h2) (by decide))).mono ?_
     rintro e w' ⟨rfl,w1,⟨be',Pd',q',hm1,hbe,gV,hx1⟩,rfl⟩;obtain⟨hm',Ed,hext⟩:=hm1.cleared pg pv;have hE:Ext (fun k=>Pd k\/k=b) w _:=hx1.trans (P2:=fun k=>k=b) hext fun k _ e=>AW e
     refine AU ⟨X.is,(EU [] pk).length,s',AW (AU rfl),Ly,rfl,_,OU hm' (hpl.great hw g3 g1 g2 pv) hl hE.size ?_,(hE.sub fun k e=>e.elim (fun e=>ho k (AU e)) fun e=>ho k (AW (AU e))).chg⟩;intro k hk;rcases hk with hk|rfl|rfl|rfl| ⟨x,hx,hg⟩| ⟨x,hx,_⟩
     . exact(gV k hk).imp (fun e=>ho k (AU e)) id
     . exact AU (ho _ (AW (AU rfl)))
     . exact AW hbe.1
     . exact AW hx1.size
     . rw[OZ] at hx
       unfold E8 at hg;rw[Au hx] at hg;exact AU (ho k (AW (AW (AW (AW (AW ⟨x,hx,hg⟩))))))
     . exact absurd hx Bi
   . simp only at h0
     subst h0;obtain⟨g1,g2⟩:=s2 rfl;refine(dV (Q:=fun w1=>∃ Pd',w1.heap[b]? =Ag MA/\Dk w1 Pd' d s'/\(∀ k,Pd' k->Pd k\/w.heap.size<=k)/\Ext (fun k=>Pd k\/k=b) w w1) hm (KJ.mono fun e w1 hq=>by
      rcases hq with⟨h2,_⟩| ⟨_,he,hx⟩
      . exact absurd (show(2:Int)=0 from h2) (by decide)
      . exact⟨he,hx⟩)).mono ?_
     rintro e w' ⟨rfl,Pd',hb,hdk,gV,hx⟩;obtain⟨k1,k2,k3⟩:=g2;refine AW ⟨g1,rfl,wg P w w',s',⟨b,Pd',rfl,hb,hdk,fun k hk=>?_,fun k hk=>hk.elim (fun h=>AA (hl k h) hx.size) fun h=>h.2⟩,(hx.sub fun k e=>e.elim (fun e=>ho k (AU e)) fun e=>ho k (AW (AU e))).chg,k1,k2,fun kp=>?_⟩
     . rcases hk with hk|rfl
       . exact(gV k hk).imp (fun e=>ho k (AU e)) fun e=>⟨e,hdk.lt k hk⟩
       . exact AU (ho _ (AW (AU rfl)))
     . obtain⟨G,hG,hJ⟩:=k3 kp
       refine⟨G,?_,hJ⟩;simp only[Ew,Bi,or_false] at hG |-
       rcases hG with e|e
       . exact AU e
       . exact AW (AU e)
end
theorem il{W:Ai}{P:Nat->Prop}{d:Ao}{s:DS}{x:Int}(hd:Dk W P d s)(hx:0<=x/\x<4294967296)(eg:Int->Ao)(ev:Int->List Int):
 let w':=((W.alloc (.map #[] 0)).alloc (.map #[] 0)).alloc (Am #[d,J .u32 x,.map (Ag W.heap.size),.map (Ag (W.heap.size+1)),AP Ay,AP Ay] 109)
 SMem w' P (W.heap.size+1+1) W.heap.size (W.heap.size+1) d x [] eg ev [] eg ev Ay s/\Ap W.heap.size W w'/\w'.heap.size=W.heap.size+3:=by
 intro w';obtain⟨w1,hw1⟩:=nm (W.alloc (.map #[] 0));obtain⟨w2,hw2⟩:=nm (w1.alloc (.map #[] 0));have IL:w1.heap.size=W.heap.size+1:=by rw[hw1];simp
 have Ot:w2.heap.size=W.heap.size+1+1:=by rw[hw2];simp[IL]
 have hw':w'=w2.alloc (Am #[d,J .u32 x,.map (Ag W.heap.size),.map (Ag (W.heap.size+1)),AP Ay,AP Ay] 109):=by rw[hw2,hw1]
 have b1:Ap W.heap.size W w1:=by rw[hw1];exact As W _
 have b2:Ap w1.heap.size w1 w2:=by rw[hw2];exact As w1 _
 have b3:Ap w2.heap.size w2 w':=by rw[hw'];exact As w2 _
 have hm1:Mp w1 W.heap.size [] eg:=by rw[hw1];exact Mp.made W eg
 have hm2:Mp w2 w1.heap.size [] eg:=by rw[hw2];exact Mp.made w1 eg
 have hb:Ap W.heap.size W w':=b1.trans ((b2.trans (b3.mono b2.size)).mono b1.size);have hr:w'.heap[W.heap.size+1+1]? =Ag (Am #[d,J .u32 x,.map (Ag W.heap.size),.map (Ag (W.heap.size+1)),AP Ay,AP Ay] 109 (0,0)):=by
  rw[<- Ot,hw'];exact Ar w2 _
 refine⟨⟨hr,hd.below hb,hx,(hm1.keep (b2.block _ (by rw[IL];omega))).keep (b3.block _ (by rw[Ot];omega)),?_,by omega,fun x hx=>absurd hx Bi,fun x hx=>absurd hx Bi⟩,hb,by rw[hw'];simp[Ot]⟩;rw[<- IL];exact hm2.keep (b3.block _ (by rw[Ot,IL];omega))
theorem VJ{w:Ai}{P:Nat->Prop}{d:Ao}{ds:DS}{n:Nat}{G:List (List Int)}(h:Dk w P d ds)(OP:64<=n)(Ls:n<=768)(hU:ds.U=[])(hd:ds.dn=Ay)(hJ:Jst n ds.F G):Av Ae 38 #[d] w fun e w'=>
 (∃ p ds' P',e=Aj (AH #[p,J Y 0])/\ds'.fu=ds.fu/\SInv w' P' d p ⟨G,G,[],[],Ay,0,ds'⟩/\Chg P P' w w')\/
   (ds.fu=AE/\e=Aj (AH #[Al S,J Y 2])/\∃ ds' P',Dk w' P' d ds'/\Chg P P' w w'/\Pb n ds' [G]):=by
 have KR:=wM (We h OP hU hd hJ);have hlt:=fun k hk=>h.lt k hk
 have HL:=wM hlt;have HG:Hid (G.length=n):=wM hJ.2.1;have H64:=wM (And.intro OP Ls);have hmm:=@run_makeMap Ae;obtain⟨bd,rfl⟩:=h.ptr;clear h OP Ls hU hd hJ hlt;go_enter Tryz.func38,Tryz.ntmps38
 go_upto_region 2 with(go_at_call 80;(with_reducible refine KR.out.mono ?_);rintro e w1 ⟨x,r,s',P1,rfl,hd1,hc1,py,hf1,hr1,hcr,h0,qB,hx,Ly⟩
                       have HD:=wM hd1;have HC:=wM hc1;have HCR:=wM (And.intro py (And.intro hf1 hcr));have H0:=wM h0;have HF0:=wM qB;have HX:=wM hx;have HFU:=wM Ly;have HR:=wM hr1;clear hd1 hc1 py hf1 hcr h0 qB hx Ly hr1)
 rcases HR.out with e0|e0
 . subst e0
   go_wp2;go_ret2;obtain⟨g1,g2,g3⟩:=H0.out (by first|rfl|trivial);obtain⟨hm,hb,Ed⟩:=il HD.out HX.out (fun _=>undef) (fun _=>[]);have hE:Ext P w _:=(Ext.of_chg HC.out fun k hk=>hk).trans (P2:=P) (Ext.of_below hb) fun k _ e=>e
   refine AU ⟨_,rfl,s',HFU.out,_,OU (X:=⟨G,G,[],[],Ay,0,s'⟩) (P:=P) hm ⟨⟨by show Lst G.length s' G;rw[HG.out];exact g3,g1,by rw[g2];exact AT _,fun e=>Bool.noConfusion (show Ay=AE from e),AT _⟩,by show 64<=G.length/\G.length<=768;rw[HG.out];exact H64.out,g2,fun x hx=>absurd hx Bi,fun x hx=>absurd hx Bi,AT _,AT _,rfl,fun i _ _=>(Ax Bi).symm,fun _=>rfl,fun e=>Bool.noConfusion (show Ay=AE from e)⟩ HL.out hE.size ?_,hE.chg⟩;intro k hk;have hs:=HC.out.size;rcases hk with hk|rfl|rfl|rfl| ⟨x,hx,_⟩| ⟨x,hx,_⟩
   . exact Mv HC.out hk
   . exact AW (by omega)
   . exact AW (by omega)
   . exact AW (by omega)
   . exact absurd hx Bi
   . exact absurd hx Bi
 . subst e0
   go_wp2;go_ret2;refine AW ⟨?_,rfl,s',P1,HD.out,HC.out,HCR.out.1,HCR.out.2.1,fun kp=>⟨G,by simp,HCR.out.2.2 kp⟩⟩;cases hf:ds.fu
   . exact absurd (HF0.out hf) (by decide)
   . rfl
theorem landed:Sto SInv SDead where
 plain h:=by obtain⟨_,_,_,_,_,_,_,_,_,_,_,_,_,hpl,_⟩:=h;exact hpl.ok
 ptr h:=by obtain⟨b,_,_,_,_,_,_,_,_,_,_,hp,_⟩:=h;exact⟨b,hp⟩
 lt h:=by obtain⟨_,_,_,_,_,_,_,_,_,_,_,_,_,_,_,hl⟩:=h;exact hl
 keep h hs hk:=h.keep hs hk
 disk h:=by obtain⟨_,_,_,Pd,_,_,_,_,_,_,_,_,hm,_,ho,_⟩:=h;exact⟨Pd,fun k hk=>ho k (AU hk),hm.dk⟩
 deadLt h:=by obtain⟨_,_,_,_,_,_,hl⟩:=h;exact hl
 deadKeep h hs hk:=h.keep hs hk
 deadDisk h:=by obtain⟨_,Pd,_,_,hd,ho,_⟩:=h;exact⟨Pd,fun k hk=>ho k (AU hk),hd⟩
 begin h:=cD h
 put h hv hn hj:=L9 h hv hn hj
 getOut h _ ho:=im h ho
 getIn h hn:=mA h hn
 endNo h hw:=d_ h hw _
 endUndo h hw:=Wm h hw
 endKeep h hw:=Vc h hw
 opens h OP Ls hU hd hJ:=VJ h OP Ls hU hd hJ
end
end Go.Proofs.YtfpdajplfmakhaaGreatDoor
