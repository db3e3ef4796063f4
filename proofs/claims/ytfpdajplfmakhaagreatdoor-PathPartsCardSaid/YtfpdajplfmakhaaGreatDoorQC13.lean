/- What the law rests on. -/
import Derived.Test.YtfpdajplfmakhaaGreatDoorQC12
open Go.Value renaming int->J,slice->I,pointer->D,tuple->M,bool->S,agg->BN
open Go.IntKind renaming i64->Y
open Go.Proofs.Tryz renaming prog->E
open Option renaming none->Z,some->H
open Go renaming World->G,Value->A,Calls->W,TypeId->Cg
open Go.Ending renaming returned->L
open Go.Obj renaming cells->Q
open Go.RowKit renaming Below->U
open Bool renaming false->C,true->B
open Or renaming inl->AU,inr->AW
namespace Go.Proofs.YtfpdajplfmakhaaGreatDoor
set_option maxHeartbeats 12000000
set_option linter.unusedVariables false
set_option maxRecDepth 100000
open Go.RowKit BM
def wj(bw:Nat)(w:G):Nat:=match w.cell? ⟨bw,5,Z⟩,w.cell? ⟨bw,3,Z⟩ with
 |some (J _ f),H (.slice _ n _)=>(5-f.toNat)*21+n
 |_,_=>0
theorem j_{w:G}{g:Nat}{x y z a b c:A}{T:Cg}(h:w.heap[g]? =H (Q #[x,y,z] T (0,0))):
 (((w.setCell ⟨g,0,Z⟩ a).setCell ⟨g,1,Z⟩ b).setCell ⟨g,2,Z⟩ c).drew.heap[g]? =H (Q #[a,b,c] T (0,0))/\Wrote w (((w.setCell ⟨g,0,Z⟩ a).setCell ⟨g,1,Z⟩ b).setCell ⟨g,2,Z⟩ c).drew g:=by
 have h1:(w.setCell ⟨g,0,Z⟩ a).heap[g]? =H (Q #[a,y,z] T (0,0)):=by rw[A8 w g 0 _ _ a h];rfl
 have h2:((w.setCell ⟨g,0,Z⟩ a).setCell ⟨g,1,Z⟩ b).heap[g]? =H (Q #[a,b,z] T (0,0)):=by rw[A8 _ g 1 _ _ b h1];rfl
 have h3:(((w.setCell ⟨g,0,Z⟩ a).setCell ⟨g,1,Z⟩ b).setCell ⟨g,2,Z⟩ c).heap[g]? =H (Q #[a,b,c] T (0,0)):=by rw[A8 _ g 2 _ _ c h2];rfl
 refine⟨h3,?_⟩;have w1:=Wrote.setCell w g 0 a;have w2:=Wrote.setCell (w.setCell ⟨g,0,Z⟩ a) g 1 b;have w3:=Wrote.setCell ((w.setCell ⟨g,0,Z⟩ a).setCell ⟨g,1,Z⟩ b) g 2 c;exact⟨w3.1.trans (w2.1.trans w1.1),w3.2.1.trans (w2.2.1.trans w1.2.1),w3.2.2.1.trans (w2.2.2.1.trans w1.2.2.1),w3.2.2.2.1.trans (w2.2.2.2.1.trans w1.2.2.2.1),fun k hk=>(w3.2.2.2.2 k hk).trans ((w2.2.2.2.2 k hk).trans (w1.2.2.2.2 k hk))⟩
structure RsI (W1 w:G) (T:EV) (fo:Bool) (bf bw bm:Nat) (R:Yg) (a f:Nat) (l:List ByteArray) (K:Int->ByteArray->Option Int) (n:Nat) (wr:G):Prop where
 st:WkS W1 T fo bf bw bm a f l K n wr
 res:IF T fo a f l=R
 bd:n+2*((5-f)*21+l.length)<=400
 fr:FrK bw bm w wr
 pl:wr.heap[w.heap.size]? =H (Q #[J Y 0,.string ⟨#[]⟩,J Y 0] 35 (0,0))
section
variable {W1:G}{T:EV}{fo:Bool}{bf bw bm a f n m:Nat}{l:List ByteArray}{K:Int->ByteArray->Option Int}{w:G}
theorem WkS.ms(h:WkS W1 T fo bf bw bm a f l K n w):wj bw w=(5-f)*21+l.length:=by
 obtain⟨ao,cap,r1,_⟩:=h.cells;unfold wj;rw[Aq _ _ _ _ _ _ r1,Aq _ _ _ _ _ _ r1];rfl
theorem QS(HF:FsW W1 bf T)(hT:OkT T)(hU:OkU T m)(hb:U W1.heap.size W1 w)(hlo:W1.heap.size<=bw/\W1.heap.size<=bm){v:A}
 (h1:w.heap[bw]? =H (Q #[D (H ⟨bf,0,Z⟩),S fo,J Y 1,v,.map (H bm),J Y 0] 82 (0,0))) (h2:TSt w v l) (hm:MpK w bm (fun _ _=>Z) 0) (hl:l.length<=20) (hn:∀ s∈l,s.size≠0/\s.size<=13) (h0:l≠[]):
 W E 30 #[D (H ⟨bw,0,Z⟩)] w fun e w'=>e=L (rU (IF T fo 1 0 l))/\U W1.heap.size W1 w'/\FrK bw bm w w':=by
 have hb1:=As w (Q #[J Y 0,.string ⟨#[]⟩,J Y 0] 35);have Fe:=Ar w (Q #[J Y 0,.string ⟨#[]⟩,J Y 0] 35);obtain⟨w1,hw1⟩:=nm (w.alloc (Q #[J Y 0,.string ⟨#[]⟩,J Y 0] 35));rw[<- hw1] at hb1 Fe;have HW1:Hid (w.alloc (Q #[J Y 0,.string ⟨#[]⟩,J Y 0] 35)=w1):=wM hw1.symm;have gM:=(Ah.1 h1).1;have HLT:=wM (And.intro gM hm.lt);have HLO:=wM hb.size;have r1:=(hb1.block bw gM).trans h1;obtain⟨ao,cap,rfl,_⟩:=id h2.1;obtain⟨q,hq⟩:=nm l.length;have c13:w1.cell? ⟨bw,3,Z⟩=H (I ao q cap):=by rw[hq,Aq _ _ _ _ _ _ r1];rfl
 have mr:(0:Int)<(q:Int):=by
  have:l.length≠0:=fun e=>h0 (AO e)
  omega
 have KS:=wM (Ym (fo:=fo) (m:=m) HF hT hU (hb.trans (hb1.mono hb.size)) hlo r1 (h2.below hb1) (hm.keep (hb1.block bm hm.lt)) hl hn);have HFR1:Hid (FrK bw bm w w1):=wM ((FrK.refl bw bm w).low hb1);have HP1:=wM Fe;obtain⟨R,hR⟩:=nm (IF T fo 1 0 l);have HR:=wM hR;rw[<- hR];have HHF:=wM HF;have HHT:=wM hT;have HHU:=wM hU;have HL:=wM hl;clear hb hlo h1 h2 hm hn h0 hb1 Fe hw1 r1 hq hR HF hT hU hl;go_enter Tryz.func30,Tryz.ntmps30;go_upto_region 1 with(fail)
 rw[HW1.out];go_wp2_with (go_at_call 60;(with_reducible refine KS.out.mono ?_);rintro e w2 ⟨rfl,⟨K,S2⟩,F2⟩)
 have HI0:Hid (RsI W1 w T fo bf bw bm R 1 0 l K 1 w2):=wM ⟨S2,HR.out.symm,by have:=HL.out;omega,HFR1.out.trans F2,(F2.2 w.heap.size (Ah.1 HP1.out).1 (Nat.ne_of_gt HLT.out.1) (Nat.ne_of_gt HLT.out.2)).trans HP1.out⟩;clear S2 F2 KS HR;go_loopw [6] (fun s6 wr=>∃ a f l K n,Hid (RsI W1 w T fo bf bw bm R a f l K n wr)) (fun _ wr=>wj bw wr)
 case atStart=>exact⟨1,0,l,K,1,HI0⟩
 case round=>
  obtain⟨a,f,l,K,n,HI⟩:=hrel;clear HI0;obtain⟨ao,cap,r1,_⟩:=HI.out.st.cells;cases l with
  |nil=>
   have c3:wr.cell? ⟨bw,3,Z⟩=H (I ao 0 cap):=(by rw[Aq _ _ _ _ _ _ r1];rfl);have c2:wr.cell? ⟨bw,2,Z⟩=H (J Y a):=(by rw[Aq _ _ _ _ _ _ r1];rfl);have HRE:Hid (R=(((a:Int),⟨#[]⟩,(a:Int)),0)):=wM (by rw[<- HI.out.res,TZ]);have p0:wr.cell? ⟨w.heap.size,0,Z⟩=H (J Y 0):=(by rw[Aq _ _ _ _ _ _ HI.out.pl];rfl);have p1:wr.cell? ⟨w.heap.size,1,Z⟩=H (.string ⟨#[]⟩):=(by rw[Aq _ _ _ _ _ _ HI.out.pl];rfl);have p2:wr.cell? ⟨w.heap.size,2,Z⟩=H (J Y 0):=(by rw[Aq _ _ _ _ _ _ HI.out.pl];rfl);have pf0:wr.frozen? ⟨w.heap.size,0,Z⟩=C:=(by simp[G.frozen?,HI.out.pl]);have pf1:wr.frozen? ⟨w.heap.size,1,Z⟩=C:=(by simp[G.frozen?,HI.out.pl]);have pf2:wr.frozen? ⟨w.heap.size,2,Z⟩=C:=(by simp[G.frozen?,HI.out.pl]);clear r1;have HPL:=wM (j_ (a:=J Y a) (b:=.string ⟨#[]⟩) (c:=J Y a) HI.out.pl);go_wp2
   go_region
   go_wp2;exact AS (Bj rfl Tryz.underlying35 Cm _ _ w.heap.size _ _ _ _ _ rfl HPL.out.1 rfl) rfl ⟨by rw[HRE.out];rfl,HI.out.st.be.trans (HPL.out.2.below HLO.out),HI.out.fr.wr HPL.out.2 (At _)⟩
  |cons s r=>
   have c3:wr.cell? ⟨bw,3,Z⟩=H (I ao (r.length+1) cap):=(by rw[Aq _ _ _ _ _ _ r1];rfl);have mr:(0:Int)<(r.length:Int)+1:=(by omega);have HBD:Hid (n+2*((5-f)*21+(r.length+1))<=400):=wM HI.out.bd;have HMS:Hid (wj bw wr=(5-f)*21+(r.length+1)):=wM HI.out.st.ms;have KN:=wM (dv (m:=m) HI.out.st HHF.out HHT.out HHU.out (by have:=HI.out.bd;omega) (Nat.lt_succ_self ((5-f)*21+r.length)));have HRE:=wM HI.out.res;have HFR:=wM HI.out.fr;have HPL:=wM HI.out.pl;obtain⟨q',hq'⟩:=nm r.length;rw[<- hq'] at c3 mr;have HQ:=wM hq';rw[HRE.out] at KN;clear r1 HI hq';go_upto_region 7 with(go_at_call 61;(with_reducible refine KN.out.mono ?_);rintro e w5 h5;obtain⟨hf5,hb5,(⟨p1,p2,p3,er,hR,rfl,hne⟩| ⟨rfl,a',f',l',K',n',hS,hw,bD,hn'⟩)⟩:=h5.open_ <;> (have HP5:=wM ((hf5.2 w.heap.size (Ah.1 HPL.out).1 (Nat.ne_of_gt HLT.out.1) (Nat.ne_of_gt HLT.out.2)).trans HPL.out);have HFR5:=wM (HFR.out.trans hf5)))
   . have hb6:U w5.heap.size w5 (w5.alloc (Q #[J Y p1,.string p2,J Y p3] 35)):=As w5 _
     have HP6:=wM ((hb6.block _ (Ah.1 HP5.out).1).trans HP5.out);have HFR6:=wM (HFR5.out.low hb6);have HB6:=wM (hb5.trans (hb6.mono hb5.size));by_cases hz:er=0
     . subst hz
       have mn:(p2.toList==[])=C:=by
        rw[Ce,B0];intro e;have h0:p2.size≠0:=hne.resolve_left (fun h=>h rfl);exact h0 (by rw[<- GJ,e];rfl)
       go_wp2_with (with_reducible refine Bh rfl 35 Cm (.tmp 2) (.tmp 37) rfl w.heap.size rfl _ _ _ _ _ _ rfl rfl rfl rfl _ HP6.out ?_;intro w7 hw7 NT)
       exact AS (Bj rfl Tryz.underlying35 Cm _ _ w.heap.size _ _ _ _ _ rfl NT rfl) rfl ⟨by rw[hR];rfl,HB6.out.trans (hw7.below HLO.out),HFR6.out.wr hw7 (At _)⟩
     . have hz2:(er != 0)=B:=by rw[bne_iff_ne];exact hz
       go_wp2_with (with_reducible refine Bh rfl 35 Cm (.tmp 2) (.tmp 37) rfl w.heap.size rfl _ _ _ _ _ _ rfl rfl rfl rfl _ HP6.out ?_;intro w7 hw7 NT)
       exact AS (Bj rfl Tryz.underlying35 Cm _ _ w.heap.size _ _ _ _ _ rfl NT rfl) rfl ⟨by rw[hR];rfl,HB6.out.trans (hw7.below HLO.out),HFR6.out.wr hw7 (At _)⟩
   . have hb6:U w5.heap.size w5 (w5.alloc (Q #[J Y 0,.string ⟨#[]⟩,J Y 0] 35)):=As w5 _
     have HP6:=wM ((hb6.block _ (Ah.1 HP5.out).1).trans HP5.out);have HFR6:=wM (HFR5.out.low hb6);have HS6:=wM (hS.low hb6);have HW:=wM hw;have HMU:=wM (And.intro bD hn');clear hS hw bD hn' hb6;go_wp2;go_roundw
     case rel=>exact⟨a',f',l',K',n',wM ⟨HS6.out,HW.out,by have:=HBD.out;have:=HMU.out;have:=HQ.out;omega,HFR6.out,HP6.out⟩⟩
     case measure=>rw[HMS.out,HS6.out.ms];have:=HMU.out;have:=HQ.out;omega
end
section
variable {W1:G}{T:EV}{fo:Bool}{bf bw bm m:Nat}{l:List ByteArray}{w:G}
theorem Re(hb:U W1.heap.size W1 w){v:A}
 (h1:w.heap[bw]? =H (Q #[D (H ⟨bf,0,Z⟩),S fo,J Y 1,v,.map (H bm),J Y 0] 82 (0,0))) (h2:TSt w v []):
 W E 30 #[D (H ⟨bw,0,Z⟩)] w fun e w'=>e=L (rU (IF T fo 1 0 []))/\U W1.heap.size W1 w'/\FrK bw bm w w':=by
 have hb1:=As w (Q #[J Y 0,.string ⟨#[]⟩,J Y 0] 35);have Fe:=Ar w (Q #[J Y 0,.string ⟨#[]⟩,J Y 0] 35);obtain⟨w1,hw1⟩:=nm (w.alloc (Q #[J Y 0,.string ⟨#[]⟩,J Y 0] 35));rw[<- hw1] at hb1 Fe;have HW1:Hid (w.alloc (Q #[J Y 0,.string ⟨#[]⟩,J Y 0] 35)=w1):=wM hw1.symm;have gM:=(Ah.1 h1).1;have r1:=(hb1.block bw gM).trans h1;obtain⟨ao,cap,rfl,_⟩:=id h2.1;have c13:w1.cell? ⟨bw,3,Z⟩=H (I ao 0 cap):=by rw[Aq _ _ _ _ _ _ r1];rfl
 have c12:w1.cell? ⟨bw,2,Z⟩=H (J Y 1):=by rw[Aq _ _ _ _ _ _ r1];rfl
 have HPL:=wM (j_ (a:=J Y 1) (b:=.string ⟨#[]⟩) (c:=J Y 1) Fe);have p0:w1.cell? ⟨w.heap.size,0,Z⟩=H (J Y 0):=by rw[Aq _ _ _ _ _ _ Fe];rfl
 have p1:w1.cell? ⟨w.heap.size,1,Z⟩=H (.string ⟨#[]⟩):=by rw[Aq _ _ _ _ _ _ Fe];rfl
 have p2:w1.cell? ⟨w.heap.size,2,Z⟩=H (J Y 0):=by rw[Aq _ _ _ _ _ _ Fe];rfl
 have pf0:w1.frozen? ⟨w.heap.size,0,Z⟩=C:=by simp[G.frozen?,Fe]
 have pf1:w1.frozen? ⟨w.heap.size,1,Z⟩=C:=by simp[G.frozen?,Fe]
 have pf2:w1.frozen? ⟨w.heap.size,2,Z⟩=C:=by simp[G.frozen?,Fe]
 have HB:=wM (hb.trans (hb1.mono hb.size));have HLO:=wM hb.size;have HFR:Hid (FrK bw bm w w1):=wM ((FrK.refl bw bm w).low hb1);clear hb h1 h2 hb1 Fe hw1 r1;go_enter Tryz.func30,Tryz.ntmps30;go_upto_region 1 with(fail)
 rw[HW1.out];go_wp2;go_loopw [6] (fun s6 wr=>w1=wr) (fun _ _=>0)
 case atStart=>rfl
 case round=>
  subst hrel;go_wp2
  go_region
  go_wp2;exact AS (Bj rfl Tryz.underlying35 Cm _ _ w.heap.size _ _ _ _ _ rfl HPL.out.1 rfl) rfl ⟨by rw[TZ];rfl,HB.out.trans (HPL.out.2.below HLO.out),HFR.out.wr HPL.out.2 (At _)⟩
theorem TG(HF:FsW W1 bf T)(hT:OkT T)(hU:OkU T m)(hb:U W1.heap.size W1 w)(hlo:W1.heap.size<=bw/\W1.heap.size<=bm){v:A}
 (h1:w.heap[bw]? =H (Q #[D (H ⟨bf,0,Z⟩),S fo,J Y 1,v,.map (H bm),J Y 0] 82 (0,0))) (h2:TSt w v l) (hm:MpK w bm (fun _ _=>Z) 0) (hl:l.length<=20) (hn:∀ s∈l,s.size≠0/\s.size<=13):
 W E 30 #[D (H ⟨bw,0,Z⟩)] w fun e w'=>e=L (rU (IF T fo 1 0 l))/\U W1.heap.size W1 w'/\FrK bw bm w w':=by
 by_cases h0:l=[]
 . subst h0
   exact Re hb h1 h2
 . exact QS HF hT hU hb hlo h1 h2 hm hl hn h0
theorem WD(s:ByteArray)(w:G)(T:EV)(fo:Bool):
 (Nz T s fo=IF T fo 1 0 (BL s)/\OkP s/\W E 7 #[.string s] w fun e w'=>∃ v,e=L (M #[v,J Y 0])/\TR w' w.heap.size v (BL s)/\U w.heap.size w w')\/
 (∃ er:Int,(er=10\/er=9)/\Nz T s fo=M6 er/\W E 7 #[.string s] w fun e w'=>e=L (M #[I Z 0 0,J Y er])/\U w.heap.size w w'):=by
 have h:=Lm s w;unfold Nz;by_cases h1:s.data.toList.head? =H 47
 . rw[Au h1]
   by_cases h2:OkP s
   . rw[Au h2]
     refine AU ⟨rfl,h2,h.mono ?_⟩;rintro e w' (⟨_,⟨_,v,he,hv⟩| ⟨hn,_⟩,hb⟩| ⟨hn,_⟩)
     . exact⟨v,he,hv,hb⟩
     . exact absurd h2 hn
     . exact absurd h1 hn
   . rw[Ax h2]
     refine AW ⟨10,AU rfl,rfl,h.mono ?_⟩;rintro e w' (⟨_,⟨hy,_⟩| ⟨_,he⟩,hb⟩| ⟨hn,_⟩)
     . exact absurd hy h2
     . exact⟨he,hb⟩
     . exact absurd h1 hn
 . rw[Ax h1]
   refine AW ⟨9,AW rfl,rfl,h.mono ?_⟩;rintro e w' (⟨hy,_⟩| ⟨_,he,rfl⟩)
   . exact absurd hy h1
   . exact⟨he,AC _ _⟩
theorem Vf(HF:FsW W1 bf T)(hT:OkT T)(hU:OkU T m)(s:ByteArray)(fo:Bool):
 W E 11 #[D (H ⟨bf,0,Z⟩),.string s,S fo] W1 fun e w'=>e=L (rU (Nz T s fo))/\U W1.heap.size W1 w':=by
 have hb1:=As W1 (Q #[J Y 0,.string ⟨#[]⟩,J Y 0] 35);have Fe:=Ar W1 (Q #[J Y 0,.string ⟨#[]⟩,J Y 0] 35);obtain⟨w1,hw1⟩:=nm (W1.alloc (Q #[J Y 0,.string ⟨#[]⟩,J Y 0] 35));rw[<- hw1] at hb1 Fe;have HW1:Hid (W1.alloc (Q #[J Y 0,.string ⟨#[]⟩,J Y 0] 35)=w1):=wM hw1.symm;have HB1:=wM hb1;have HP1:=wM Fe;have KP:=WD s w1 T fo;obtain⟨R,hR⟩:=nm (Nz T s fo);rw[<- hR] at KP |-
 have HHF:=wM HF;have HHT:=wM hT;have HHU:=wM hU;clear hb1 Fe hw1 hR HF hT hU;rcases KP with⟨hR1,ho,KP⟩| ⟨er,her,hR1,KP⟩
 . have HO:=wM ho
   have KP:=wM KP;have HR:=wM hR1;clear hR1 ho;go_enter Tryz.func11,Tryz.ntmps11;go_upto_region 1 with(fail)
   rw[HW1.out];go_upto_region 6 with(go_at_call 7;(with_reducible refine KP.out.mono ?_);rintro e w2 ⟨v,rfl,hv,hb2⟩;(obtain⟨ao,cap,hv2,_⟩:=id hv.sl))
   subst hv2;have HV:=wM hv;have HB2:=wM hb2;have HP2:=wM ((hb2.block _ (Ah.1 HP1.out).1).trans HP1.out);clear hv hb2 KP;have hmm:=@run_makeMap E;go_upto_region 7 with(fail)
   have b3:=As w2 (.map #[] 0);have m3:=MpK.made w2;have z3:(w2.alloc (.map #[] 0)).heap.size=w2.heap.size+1:=World.size_alloc _ _;have n4:=Ar (w2.alloc (.map #[] 0)) (Q #[D (H ⟨bf,0,Z⟩),S fo,J Y 1,I ao (BL s).length cap,.map (H w2.heap.size),J Y 0] 82);have b4:=As (w2.alloc (.map #[] 0)) (Q #[D (H ⟨bf,0,Z⟩),S fo,J Y 1,I ao (BL s).length cap,.map (H w2.heap.size),J Y 0] 82);rw[z3] at n4;have B24:U w2.heap.size w2 ((w2.alloc (.map #[] 0)).alloc (Q #[D (H ⟨bf,0,Z⟩),S fo,J Y 1,I ao (BL s).length cap,.map (H w2.heap.size),J Y 0] 82)):=b3.trans (b4.mono (by omega));have M4:=m3.keep (b4.block _ (by omega));generalize (w2.alloc (.map #[] 0)).alloc (Q #[D (H ⟨bf,0,Z⟩),S fo,J Y 1,I ao (BL s).length cap,.map (H w2.heap.size),J Y 0] 82)=w4 at n4 B24 M4 |-
   have Ed:W1.heap.size<w2.heap.size:=AA (Ah.1 HP1.out).1 HB2.out.size;have HB14:=wM ((HB1.out.trans (HB2.out.mono HB1.out.size)).trans (B24.mono (Ct Ed)));have KW:=wM (TG HHF.out HHT.out HHU.out HB14.out ⟨by omega,by omega⟩ n4 (HV.out.st.below B24) M4 HO.out.ct (V9 HO.out));have HP4:=wM ((B24.block _ (Ah.1 HP2.out).1).trans HP2.out);rw[<- HR.out] at KW;obtain⟨⟨p1,p2,p3⟩,er⟩:=R;have KW:Hid (W E 30 #[D (H ⟨w2.heap.size+1,0,Z⟩)] w4 fun e w'=>e=L (M #[BN #[J Y p1,.string p2,J Y p3],J Y er])/\U W1.heap.size W1 w'/\FrK (w2.heap.size+1) w2.heap.size w4 w'):=KW;clear b3 m3 n4 b4 B24 M4
   go_wp2_with (first
    |(go_at_call 30;(with_reducible refine KW.out.mono ?_);rintro e w5 ⟨rfl,hb5,hf5⟩;have HB5:=wM hb5;have HP5:=wM ((hf5.2 W1.heap.size (Ah.1 HP4.out).1 (by omega) (by omega)).trans HP4.out))
    |(with_reducible refine Bh rfl 35 Cm (.tmp 6) (.tmp 31) rfl W1.heap.size rfl _ _ _ _ _ _ rfl rfl rfl rfl _ HP5.out ?_;intro w7 hw7 NT))
   exact AS (Bj rfl Tryz.underlying35 Cm _ _ W1.heap.size _ _ _ _ _ rfl NT rfl) rfl ⟨rfl,HB5.out.trans (hw7.below (At _))⟩
 . have HR:=wM hR1
   have KP:=wM KP;have her0:(er != 0)=B:=by rcases her with rfl|rfl <;> rfl
   clear hR1 her;go_enter Tryz.func11,Tryz.ntmps11;go_upto_region 1 with(fail)
   rw[HW1.out]
   go_wp2_with (first
    |(go_at_call 7;(with_reducible refine KP.out.mono ?_);rintro e w2 ⟨rfl,hb2⟩;have HB2:=wM hb2;have HP2:=wM ((hb2.block _ (Ah.1 HP1.out).1).trans HP1.out))
    |(with_reducible refine Bh rfl 35 Cm (.tmp 6) (.tmp 21) rfl W1.heap.size rfl _ _ _ _ _ _ rfl rfl rfl rfl _ HP2.out ?_;intro w7 hw7 NT))
   exact AS (Bj rfl Tryz.underlying35 Cm _ _ W1.heap.size _ _ _ _ _ rfl NT rfl) rfl ⟨by rw[HR.out];rfl,(HB1.out.trans (HB2.out.mono HB1.out.size)).trans (hw7.below (At _))⟩
end
theorem dj:Nz T0 ⟨#[47,97]⟩ B=(((1:Int),⟨#[97]⟩,0),0):=by
 have hp:BL ⟨#[47,97]⟩=[⟨#[97]⟩]:=by decide +kernel
 have ho:OkP ⟨#[47,97]⟩:=⟨by decide,by decide,by rw[hp];decide,by rw[hp];decide⟩;unfold Nz;have h1:(⟨#[47,97]⟩:ByteArray).data.toList.head? =H 47:=rfl;rw[Au h1,Au ho,hp,TO (x:=⟨2,[],[]⟩) (by decide +kernel) (by decide +kernel) rfl (by decide +kernel)];rfl
theorem J5(w:G):W E 6 #[] w fun e w'=>e=L (S B)/\U w.heap.size w w':=by
 have KM:=wM (am (kk:=1) (by decide) (by decide) w (AC _ w));rw[show(64*((1:Nat):Int))=64 from rfl] at KM;have KW:Hid (∀ (V:G) (P:Nat->Prop) (d p:A) (bf:Nat),RestT w d p 1 bf T0 6 P V->W E 11 #[D (H ⟨bf,0,Z⟩),.string ⟨#[47,97]⟩,S B] V fun e w'=>e=L (M #[BN #[J Y 1,.string ⟨#[97]⟩,J Y 0],J Y 0])/\U w.heap.size w w'):=wM fun V P d p bf h=>by
  refine(Vf (h.fsw wA) wA tX ⟨#[47,97]⟩ B).mono ?_;rintro e w' ⟨he,hb⟩;rw[dj] at he;have hbe:U w.heap.size w V:=by obtain⟨X,N,O,F,a,_⟩:=h;exact a.be
  exact⟨he,hbe.trans (hb.mono hbe.size)⟩
 go_enter Tryz.func6,Tryz.ntmps6
 go_wp2_with (first
  |(go_at_call 15;refine KM.out.mono ?_;rintro e w1 ⟨b,rfl,hb1,KN⟩)
  |(go_at_call 14;refine KN.mono ?_;rintro e w2 ⟨bf,P2,d2,rfl,hr2⟩)
  |(go_at_call 11;refine(KW.out _ _ _ _ _ hr2).mono ?_;rintro e w5 ⟨rfl,hb5⟩;have HB5:=wM (hb5.alloc hb5.size (Q #[J Y 1,.string ⟨#[97]⟩,J Y 0] 35))))
 go_ret;exact⟨rfl,HB5.out⟩
end Go.Proofs.YtfpdajplfmakhaaGreatDoor
