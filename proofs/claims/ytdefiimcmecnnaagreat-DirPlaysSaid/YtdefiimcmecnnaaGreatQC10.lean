/- What the law rests on. -/
import Derived.Test.YtdefiimcmecnnaaGreatQC9
open Go.Value renaming int->J,slice->Ak,pointer->Am,tuple->AO,bool->A1,agg->BD
open Go.IntKind renaming i64->Y
open Go.Proofs.Tryz renaming prog->Ae
open Option renaming none->H,some->T
open Go.Ending renaming returned->Ag
open Go renaming World->C,Value->Aq,Calls->AA,Oper->BS
open List renaming getElem_cons_zero->Ao,getElem_cons_succ->Ap,getElem_toArray->As,set_cons_succ->Au,set_cons_zero->Av,replicate->AD,nil_append->B0,length_cons->Ch
open Go.Obj renaming cells->Ar
open Go.RowKit renaming Below->At
open Bool renaming false->AI,true->A
open Or renaming inl->z,inr->Ba
open Go.Act renaming put->AR
open Array renaming replicate->A3
open Int renaming toNat_natCast->B5
namespace Go.Proofs.YtdefiimcmecnnaaGreat
set_option maxHeartbeats 12000000
set_option linter.unusedVariables false
set_option maxRecDepth 100000
theorem Bt:type_of% @Go.wpAnyH_take:=@Go.wpAnyH_take
theorem EL:type_of% @Go.AllReadyH.cons:=@Go.AllReadyH.cons
section
open Go.RowKit
theorem Qo{w w':C}{P Pd:Nat->Prop}{b be bp:Nat}{d:Aq}{q:Int}{ek:List Int}{eg:Int->Aq}{ev:Int->List Int}{pk:List Int}{pg:Int->Aq}{pv:Int->List Int}{X:XSt}(hm:SMem w' Pd b be bp d q ek eg ev pk pg pv X.wi X.ds)(hpl:SPl X ek ev pk pv)
 (hl:∀ k,P k->k<w.heap.size) (hs:w.heap.size<=w'.heap.size) (hown:∀ k,mP Pd b be bp ek eg pk pg k->P k\/w.heap.size<=k):SInv w' (vm P w w') d (Am (T ⟨b,0,H⟩)) X:=
 ⟨b,be,bp,Pd,q,ek,eg,ev,pk,pg,pv,rfl,hm,hpl,fun k hk=>(hown k hk).imp id fun e=>⟨e,hm.lt k hk⟩,fun k hk=>hk.elim (fun h=>AH (hl k h) hs) fun h=>h.2⟩
section
variable {w:C}{Pd:Nat->Prop}{b be bp:Nat}{d:Aq}{q:Int}{ek:List Int}{eg:Int->Aq}{ev:Int->List Int}{pk:List Int}{pg:Int->Aq}{pv:Int->List Int}{wi:Bool}{s:DS}
theorem ga(h:SMem w Pd b be bp d q ek eg ev pk pg pv A s):AA Ae 18 #[Am (T ⟨b,0,H⟩),A1 AI] w fun e w'=>e=Ag (J Y 0)/\w'=((w.setCell ⟨b,3,H⟩ (.map (T w.heap.size))).setCell ⟨b,4,H⟩ (A1 AI)).alloc (.map #[] 0):=by
 have KA:=vJ (Fo h A);have c3:=h.c3;have c4:=h.c4;have f3:=h.fr 3;have f4:=h.fr 4;have hbl:=h.bl;have Sn:b≠w.heap.size:=Nat.ne_of_lt h.bl;have rX:w.heap.size≠b:=fun e=>Sn e.symm
 have hmm:=@run_makeMap Ae;clear h;go_enter Tryz.func18,Tryz.ntmps18;go_wp2_with (go_at_call 29;(with_reducible refine KA.out.mono ?_);rintro e w1 ⟨rfl,rfl⟩)
 go_ret;exact⟨rfl,rfl⟩
theorem SJ{Q:C->Prop}(h:SMem w Pd b be bp d q ek eg ev pk pg pv A s)
 (KJ:AA Ae 36 #[Am (T ⟨b,0,H⟩)] w fun e w1=>e=Ag (J Y 0)/\Q w1/\∃ Pd1 be1 q1 ek1 eg1 ev1 s1,SMem w1 Pd1 b be1 bp d q1 ek1 eg1 ev1 pk pg pv A s1):
 AA Ae 18 #[Am (T ⟨b,0,H⟩),A1 A] w fun e w'=>e=Ag (J Y 0)/\∃ w1,Q w1/\w'=((w1.setCell ⟨b,3,H⟩ (.map (T w1.heap.size))).setCell ⟨b,4,H⟩ (A1 AI)).alloc (.map #[] 0):=by
 have KA:=vJ (Fo h A);have KJ':=vJ KJ;have hmm:=@run_makeMap Ae;clear h KJ;go_enter Tryz.func18,Tryz.ntmps18
 go_wp2_with (first
  |(go_at_call 29;(with_reducible refine KA.out.mono ?_);rintro e w1 ⟨rfl,rfl⟩)
  |(go_at_call 36;(with_reducible refine KJ'.out.mono ?_);rintro e w1 ⟨rfl,hq,Pd1,be1,q1,ek1,eg1,ev1,s1,h⟩
    have HQ:=vJ hq;have c3:=h.c3;have c4:=h.c4;have f3:=h.fr 3;have f4:=h.fr 4;have hbl:=h.bl;have Sn:b≠w1.heap.size:=Nat.ne_of_lt h.bl;have rX:w1.heap.size≠b:=fun e=>Sn e.symm
    clear h hq))
 go_ret;exact⟨rfl,w1,HQ.out,rfl⟩
theorem fD{Q:C->Prop}(h:SMem w Pd b be bp d q ek eg ev pk pg pv A s)
 (KJ:AA Ae 36 #[Am (T ⟨b,0,H⟩)] w fun e w1=>e=Ag (J Y 2)/\Q w1):
 AA Ae 18 #[Am (T ⟨b,0,H⟩),A1 A] w fun e w'=>e=Ag (J Y 2)/\Q w':=by
 have KA:=vJ (Fo h A);have KJ':=vJ KJ;clear h KJ;go_enter Tryz.func18,Tryz.ntmps18
 go_wp2_with (first
  |(go_at_call 29;(with_reducible refine KA.out.mono ?_);rintro e w1 ⟨rfl,rfl⟩)
  |(go_at_call 36;(with_reducible refine KJ'.out.mono ?_);rintro e w1 ⟨rfl,hq⟩
    have HQ:=vJ hq;clear hq))
 go_ret;exact⟨rfl,HQ.out⟩
theorem mx(h:SMem w Pd b be bp d q ek eg ev pk pg pv AI s)(k:Bool):AA Ae 18 #[Am (T ⟨b,0,H⟩),A1 k] w fun e w'=>e=Ag (J Y 17)/\w=w':=by
 have KA:=vJ (Fo h A);clear h;go_enter Tryz.func18,Tryz.ntmps18;go_wp2_with (go_at_call 29;(with_reducible refine KA.out.mono ?_);rintro e w1 ⟨rfl,rfl⟩)
 go_ret;exact⟨rfl,rfl⟩
end
section
variable {X:XSt}{ek:List Int}{ev:Int->List Int}{pk:List Int}{pv:Int->List Int}
theorem SPl.base(h:SPl X ek ev pk pv):X.base.length=X.is.length:=h.ok.lst.glen
theorem SPl.undo(h:SPl X ek ev pk pv)(pv':Int->List Int):SPl { X with wi:=AI } ek ev [] pv':=
 { h with ok:={ h.ok with call:=fun e=>Bool.noConfusion (show AI=A from e) },kp:=fun x hx=>absurd hx BI,pl:=AX _,wi0:=fun _=>rfl,wi1:=fun e=>Bool.noConfusion (show AI=A from e) }
theorem SPl.merged(h:SPl X ek ev pk pv)(hw:X.wi=A)(i:Nat)(ho:Ei i)(hi:i<X.is.length):X.call.getD i []=if (i:Int)∈Fe ek pk then Fq pk pv ev i else X.base.getD i []:=by
 obtain⟨_,_,h2⟩:=h.wi1 hw;rw[h2 i ho hi,h.isx i ho hi];unfold Fq;by_cases hp:(i:Int)∈pk
 . rw[AC hp,AC (mem_uniN.2 (Ba hp)),AC hp]
 . rw[AE hp]
   by_cases he:(i:Int)∈ek
   . rw[AC he,AC (mem_uniN.2 (z he)),AE hp]
   . rw[AE he,AE fun e=>(mem_uniN.1 e).elim he hp]
theorem SPl.small(h:SPl X ek ev pk pv)(hw:X.wi=A)(hu:(Fe ek pk).length<=37)(pv':Int->List Int):SPl { X with base:=X.base,is:=X.call,wi:=AI,dt:=(Fe ek pk).length,ds:=X.ds } (Fe ek pk) (Fq pk pv ev) [] pv':=by
 obtain⟨_,hcl,_⟩:=h.wi1 hw;have aF:X.call.length=X.is.length:=hcl;refine⟨⟨?_,h.ok.pow,h.ok.un,fun e=>Bool.noConfusion (show AI=A from e),hu⟩,?_,h.u0,?_,fun x hx=>absurd hx BI,hu,AX _,rfl,?_,fun _=>rfl,fun e=>Bool.noConfusion (show AI=A from e)⟩
 . show Lst X.call.length X.ds X.base
   rw[aF];exact h.ok.lst
 . show 64<=X.call.length/\X.call.length<=768
   rw[aF];exact h.n64
 . intro x hx
   show sC X.call.length x
   rw[aF];exact(mem_uniN.1 hx).elim (h.ki x) (h.kp x)
 . intro i ho hi
   have hi':i<X.call.length:=hi;exact h.merged hw i ho (by omega)
theorem Ql(pk:List Int):Fe [] pk=pk:=by
 unfold Fe;rw[B0,List.filter_eq_self];intro x _;simp
theorem SPl.great(h:SPl X ek ev pk pv)(hw:X.wi=A){ds':DS}(hl:Lst X.is.length ds' X.is)(hd:ds'.dn=AI)(hU:ds'.U=[])(pv':Int->List Int):SPl { X with base:=X.is,is:=X.call,wi:=AI,dt:=(Fe [] pk).length,ds:=ds' } (Fe [] pk) (Fq pk pv ev) [] pv':=by
 obtain⟨_,hcl,Om⟩:=h.wi1 hw;have aF:X.call.length=X.is.length:=hcl;have hpl:(Fe [] pk).length<=37:=by rw[Ql];exact h.pl
 refine⟨⟨?_,hd,by show ds'.U.length<=1000;rw[hU];exact AX _,fun e=>Bool.noConfusion (show AI=A from e),hpl⟩,?_,hU,?_,fun x hx=>absurd hx BI,hpl,AX _,rfl,?_,fun _=>rfl,fun e=>Bool.noConfusion (show AI=A from e)⟩
 . show Lst X.call.length ds' X.is
   rw[aF];exact hl
 . show 64<=X.call.length/\X.call.length<=768
   rw[aF];exact h.n64
 . intro x hx
   show sC X.call.length x
   rw[aF];rw[Ql] at hx;exact h.kp x hx
 . intro i ho hi
   have hi':i<X.call.length:=hi;show X.call.getD i []=if (i:Int)∈Fe [] pk then Fq pk pv ev i else X.is.getD i []
   rw[Ql,Om i ho (by omega)];by_cases hp:(i:Int)∈pk
   . rw[AC hp,AC hp];unfold Fq;rw[AC hp]
   . rw[AE hp,AE hp]
theorem SPl.okT(h:SPl X ek ev pk pv)(hn:ek.Nodup)(hv:∀ x∈ek,(ev x).length=256):okT X.is.length (BV ek) ((BV ek).map ev):=qv hn h.el h.ki h.n64.2 hv
theorem SPl.set(h:SPl X ek ev pk pv)(hn:ek.Nodup)(hv:∀ x∈ek,(ev x).length=256){q:Int}(hq:0<=q/\q<4294967296):
 let r:=BP (J1 q (BV ek) ((BV ek).map ev)) X.ds
 (r.1=0->r.2.dn=AI/\r.2.U=[]/\Lst X.is.length r.2 X.is)/\(r.1=2->X.ds.fu=A/\RI X.is.length r.2 [X.base,X.is]):=by
 intro r;have hT:=h.okT hn hv;obtain⟨h1,h2⟩:=fU h.ok.lst (by have:=h.n64.1;omega) h.u0 h.ok.pow hT hq;have hE:=qO (B:=X.base) (I:=X.is) h.ki h.base rfl h.isx;refine⟨fun h0=>?_,fun h0=>?_⟩
 . obtain⟨a,b,c⟩:=h1 h0
   exact⟨a,b,c.toO hE⟩
 . obtain⟨a,b,c,e⟩:=h2 h0
   refine⟨a,b,c,fun kp=>?_⟩;obtain⟨G,hG,hJ⟩:=e kp;simp only[Cy,BI,or_false] at hG;rcases hG with rfl|rfl
   . exact⟨_,by simp,hJ⟩
   . exact⟨X.is,by simp,hJ.toO hE⟩
end
section
variable {w:C}{P:Nat->Prop}{d p:Aq}{X:XSt}
theorem fN(h:SInv w P d p X)(hw:X.wi=AI)(k:Bool):AA Ae 18 #[p,A1 k] w (PJ SInv w P d p (17,X)):=by
 have h':=h;obtain⟨b,be,bp,Pd,q,ek,eg,ev,pk,pg,pv,rfl,hm,hpl,ho,hl⟩:=h;rw[hw] at hm;exact(mx hm k).mono fun e w' ⟨he,hww⟩=>by subst hww;exact⟨he,P,h',Chg.refl _ _⟩
theorem WF(h:SInv w P d p X)(hw:X.wi=A):AA Ae 18 #[p,A1 AI] w (PJ SInv w P d p (0,{ X with wi:=AI })):=by
 obtain⟨b,be,bp,Pd,q,ek,eg,ev,pk,pg,pv,rfl,hm,hpl,ho,hl⟩:=h;rw[hw] at hm;refine(ga hm).mono ?_;rintro e w' ⟨rfl,rfl⟩;obtain⟨hm',En,hext⟩:=hm.cleared pg pv;refine⟨rfl,_,Qo hm' (hpl.undo pv) hl hext.size ?_,(hext.sub fun k e=>ho k (Ba (z e))).chg⟩;intro k hk;rcases hk with hk|rfl|rfl|rfl| ⟨x,hx,hg⟩| ⟨x,hx,_⟩
 . exact z (ho k (z hk))
 . exact z (ho _ (Ba (z rfl)))
 . exact z (ho _ (Ba (Ba (z rfl))))
 . exact Ba (AB _)
 . exact z (ho k (Ba (Ba (Ba (Ba (z ⟨x,hx,hg⟩))))))
 . exact absurd hx BI
theorem jH{ek pk:List Int}{eg pg:Int->Aq}{x:Int}{k:Nat}(hx:x∈Fe ek pk)(hg:(Fq pk pg eg x).ownBlock=T k):(∃ y,y∈ek/\(eg y).ownBlock=T k)\/∃ y,y∈pk/\(pg y).ownBlock=T k:=by
 unfold Fq at hg;by_cases hp:x∈pk
 . rw[AC hp] at hg;exact Ba ⟨x,hp,hg⟩
 . rw[AE hp] at hg;exact z ⟨x,(mem_uniN.1 hx).resolve_right hp,hg⟩
theorem Wf(h:SInv w P d p X)(hw:X.wi=A):AA Ae 18 #[p,A1 A] w fun e w'=>
 (∃ B dt ds',(B=X.base\/B=X.is\/B=X.call)/\ds'.fu=X.ds.fu/\PJ SInv w P d p (0,{ X with base:=B,is:=X.call,wi:=AI,dt:=dt,ds:=ds' }) e w')\/pn SDead w P d p X [X.base,X.is,X.call] e w':=by
 obtain⟨b,be,bp,Pd,q,ek,eg,ev,pk,pg,pv,rfl,hm,hpl,ho,hl⟩:=h;rw[hw] at hm;have hv:∀ x∈ek,(ev x).length=256:=fun x hx=>(hm.re x hx).2
 by_cases hu:(Fe ek pk).length<=37
 . refine(SJ (Q:=fun w1=>SMem w1 Pd b be bp d q (Fe ek pk) (Fq pk pg eg) (Fq pk pv ev) pk pg pv A X.ds/\Ext (fun k=>k=be) w w1) hm ((VU hm hpl.el hpl.pl hu).mono fun e w1 ⟨he,h1,hx⟩=>⟨he,⟨h1,hx⟩,_,_,_,_,_,_,_,h1⟩)).mono ?_
   rintro e w' ⟨rfl,w1,⟨hm1,hx1⟩,rfl⟩;obtain⟨hm',En,hext⟩:=hm1.cleared pg pv;have hE:Ext (fun k=>k=be\/k=b) w _:=(hx1.sub fun k e=>z e).trans (P2:=fun k=>k=b) hext fun k _ e=>Ba e
   refine z ⟨X.base,(Fe ek pk).length,X.ds,z rfl,rfl,rfl,_,Qo hm' (hpl.small hw hu pv) hl hE.size ?_,(hE.sub fun k e=>e.elim (fun e=>ho k (Ba (Ba (z e)))) fun e=>ho k (Ba (z e))).chg⟩;intro k hk;rcases hk with hk|rfl|rfl|rfl| ⟨x,hx,hg⟩| ⟨x,hx,_⟩
   . exact z (ho k (z hk))
   . exact z (ho _ (Ba (z rfl)))
   . exact z (ho _ (Ba (Ba (z rfl))))
   . exact Ba hx1.size
   . exact z (ho k (Ba (Ba (Ba (Ba (jH hx hg))))))
   . exact absurd hx BI
 . have hT:=hpl.okT hm.me.nodup hv
   obtain⟨s1,s2⟩:=hpl.set hm.me.nodup hv hm.q0;have hB:Gp X.ds.F.length (BV ek) ((BV ek).map ev)=A:=(by rw[hpl.ok.lst.1];exact hT.takes hpl.n64.1);have KJ:=VV hm hpl.el hpl.pl (by omega) hB (by rw[hpl.u0];exact AX _);have Mc:=Qj (J1 q (BV ek) ((BV ek).map ev)) X.ds;have hr:=FR (J1 q (BV ek) ((BV ek).map ev)) X.ds;generalize BP (J1 q (BV ek) ((BV ek).map ev)) X.ds=r at s1 s2 KJ Mc hr;obtain⟨r,s'⟩:=r;rcases hr with h0|h0
   . simp only at h0
     subst h0;obtain⟨g1,g2,g3⟩:=s1 rfl;refine(SJ (Q:=fun w1=>∃ be' Pd' q',SMem w1 Pd' b be' bp d q' (Fe [] pk) (Fq pk pg eg) (Fq pk pv ev) pk pg pv A s'/\(w.heap.size<=be'/\be'<w1.heap.size)/\(∀ k,Pd' k->Pd k\/w.heap.size<=k)/\Ext (fun k=>Pd k\/k=b) w w1) hm (KJ.mono fun e w1 hq=>by
      rcases hq with⟨_,he,hx⟩| ⟨h2,_⟩
      . obtain⟨be',Pd',q',h1,r⟩:=hx
        exact⟨he,⟨be',Pd',q',h1,r⟩,_,_,_,_,_,_,_,h1⟩
      . exact absurd (show(0:Int)=2 from h2) (by decide))).mono ?_
     rintro e w' ⟨rfl,w1,⟨be',Pd',q',hm1,hbe,iq,hx1⟩,rfl⟩;obtain⟨hm',En,hext⟩:=hm1.cleared pg pv;have hE:Ext (fun k=>Pd k\/k=b) w _:=hx1.trans (P2:=fun k=>k=b) hext fun k _ e=>Ba e
     refine z ⟨X.is,(Fe [] pk).length,s',Ba (z rfl),Mc,rfl,_,Qo hm' (hpl.great hw g3 g1 g2 pv) hl hE.size ?_,(hE.sub fun k e=>e.elim (fun e=>ho k (z e)) fun e=>ho k (Ba (z e))).chg⟩;intro k hk;rcases hk with hk|rfl|rfl|rfl| ⟨x,hx,hg⟩| ⟨x,hx,_⟩
     . exact(iq k hk).imp (fun e=>ho k (z e)) id
     . exact z (ho _ (Ba (z rfl)))
     . exact Ba hbe.1
     . exact Ba hx1.size
     . rw[Ql] at hx
       unfold Fq at hg;rw[AC hx] at hg;exact z (ho k (Ba (Ba (Ba (Ba (Ba ⟨x,hx,hg⟩))))))
     . exact absurd hx BI
   . simp only at h0
     subst h0;obtain⟨g1,g2⟩:=s2 rfl;refine(fD (Q:=fun w1=>∃ Pd',w1.heap[b]? =T NQ/\Dk w1 Pd' d s'/\(∀ k,Pd' k->Pd k\/w.heap.size<=k)/\Ext (fun k=>Pd k\/k=b) w w1) hm (KJ.mono fun e w1 hq=>by
      rcases hq with⟨h2,_⟩| ⟨_,he,hx⟩
      . exact absurd (show(2:Int)=0 from h2) (by decide)
      . exact⟨he,hx⟩)).mono ?_
     rintro e w' ⟨rfl,Pd',hb,hdk,iq,hx⟩;obtain⟨k1,k2,k3⟩:=g2;refine Ba ⟨g1,rfl,vm P w w',s',⟨b,Pd',rfl,hb,hdk,fun k hk=>?_,fun k hk=>hk.elim (fun h=>AH (hl k h) hx.size) fun h=>h.2⟩,(hx.sub fun k e=>e.elim (fun e=>ho k (z e)) fun e=>ho k (Ba (z e))).chg,k1,k2,fun kp=>?_⟩
     . rcases hk with hk|rfl
       . exact(iq k hk).imp (fun e=>ho k (z e)) fun e=>⟨e,hdk.lt k hk⟩
       . exact z (ho _ (Ba (z rfl)))
     . obtain⟨G,hG,hJ⟩:=k3 kp
       refine⟨G,?_,hJ⟩;simp only[Cy,BI,or_false] at hG |-
       rcases hG with e|e
       . exact z e
       . exact Ba (z e)
end
theorem lC{W:C}{P:Nat->Prop}{d:Aq}{s:DS}{x:Int}(hd:Dk W P d s)(hx:0<=x/\x<4294967296)(eg:Int->Aq)(ev:Int->List Int):
 let w':=((W.alloc (.map #[] 0)).alloc (.map #[] 0)).alloc (Ar #[d,J .u32 x,.map (T W.heap.size),.map (T (W.heap.size+1)),A1 AI,A1 AI] 72)
 SMem w' P (W.heap.size+1+1) W.heap.size (W.heap.size+1) d x [] eg ev [] eg ev AI s/\At W.heap.size W w'/\w'.heap.size=W.heap.size+3:=by
 intro w';obtain⟨w1,hw1⟩:=nm (W.alloc (.map #[] 0));obtain⟨w2,GN⟩:=nm (w1.alloc (.map #[] 0));have hs1:w1.heap.size=W.heap.size+1:=by rw[hw1];simp
 have hs2:w2.heap.size=W.heap.size+1+1:=by rw[GN];simp[hs1]
 have hw':w'=w2.alloc (Ar #[d,J .u32 x,.map (T W.heap.size),.map (T (W.heap.size+1)),A1 AI,A1 AI] 72):=by rw[GN,hw1]
 have b1:At W.heap.size W w1:=by rw[hw1];exact Ay W _
 have b2:At w1.heap.size w1 w2:=by rw[GN];exact Ay w1 _
 have b3:At w2.heap.size w2 w':=by rw[hw'];exact Ay w2 _
 have hm1:Mp w1 W.heap.size [] eg:=by rw[hw1];exact Mp.made W eg
 have hm2:Mp w2 w1.heap.size [] eg:=by rw[GN];exact Mp.made w1 eg
 have hb:At W.heap.size W w':=b1.trans ((b2.trans (b3.mono b2.size)).mono b1.size);have hr:w'.heap[W.heap.size+1+1]? =T (Ar #[d,J .u32 x,.map (T W.heap.size),.map (T (W.heap.size+1)),A1 AI,A1 AI] 72 (0,0)):=by
  rw[<- hs2,hw'];exact Aw w2 _
 refine⟨⟨hr,hd.below hb,hx,(hm1.keep (b2.block _ (by rw[hs1];omega))).keep (b3.block _ (by rw[hs2];omega)),?_,by omega,fun x hx=>absurd hx BI,fun x hx=>absurd hx BI⟩,hb,by rw[hw'];simp[hs2]⟩;rw[<- hs1];exact hm2.keep (b3.block _ (by rw[hs2,hs1];omega))
theorem WO{w:C}{P:Nat->Prop}{d:Aq}{ds:DS}{n:Nat}{G:List (List Int)}(h:Dk w P d ds)(Qa:64<=n)(Mk:n<=768)(hU:ds.U=[])(hd:ds.dn=AI)(hJ:Jst n ds.F G):AA Ae 28 #[d] w fun e w'=>
 (∃ p ds' P',e=Ag (AO #[p,J Y 0])/\ds'.fu=ds.fu/\SInv w' P' d p ⟨G,G,[],[],AI,0,ds'⟩/\Chg P P' w w')\/
   (ds.fu=A/\e=Ag (AO #[Am H,J Y 2])/\∃ ds' P',Dk w' P' d ds'/\Chg P P' w w'/\RI n ds' [G]):=by
 have KR:=vJ (WH h Qa hU hd hJ);have hlt:=fun k hk=>h.lt k hk
 have HL:=vJ hlt;have HG:Hid (G.length=n):=vJ hJ.2.1;have H64:=vJ (And.intro Qa Mk);have hmm:=@run_makeMap Ae;obtain⟨bd,rfl⟩:=h.ptr;clear h Qa Mk hU hd hJ hlt;go_enter Tryz.func28,Tryz.ntmps28
 go_upto_region 2 with(go_at_call 65;(with_reducible refine KR.out.mono ?_);rintro e w1 ⟨x,r,s',P1,rfl,hd1,hc1,ry,hf1,hr1,hcr,h0,pY,hx,Mc⟩
                       have HD:=vJ hd1;have HC:=vJ hc1;have HCR:=vJ (And.intro ry (And.intro hf1 hcr));have H0:=vJ h0;have HF0:=vJ pY;have HX:=vJ hx;have HFU:=vJ Mc;have HR:=vJ hr1;clear hd1 hc1 ry hf1 hcr h0 pY hx Mc hr1)
 rcases HR.out with e0|e0
 . subst e0
   go_wp2;go_ret2;obtain⟨g1,g2,g3⟩:=H0.out (by first|rfl|trivial);obtain⟨hm,hb,En⟩:=lC HD.out HX.out (fun _=>undef) (fun _=>[]);have hE:Ext P w _:=(Ext.of_chg HC.out fun k hk=>hk).trans (P2:=P) (Ext.of_below hb) fun k _ e=>e
   refine z ⟨_,rfl,s',HFU.out,_,Qo (X:=⟨G,G,[],[],AI,0,s'⟩) (P:=P) hm ⟨⟨by show Lst G.length s' G;rw[HG.out];exact g3,g1,by rw[g2];exact AX _,fun e=>Bool.noConfusion (show AI=A from e),AX _⟩,by show 64<=G.length/\G.length<=768;rw[HG.out];exact H64.out,g2,fun x hx=>absurd hx BI,fun x hx=>absurd hx BI,AX _,AX _,rfl,fun i _ _=>(AE BI).symm,fun _=>rfl,fun e=>Bool.noConfusion (show AI=A from e)⟩ HL.out hE.size ?_,hE.chg⟩;intro k hk;have hs:=HC.out.size;rcases hk with hk|rfl|rfl|rfl| ⟨x,hx,_⟩| ⟨x,hx,_⟩
   . exact M9 HC.out hk
   . exact Ba (by omega)
   . exact Ba (by omega)
   . exact Ba (by omega)
   . exact absurd hx BI
   . exact absurd hx BI
 . subst e0
   go_wp2;go_ret2;refine Ba ⟨?_,rfl,s',P1,HD.out,HC.out,HCR.out.1,HCR.out.2.1,fun kp=>⟨G,by simp,HCR.out.2.2 kp⟩⟩;cases hf:ds.fu
   . exact absurd (HF0.out hf) (by decide)
   . rfl
theorem landed:Sto SInv SDead where
 plain h:=by obtain⟨_,_,_,_,_,_,_,_,_,_,_,_,_,hpl,_⟩:=h;exact hpl.ok
 ptr h:=by obtain⟨b,_,_,_,_,_,_,_,_,_,_,hp,_⟩:=h;exact⟨b,hp⟩
 lt h:=by obtain⟨_,_,_,_,_,_,_,_,_,_,_,_,_,_,_,hl⟩:=h;exact hl
 keep h hs hk:=h.keep hs hk
 disk h:=by obtain⟨_,_,_,Pd,_,_,_,_,_,_,_,_,hm,_,ho,_⟩:=h;exact⟨Pd,fun k hk=>ho k (z hk),hm.dk⟩
 deadLt h:=by obtain⟨_,_,_,_,_,_,hl⟩:=h;exact hl
 deadKeep h hs hk:=h.keep hs hk
 deadDisk h:=by obtain⟨_,Pd,_,_,hd,ho,_⟩:=h;exact⟨Pd,fun k hk=>ho k (z hk),hd⟩
 begin h:=fH h
 put h hv hn hj:=NL h hv hn hj
 getOut h _ ho:=kV h ho
 getIn h hn:=nN h hn
 endNo h hw:=fN h hw _
 endUndo h hw:=WF h hw
 endKeep h hw:=Wf h hw
 opens h Qa Mk hU hd hJ:=WO h Qa Mk hU hd hJ
end
section
open Go.RowKit BM
def qz(b l i j:Int):Prop:=CY b=AI\/CY l=AI\/b<l\/GF i j=AI\/i=0\/i=65535
theorem sx{b l g i j:Int}(hb:b<=9223372036854775807)(hl:l<=9223372036854775807)(hi:0<=i/\i<=65535)(hj:0<=j/\j<=65535)(C6:qz b l i j)(p:Aq)(w:C):
 AA Ae 198 #[p,J Y b,J Y l,J Y g,BD #[J .u16 i,J .u16 j]] w fun e w'=>e=Ag (AO #[J Y 0,J Y 1])/\At w.heap.size w w':=by
 have hb1:=Ay w (Ar #[J .u16 i,J .u16 j] 165);cases h1:CY b
 . have K1:=vJ (fun W:C=>MB b hb h1 W)
   clear C6 h1;go_enter Tryz.func198,Tryz.ntmps198;go_wp2_with (go_at_call 208;refine(K1.out _).mono ?_;rintro e w' ⟨rfl,rfl⟩)
   go_ret2;exact⟨rfl,hb1⟩
 . have K1:Hid (∀ W:C,AA Ae 208 #[J Y b] W fun e w'=>e=Ag (A1 A)/\W=w'):=vJ fun W=>by rw[<- h1];exact GS b hb W
   cases h2:CY l
   . have K2:=vJ (fun W:C=>MB l hl h2 W)
     clear C6 h1 h2;go_enter Tryz.func198,Tryz.ntmps198
     go_wp2_with (first
      |(go_at_call 208;(with_reducible refine(K1.out _).mono ?_);rintro e w' ⟨rfl,rfl⟩)
      |(go_at_call 208;(with_reducible refine(K2.out _).mono ?_);rintro e w' ⟨rfl,rfl⟩))
     go_ret2;exact⟨rfl,hb1⟩
   . have K2:Hid (∀ W:C,AA Ae 208 #[J Y l] W fun e w'=>e=Ag (A1 A)/\W=w'):=vJ fun W=>by rw[<- h2];exact GS l hl W
     by_cases h3:b<l
     . clear C6 h1 h2
       go_enter Tryz.func198,Tryz.ntmps198
       go_wp2_with (first
        |(go_at_call 208;(with_reducible refine(K1.out _).mono ?_);rintro e w' ⟨rfl,rfl⟩)
        |(go_at_call 208;(with_reducible refine(K2.out _).mono ?_);rintro e w' ⟨rfl,rfl⟩))
       go_ret2;exact⟨rfl,hb1⟩
     . cases h4:Pw i j
       . have K3:=vJ (JB i j AI h4)
         cases h5:GF i j
         . have K4:=vJ (H9 i j hi hj AI h5)
           have HR:=vJ (fun(W:C) (hb:At (w.alloc (Ar #[J .u16 i,J .u16 j] 165)).heap.size (w.alloc (Ar #[J .u16 i,J .u16 j] 165)) W)=>show W.cell? ⟨w.heap.size,0,H⟩=T (J .u16 i)/\W.cell? ⟨w.heap.size,1,H⟩=T (J .u16 j) from⟨Az _ _ _ _ _ _ (BA (Aw w _) hb),Az _ _ _ _ _ _ (BA (Aw w _) hb)⟩);have HB1:=vJ hb1;clear C6 h1 h2 h4 h5 hb1;go_enter Tryz.func198,Tryz.ntmps198
           go_wp2_with (first
            |(go_at_call 208;(with_reducible refine(K1.out _).mono ?_);rintro e w' ⟨rfl,rfl⟩)
            |(go_at_call 208;(with_reducible refine(K2.out _).mono ?_);rintro e w' ⟨rfl,rfl⟩)
            |(go_at_call 203;refine(K3.out _).mono ?_;rintro e w2 ⟨rfl,hb2⟩;obtain⟨c0,c1⟩:=HR.out _ hb2;have hb02:=HB1.out.trans (hb2.mono HB1.out.size))
            |(go_at_call 211;refine(K4.out _).mono ?_;rintro e w3 ⟨rfl,hb3⟩))
           go_ret2;exact⟨rfl,hb02.trans (hb3.mono hb02.size)⟩
         . have K4:=vJ (H9 i j hi hj A h5)
           obtain rfl:i=65535:=by
            have e0:i≠0:=fun e=>by subst e;rw[Rk h5] at h4;exact absurd h4 (by decide)
            rcases C6 with h|h|h|h|h|h
            . rw[h1] at h;cases h
            . rw[h2] at h;cases h
            . exact absurd h h3
            . rw[h5] at h;cases h
            . exact absurd h e0
            . exact h
           have HR:=vJ (fun(W:C) (hb:At (w.alloc (Ar #[J .u16 65535,J .u16 j] 165)).heap.size (w.alloc (Ar #[J .u16 65535,J .u16 j] 165)) W)=>show W.cell? ⟨w.heap.size,0,H⟩=T (J .u16 65535)/\W.cell? ⟨w.heap.size,1,H⟩=T (J .u16 j) from⟨Az _ _ _ _ _ _ (BA (Aw w _) hb),Az _ _ _ _ _ _ (BA (Aw w _) hb)⟩);have HB1:=vJ hb1;clear C6 h1 h2 h4 h5 hb1;go_enter Tryz.func198,Tryz.ntmps198
           go_wp2_with (first
            |(go_at_call 208;(with_reducible refine(K1.out _).mono ?_);rintro e w' ⟨rfl,rfl⟩)
            |(go_at_call 208;(with_reducible refine(K2.out _).mono ?_);rintro e w' ⟨rfl,rfl⟩)
            |(go_at_call 203;refine(K3.out _).mono ?_;rintro e w2 ⟨rfl,hb2⟩;obtain⟨c0,c1⟩:=HR.out _ hb2;have hb02:=HB1.out.trans (hb2.mono HB1.out.size))
            |(go_at_call 211;refine(K4.out _).mono ?_;rintro e w3 ⟨rfl,hb3⟩;obtain⟨c30,c31⟩:=HR.out _ (hb2.trans (hb3.mono hb2.size))))
           go_ret2;exact⟨rfl,hb02.trans (hb3.mono hb02.size)⟩
       . have K3:=vJ (JB i j A h4)
         have HB1:=vJ hb1;clear C6 h1 h2 h4 hb1;go_enter Tryz.func198,Tryz.ntmps198
         go_wp2_with (first
          |(go_at_call 208;(with_reducible refine(K1.out _).mono ?_);rintro e w' ⟨rfl,rfl⟩)
          |(go_at_call 208;(with_reducible refine(K2.out _).mono ?_);rintro e w' ⟨rfl,rfl⟩)
          |(go_at_call 203;refine(K3.out _).mono ?_;rintro e w2 ⟨rfl,hb2⟩))
         go_ret2;exact⟨rfl,HB1.out.trans (hb2.mono HB1.out.size)⟩
section
variable {w:C}{P:Nat->Prop}{d p:Aq}{X:XSt}{O D:List (Int × Int)}{k:Nat}
structure TakeK (w:C) (p:Aq) (O:List (Int × Int)) (a m:Nat) (g i j:Int) (P:Nat->Prop):Prop where
 f1:∀ W:C,AA Ae 208 #[J Y (64*(a:Int))] W fun e w'=>e=Ag (A1 A)/\W=w'
 f2:∀ W:C,AA Ae 208 #[J Y (64*(m:Int))] W fun e w'=>e=Ag (A1 A)/\W=w'
 fr:∀ W:C,AA Ae 203 #[BD #[J .u16 i,J .u16 j]] W fun e w'=>e=Ag (A1 AI)/\At W.heap.size W w'
 fo:∀ W:C,AA Ae 211 #[BD #[J .u16 i,J .u16 j]] W fun e w'=>e=Ag (A1 A)/\At W.heap.size W w'
 us:∀ W:C,At w.heap.size w W->AA Ae 212 #[p,J Y (64*(a:Int))] W fun e w'=>e=Ag (AO #[J Y (Dm O (64*a)),J Y 0])/\At W.heap.size W w'
 op:∀ W:C,AA Ae 213 #[J Y (64*(m:Int))] W fun e w'=>e=Ag (J Y (62*(m:Int)-42))/\W=w'
 fi:∀ W:C,At w.heap.size w W->AA Ae 214 #[p,J Y (64*(m:Int)),J Y g] W fun e w'=>e=Ag (AO #[J Y (Hk O (64*m) (Hl (64*m) g)),J Y 0])/\At W.heap.size W w'
theorem o_(h:SInv w P d p X)(hH:Has X.cur O k)(hO:OOk O k){a m:Nat}(hm1:1<=m)(uL:m<=a)(XU:a<=k)(g:Int){i j:Int}(hi:0<=i/\i<=65535)(hj:0<=j/\j<=65535)(hf:GF i j=A)(h0:i≠0):TakeK w p O a m g i j P:=by
 have h12:=hO.k12
 exact⟨fun W=>G7 a (by omega) (by omega) W,fun W=>G7 m hm1 (by omega) W,JB i j AI (by rw[Pw,show(i==0)=AI by simpa using h0];rfl),H9 i j hi hj A hf,
  fun W hb=>Zw (h.low hb) hH hO (by omega) XU,fun W=>SU m hm1 (by omega) W,fun W hb=>ZD (h.low hb) hH hO hm1 (by omega) g⟩
theorem Xj(h:SInv w P d p X)(hH:Has X.cur O k)(hO:OOk O k){a m:Nat}(hm1:1<=m)(uL:m<=a)(XU:a<=k)(g:Int){i j:Int}(hi:0<=i/\i<=65535)(hj:0<=j/\j<=65535)(hf:GF i j=A)(h0:i≠0)(h6:i≠65535)(hc:62*(m:Int)-42<=Dm O (64*a)):
 AA Ae 198 #[p,J Y (64*(a:Int)),J Y (64*(m:Int)),J Y g,BD #[J .u16 i,J .u16 j]] w fun e w'=>e=Ag (AO #[J Y 0,J Y 13])/\At w.heap.size w w':=by
 have h12:=hO.k12;have K:=vJ (o_ h hH hO hm1 uL XU g hi hj hf h0);have HR:=vJ (fun(W:C) (hb:At (w.alloc (Ar #[J .u16 i,J .u16 j] 165)).heap.size (w.alloc (Ar #[J .u16 i,J .u16 j] 165)) W)=>show W.cell? ⟨w.heap.size,0,H⟩=T (J .u16 i)/\W.cell? ⟨w.heap.size,1,H⟩=T (J .u16 j) from⟨Az _ _ _ _ _ _ (BA (Aw w _) hb),Az _ _ _ _ _ _ (BA (Aw w _) hb)⟩);have HB1:=vJ (Ay w (Ar #[J .u16 i,J .u16 j] 165));have rk:(i==65535)=AI:=by simpa using h6
 have hma':¬ (64*(a:Int)<64*(m:Int)):=by omega
 obtain⟨U,hU⟩:=nm (Dm O (64*a));have KU:Hid (∀ W:C,At w.heap.size w W->AA Ae 212 #[p,J Y (64*(a:Int))] W fun e w'=>e=Ag (AO #[J Y U,J Y 0])/\At W.heap.size W w'):=vJ (by rw[hU];exact K.out.us);rw[<- hU] at hc;clear h hH hO hi hj hf h0 h6 hU hm1 XU h12;go_enter Tryz.func198,Tryz.ntmps198
 go_wp2_with (first
  |(go_at_call 208;(with_reducible refine(K.out.f1 _).mono ?_);rintro e w' ⟨rfl,rfl⟩)
  |(go_at_call 208;(with_reducible refine(K.out.f2 _).mono ?_);rintro e w' ⟨rfl,rfl⟩)
  |(go_at_call 203;refine(K.out.fr _).mono ?_;rintro e w2 ⟨rfl,hb2⟩;obtain⟨c0,c1⟩:=HR.out _ hb2;have hb02:=HB1.out.trans (hb2.mono HB1.out.size))
  |(go_at_call 211;refine(K.out.fo _).mono ?_;rintro e w3 ⟨rfl,hb3⟩;obtain⟨c30,c31⟩:=HR.out _ (hb2.trans (hb3.mono hb2.size));have hb03:=hb02.trans (hb3.mono hb02.size))
  |(go_at_call 212;refine(KU.out _ hb03).mono ?_;rintro e w4 ⟨rfl,hb4⟩;have hb04:=hb03.trans (hb4.mono hb03.size))
  |(go_at_call 213;refine(K.out.op _).mono ?_;rintro e w' ⟨rfl,rfl⟩))
 go_ret2;exact⟨rfl,hb04⟩
end
section
variable {w:C}{P:Nat->Prop}{d p:Aq}{X:XSt}{O D:List (Int × Int)}{k:Nat}
theorem ZQ(h:SInv w P d p X)(hw:X.wi=A)(hp0:X.put.length<=35)(hH:Has X.call O k)(hO:OOk O k){a m:Nat}(hm1:1<=m)(uL:m<=a)(XU:a<=k)(g:Int){i j:Int}(hi:0<=i/\i<=65535)(hj:0<=j/\j<=65535)(hf:GF i j=A)(h0:i≠0)(h6:i≠65535){f:Nat}
 (hc:(Dm O (64*a):Int)<62*(m:Int)-42) (tE:f<64*m) (hfs:Hk O (64*m) (Hl (64*m) g)=f) (IF:CJ (f:Int)=AI):
 AA Ae 198 #[p,J Y (64*(a:Int)),J Y (64*(m:Int)),J Y g,BD #[J .u16 i,J .u16 j]] w fun e w'=>e=Ag (AO #[J Y f,J Y 0])/\∃ P',SInv w' P' d p (IJ X (f / 64) (Fa (O.set f (i,j)) (f / 64)))/\Chg P P' w w':=by
 have h12:=hO.k12;have LH:X.cur=X.call:=by unfold XSt.cur;rw[AC hw]
 have hH':Has X.cur O k:=by rw[LH];exact hH
 have K:=vJ (o_ h hH' hO hm1 uL XU g hi hj hf h0);have HR:=vJ (fun(W:C) (hb:At (w.alloc (Ar #[J .u16 i,J .u16 j] 165)).heap.size (w.alloc (Ar #[J .u16 i,J .u16 j] 165)) W)=>show W.cell? ⟨w.heap.size,0,H⟩=T (J .u16 i)/\W.cell? ⟨w.heap.size,1,H⟩=T (J .u16 j) from⟨Az _ _ _ _ _ _ (BA (Aw w _) hb),Az _ _ _ _ _ _ (BA (Aw w _) hb)⟩);have HB1:=vJ (Ay w (Ar #[J .u16 i,J .u16 j] 165));have rk:(i==65535)=AI:=by simpa using h6
 have hma':¬ (64*(a:Int)<64*(m:Int)):=by omega
 obtain⟨U,hU⟩:=nm (Dm O (64*a));have KU:Hid (∀ W:C,At w.heap.size w W->AA Ae 212 #[p,J Y (64*(a:Int))] W fun e w'=>e=Ag (AO #[J Y U,J Y 0])/\At W.heap.size W w'):=vJ (by rw[hU];exact K.out.us);have KFi:Hid (∀ W:C,At w.heap.size w W->AA Ae 214 #[p,J Y (64*(m:Int)),J Y g] W fun e w'=>e=Ag (AO #[J Y f,J Y 0])/\At W.heap.size W w'):=vJ (by rw[<- hfs];exact K.out.fi);have KS:Hid (∀ W:C,At w.heap.size w W->AA Ae 204 #[p,J Y f,BD #[J .u16 i,J .u16 j]] W fun e w'=>e=Ag (J Y 0)/\∃ P',SInv w' P' d p (IJ X (f / 64) (Fa (O.set f (i,j)) (f / 64)))/\Chg P P' W w'):=vJ fun W hb=>SQ (h.low hb) hw hp0 hH hO (by omega) IF hi hj hf h6
 rw[<- hU] at hc;have hc':¬ (62*(m:Int)-42<=(U:Int)):=by omega
 clear h hw hp0 hH hH' LH hO hi hj hf h0 h6 hU hm1 XU h12 tE hfs IF;go_enter Tryz.func198,Tryz.ntmps198
 go_wp2_with (first
  |(go_at_call 208;(with_reducible refine(K.out.f1 _).mono ?_);rintro e w' ⟨rfl,rfl⟩)
  |(go_at_call 208;(with_reducible refine(K.out.f2 _).mono ?_);rintro e w' ⟨rfl,rfl⟩)
  |(go_at_call 203;refine(K.out.fr _).mono ?_;rintro e w2 ⟨rfl,hb2⟩;obtain⟨c0,c1⟩:=HR.out _ hb2;have hb02:=HB1.out.trans (hb2.mono HB1.out.size))
  |(go_at_call 211;refine(K.out.fo _).mono ?_;rintro e w3 ⟨rfl,hb3⟩;have hb13:=hb2.trans (hb3.mono hb2.size);obtain⟨c30,c31⟩:=HR.out _ hb13;have hb03:=hb02.trans (hb3.mono hb02.size))
  |(go_at_call 212;refine(KU.out _ hb03).mono ?_;rintro e w4 ⟨rfl,hb4⟩;have hb14:=hb13.trans (hb4.mono hb13.size);have hb04:=hb03.trans (hb4.mono hb03.size))
  |(go_at_call 213;refine(K.out.op _).mono ?_;rintro e w' ⟨rfl,rfl⟩)
  |(go_at_call 214;refine(KFi.out _ hb04).mono ?_;rintro e w5 ⟨rfl,hb5⟩;have hb15:=hb14.trans (hb5.mono hb14.size);obtain⟨c50,c51⟩:=HR.out _ hb15;have ig:=hb04.trans (hb5.mono hb04.size))
  |(go_at_call 204;refine(KS.out _ ig).mono ?_;rintro e w6 ⟨rfl,P6,hi6,hc6⟩))
 go_ret2;exact⟨rfl,P6,hi6,(Chg.of_below ig).trans hc6⟩
end
end
section
open Go.RowKit
def Xg(G:List (List Int))(n:Nat):Nat->List (List Int)
 |0=>AD n zb
 |k+1=>if (G.getD k []).length=256 then (Xg G n k).set k (G.getD k []) else Xg G n k
theorem Fr(G:List (List Int))(n:Nat):∀ k,(Xg G n k).length=n
 |0=>A4
 |k+1=>by unfold Xg;split;· rw[AJ];exact Fr G n k
          . exact Fr G n k
theorem Nk(G:List (List Int))(n:Nat):∀ k i,i<n->k<=n->(Xg G n k).getD i []=if i<k/\(G.getD i []).length=256 then G.getD i [] else zb
 |0,i,hi,_=>by rw[AE (by omega)];unfold Xg;rw[An,BF,AC hi];rfl
 |k+1,i,hi,hk=>by
  have ih:=Nk G n k i hi (by omega);have hl:=Fr G n k;unfold Xg;by_cases h:(G.getD k []).length=256
  . rw[AC h,BM.getD_set _ _ _ _ _ (by omega),ih]
    by_cases e:i=k
    . rw[AC e,e,AC ⟨by omega,h⟩]
    . rw[AE e]
      by_cases hc:i<k/\(G.getD i []).length=256
      . rw[AC hc,AC ⟨by omega,hc.2⟩]
      . rw[AE hc,AE (fun h2=>hc ⟨by omega,h2.2⟩)]
  . rw[AE h,ih]
    by_cases hc:i<k/\(G.getD i []).length=256
    . rw[AC hc,AC ⟨by omega,hc.2⟩]
    . rw[AE hc,AE (fun h2=>?_)]
      by_cases e:i=k
      . rw[e] at h2;exact h h2.2
      . exact hc ⟨by omega,h2.2⟩
theorem fC(g:Int)(L:List Bool)(h:L.length=64):(GI g L).length=256:=by rw[GI];exact Dt _ (by rw[N7 _ _ h];decide)
theorem mw{G:List (List Int)}{O:List (Int × Int)}{kk:Nat}(h:P2 G O kk kk)(hO:O.length=64*kk):Has (Xg G (64*kk) (64*kk)) O kk:=by
 refine⟨Fr _ _ _,fun g hg=>?_,fun g hg=>?_⟩
 . have hin:=JL hg
   have h1:=(h.ds g hg).1;rw[Nk _ _ _ _ (by omega) (AB _),AC ⟨by omega,by rw[h1];exact fC _ _ (EZ _ _)⟩,h1]
 . have hin:=JL hg
   have h1:=(h.ds g hg).2;rw[Nk _ _ _ _ (by omega) (AB _),AC ⟨by omega,by rw[h1];exact JQ (FZ hO hg)⟩,h1]
theorem mT{G:List (List Int)}{kk:Nat}(h:New3 G kk)(h1:1<=kk)(h2:kk<=12):Tab (Xg G (64*kk) (64*kk)) (Ed kk) newN:=by
 have e:∀ i,i<64->(G.getD i []).length=256->(Xg G (64*kk) (64*kk)).getD i []=G.getD i []:=fun i hi hl=>by
  rw[Nk _ _ _ _ (by omega) (AB _),AC ⟨by omega,hl⟩]
 refine New3.tab ⟨fun t ht=>?_,?_,?_⟩ h1 h2 (Fr _ _ _)
 . rw[e _ (by omega) (by rw[h.t t ht];exact Q6 _)];exact h.t t ht
 . rw[e _ (by decide) (by rw[h.g0];exact W7)];exact h.g0
 . rw[e _ (by decide) (by rw[h.g63];exact W7)];exact h.g63
theorem nt{G:List (List Int)}{O:List (Int × Int)}{kk:Nat}(h:P2 G O kk kk)(h1:1<=kk):Jst (64*kk) (Xg G (64*kk) (64*kk)) (Xg G (64*kk) (64*kk)):=by
 refine⟨Fr _ _ _,Fr _ _ _,Ba ⟨rfl,?_,fun _ _ _=>rfl⟩⟩;rw[Nk _ _ _ _ (by omega) (AB _),h.jr 42 (by decide) (by decide)];split <;> rfl
theorem BBa.cellAt{w:C}{P:Nat->Prop}{g n cap k:Nat}{L:List (List Int)}(h:BBa w P (Ak (T ⟨g,0,H⟩) n cap) L)(hk:k<L.length):∃ u,w.cell? ⟨g,k,H⟩=T u/\BSl w u (L.getD k []):=by
 rcases h with⟨e,_⟩| ⟨a,cap',e,_,hc⟩
 . cases e
 . injection e with e1 _ _
   injection e1 with e1
   subst e1;obtain⟨_,_,u,h3,h4,_⟩:=hc k hk;exact⟨u,by simpa using h3,h4⟩
theorem YQ{kk:Nat}(h1:1<=kk)(h2:kk<=12)(w:C):AA Ae 8 #[J Y (64*(kk:Int)),J Y (64*(kk:Int))] w fun e w'=>∃ b P d G ds,e=Ag (Am (T ⟨b,0,H⟩))/\SInv w' P d (Am (T ⟨b,0,H⟩)) ⟨G,G,[],[],AI,0,ds⟩/\ds.fu=AI/\Has G (FE kk) kk/\Tab G (Ed kk) newN/\(∀ x,P x->w.heap.size<=x)/\At w.heap.size w w':=by
 have KN:=vJ (fun(W:C)=>vr W (64*kk) (by omega));rw[show((64*kk:Nat):Int)=64*(kk:Int) by omega] at KN;have KFr:=vJ (fun(W:C)=>dU h1 h2 W);go_enter Tryz.func8,Tryz.ntmps8
 go_wp2_with (first
  |(go_at_call 25;refine(KN.out _).mono ?_;rintro e w1 ⟨d,P,rfl,hd1,hP1,hb1⟩)
  |(go_at_call 26;refine(KFr.out _).mono ?_;rintro e w2 ⟨v,G,rfl,hG,hP2,hN3,hb2⟩;have Vt:=hd1.below hb2;have uM:=hG.apart Vt;obtain⟨gv,cv,ev,_,_⟩:=BB2.shape0 hG.bb2 (by rw[hP2.len];omega);rw[hP2.len] at ev;subst ev))
 have HD0:Hid (Dk w2 P d ⟨Xg G (64*kk) 0,[],AI,0,AI⟩):=vJ Vt;have HC0:Hid (Chg P P w2 w2):=vJ (Chg.refl _ _);have HBA:=vJ uM;have HP2:=vJ hP2;have HN3:=vJ hN3;have HPW:=vJ hP1;have HB2:Hid (At w.heap.size w w2):=vJ (hb1.trans (hb2.mono hb1.size));clear hd1 hP1 hb1 hG hP2 hN3 hb2 Vt uM KN KFr;go_loopw [17] (fun i WI=>∃ k:Nat,k<=64*kk/\i=J Y k/\Hid (Dk WI P d ⟨Xg G (64*kk) k,[],AI,0,AI⟩)/\Hid (Chg P P w2 WI)) (fun i _=>64*kk-(intOf i).toNat)
 case atStart=>exact⟨0,by omega,rfl,HD0,HC0⟩
 case round=>
  obtain⟨k,hk,rfl,HD,HC⟩:=hrel;clear HD0 HC0;by_cases hlt:k<64*kk
  . have ekt:(k:Int)<64*(kk:Int):=by omega
    obtain⟨u,hu,hs⟩:=(HBA.out.chg HC.out).cellAt (k:=k) (by rw[HP2.out.len];exact hlt);have KD:=vJ (nR HD.out rfl (n:=k) (by show k<(Xg G (64*kk) k).length;rw[Fr];exact hlt) hs);clear hs;go_wp2_with (go_at_call 27;refine KD.out.mono ?_;rintro e w3 ⟨⟨x,rfl⟩,cy,hc3⟩)
    have HD3:Hid (Dk w3 P d ⟨Xg G (64*kk) (k+1),[],AI,0,AI⟩):=vJ cy;have HC3:=vJ (HC.out.trans hc3);clear cy hc3;go_roundw
    case rel=>exact⟨k+1,by omega,by go_num,HD3,HC3⟩
    case measure=>simp[intOf];omega
  . obtain rfl:k=64*kk:=by omega
    have KO:=vJ (WO HD.out (n:=64*kk) (G:=Xg G (64*kk) (64*kk)) (by omega) (by omega) rfl rfl (nt HP2.out h1));have hdl:=HD.out.lt;go_wp2_with (go_at_call 28;refine KO.out.mono ?_;rintro e w4 (⟨p,ds',P4,rfl,Mc,hI,hc4⟩| ⟨hf,_⟩);rotate_left;exact absurd hf (by decide);obtain⟨bb,rfl⟩:=landed.ptr hI)
    go_ret;refine⟨bb,P4,d,_,ds',rfl,hI,Mc,mw HP2.out (CL _ _),mT HN3.out h1 h2,fun x hx=>?_,?_⟩
    . rcases M9 hc4 hx with h|h
      . exact HPW.out x h
      . have h3:=HB2.out.size
        have h4:=HC.out.size;omega
    . have GN:=HB2.out.size
      have b1:At w.heap.size w2 wr:=HC.out.below fun x hx=>⟨by omega,fun hp=>by have:=HPW.out x hp;omega⟩
      have hw3:=HC.out.size;have b2:At w.heap.size wr w4:=hc4.below fun x hx=>⟨by omega,fun hp=>by have:=HPW.out x hp;omega⟩
      exact(HB2.out.trans b1).trans b2
def PM(P M:Nat->Prop)(k:Nat):Prop:=P k\/M k
theorem Chg.pm{w w':C}{P P':Nat->Prop}(h:Chg P P' w w')(M:Nat->Prop):Chg (PM P M) (PM P' M) w w':=⟨h.os,h.tape,h.output,h.size,fun k hk hn=>⟨(h.keep k hk fun e=>hn (z e)).1,fun e=>e.elim (fun e=>(h.keep k hk fun e=>hn (z e)).2 e) fun e=>hn (Ba e)⟩⟩
theorem Chg.mp{w w':C}{M:Nat->Prop}(h:Chg M M w w')(P:Nat->Prop):Chg (PM P M) (PM P M) w w':=⟨h.os,h.tape,h.output,h.size,fun k hk hn=>⟨(h.keep k hk fun e=>hn (Ba e)).1,hn⟩⟩
def Kx(X:XSt):XSt:={ X with call:=X.is,put:=[],wi:=A }
section
variable {w0 w:C}{P M:Nat->Prop}{d p r:Aq}{X:XSt}{n:Int}{O O2:List (Int × Int)}{kk:Nat}
theorem Jv{P':Nat->Prop}{w':C}(hb:At w0.heap.size w0 w)(hP:∀ x,P x->w0.heap.size<=x)(hc:Chg P P' w w'):At w0.heap.size w0 w'/\∀ x,P' x->w0.heap.size<=x:=by
 have hs:=hb.size;refine⟨hb.trans (hc.below fun x hx=>⟨by omega,fun hp=>by have:=hP x hp;omega⟩),fun x hx=>?_⟩;rcases M9 hc hx with h|h
 . exact hP x h
 . omega
end
theorem iy(x:Int)(h0:0<=x)(h1:x<=65535)(w:C):AA Ae 158 #[Ak H 0 0,J .u64 x,J Y 2] w (JZ w (BN x 2)):=
 FX (IL w) (by simp) x 2 2 (by omega) (by omega) rfl h0 (by omega)
theorem sw{w:C}{v:Aq}{l:List Int}(hs:ISl w v l)(hl:l.length=128)(h:FP l=AI):AA Ae 176 #[v] w fun e w'=>e=Ag (AO #[Ak H 0 0,J Y 1])/\w=w':=by
 have HA:=vJ (IY hs (by omega) AI h);obtain⟨ao,cap,rfl⟩:=hs.shape;rw[hl] at HA |-
 clear hs h hl;go_enter Tryz.func176,Tryz.ntmps176;go_wp2_with (go_at_call 123;refine HA.out.mono ?_;rintro e w' ⟨rfl,rfl⟩)
 go_ret2;exact⟨rfl,rfl⟩
theorem gV{w:C}{v:Aq}{l:List Int}(hs:ISl w v l)(hl:l.length=128)(h:FP l=A):AA Ae 176 #[v] w fun e w'=>∃ u,e=Ag (AO #[u,J Y 0])/\OB w' w.heap.size u (FO l)/\At w.heap.size w w':=by
 have HA:=vJ (IY hs (by omega) A h);obtain⟨b,off,cap,rfl,hb,hc⟩:=hs.at (by omega);have HLO:=vJ ((Ft l).1 h);obtain⟨M,Oj⟩:∃ M:Nat,M=256:=⟨_,rfl⟩;have HMI:Hid ((256:Int)=(M:Int)):=vJ (by omega);have TT:M<=1000:=by omega
 rw[hl] at HA hc HLO |-
 have HC:=vJ hc;clear hs h hc hl Oj;go_enter Tryz.func176,Tryz.ntmps176
 go_wp2_with (first
  |(go_at_call 123;refine HA.out.mono ?_;rintro e w' ⟨rfl,rfl⟩)
  |(at_make;refine DC _ rfl _ _ rfl 0 256 0 M rfl rfl rfl HMI.out (AX _) (by omega) ?_))
 have HOB3:=vJ (Uf w M TT);have O9:At w.heap.size w (w.alloc (Ar (A3 M (J .u8 0)) 5)):=Ay _ _;generalize w.alloc (Ar (A3 M (J .u8 0)) 5)=w3 at HOB3 O9 |-
 go_loopw [4,18] (fun u i wr=>∃ k:Nat,k<=128/\i=J Y k/\Hid (OB wr w.heap.size u (O4 l k))/\At w.heap.size w wr) (fun _ i _=>128-(intOf i).toNat)
 case atStart=>exact⟨0,by omega,rfl,HOB3,O9⟩
 case round=>
  obtain⟨k,hk,rfl,HOB,hbr⟩:=hrel;clear HOB3 O9;by_cases hlt:k<128
  . have hck:=(hbr.cell (p:=⟨b,off+k,H⟩) hb).trans (HC.out k hlt)
    have hbd:=inB_iff.1 (HLO.out k hlt);have aA:O4 l (k+1)=O4 l k ++ BN (l.getD k 0) 2:=rfl;obtain⟨x,hx⟩:=nm (l.getD k 0);rw[<- hx] at hck hbd aA;have ek:(k:Int)<128:=(by omega);have HPK:=vJ aA;have HL:=vJ (Ge l k);obtain⟨x0,x1⟩:=hbd;clear hx aA
    go_wp2_with (first
     |(go_at_call 158;(with_reducible refine(iy x x0 (by omega) _).mono ?_);rintro e w4 ⟨v4,rfl,hob4,hb4⟩
       have HB4:=vJ (hbr.trans (hb4.mono hbr.size)))
     |(at_builtin
       refine BY w4 rfl _ _ rfl w.heap.size _ (O4 l k) rfl (HOB.out.below hb4) w4 v4 (BN x 2) rfl hob4.bsl (fun _ _=>rfl) (by rw[HL.out,Bc];omega) HB4.out.size ?_;intro v5 w5 hob5 hb5 _))
    go_roundw
    case rel=>exact⟨k+1,by omega,by go_num,by show OB _ _ _ (O4 l (k+1));rw[HPK.out];exact hob5,HB4.out.trans hb5⟩
    case measure=>simp[intOf];omega
  . obtain rfl:k=128:=by omega
    go_wp2;go_ret2;exact⟨_,rfl,HOB.out,hbr⟩
theorem dF{w:C}{v:Aq}{l:List Int}(hs:BSl w v l)(hl:l.length=256):AA Ae 187 #[v] w fun e w'=>(mo l/\e=Ag (AO #[Ak (T ⟨w.heap.size,0,H⟩) 128 128,J Y 0])/\w'.heap[w.heap.size]? =T (iO (XQ l 128) 3)/\At w.heap.size w w')\/
 (¬ mo l/\e=Ag (AO #[Ak H 0 0,J Y 18])/\At w.heap.size w w'):=by
 obtain⟨ao,cap,rfl,_⟩:=hs.shape;obtain⟨M,Oj⟩:∃ M:Nat,M=128:=⟨_,rfl⟩;have HMI:Hid ((128:Int)=(M:Int)):=vJ (by omega);have TT:M<=1000:=by omega
 have HM:=vJ Oj;have HS:=vJ hs;have HL:=vJ hl;rw[hl] at HS |-
 clear Oj hs hl;go_enter Tryz.func187,Tryz.ntmps187;go_wp2_with (at_make;refine Kb _ rfl _ _ rfl _ M rfl rfl HMI.out (by omega) ?_)
 have hz:(w.alloc (iO (AD M 0) 3)).heap[w.heap.size]? =T (iO (I6 l M 0) 3):=by
  rw[V7];exact Aw w _
 have hb2:At w.heap.size w (w.alloc (iO (AD M 0) 3)):=Ay _ _;have En:w.heap.size<(w.alloc (iO (AD M 0) 3)).heap.size:=by simp
 generalize w.alloc (iO (AD M 0) 3)=w2 at hz hb2 En |-
 have HZ:=vJ hz;clear hz;go_loopw [14] (fun i wr=>∃ k:Nat,k<=M/\i=J Y k/\Hid (wr.heap[w.heap.size]? =T (iO (I6 l M k) 3))/\At w.heap.size w wr) (fun i _=>M-(intOf i).toNat)
 case atStart=>exact⟨0,by omega,rfl,HZ,hb2⟩
 case round=>
  obtain⟨k,hk,rfl,HR,hbr⟩:=hrel;clear HZ hb2 En;by_cases hlt:k<M
  . have ekM:(k:Int)<(M:Int):=by omega
    have hk128:k<128:=(by have:=HM.out;omega);have hsr:=HS.out.below hbr;have T1:=Ri hsr (by rw[HL.out];decide) (2*k) 2 ((k:Int)*2) 2 (by push_cast;omega) rfl (by omega) (by omega) (by rw[HL.out];omega) _ rfl;have b1:=i5 (CZ hsr.1) (2*k);have M4:=ZL l M k;obtain⟨x,hx⟩:=nm (Cc l (2*k) 2);rw[<- hx] at T1 b1 M4;have H1:=vJ T1;have ck:=GC HR.out k (by rw[GP];exact hlt);have fk:=Qm HR.out k;have hw6:=Wrote.setCell wr w.heap.size k (J Y x);have hr6:=Vb HR.out k x;rw[M4] at hr6;have HR6:=vJ hr6;have HB6:=vJ (hbr.trans (hw6.below (AB _)));obtain⟨b10,b11⟩:=b1;clear T1 hx hsr M4 hr6 hw6;go_wp2_with (go_at_call 181;(with_reducible refine H1.out.mono ?_);rintro e w3 ⟨rfl,rfl⟩)
    go_roundw
    case rel=>exact⟨k+1,by omega,by go_num,HR6.out,HB6.out⟩
    case measure=>simp[intOf];omega
  . have hr:=HR.out
    have hkM:k=M:=(by omega);rw[hkM,XB] at hr;have hob:=IR.of_row (B:=w.heap.size) (AB _) hr (by rw[IC];simp only[maxLen];omega);rw[IC] at hob;have hob2:ISl wr (Ak (T ⟨w.heap.size,0,H⟩) M M) (XQ l 128):=by
     have:=hob.sl;rw[show XQ l 128=XQ l M by rw[HM.out]];exact this
    have HOB:Hid (wr.heap[w.heap.size]? =T (iO (XQ l 128) 3)):=vJ (by rw[show XQ l 128=XQ l M by rw[HM.out]];exact hr);have HBR:=vJ hbr;clear hr hob;cases hf:FP (XQ l 128)
    all_goals
     have HF:=vJ hf;have HA:=vJ (IY hob2 (by rw[IC];decide) _ hf);clear hf hob2
    . go_wp2_with (go_at_call 123;refine HA.out.mono ?_;rintro e w3 ⟨rfl,rfl⟩)
      go_ret2;exact Ba ⟨(fun h=>by have h2:=h.2;rw[HF.out] at h2;cases h2),rfl,hbr⟩
    . go_wp2_with (go_at_call 123;refine HA.out.mono ?_;rintro e w3 ⟨rfl,rfl⟩)
      go_ret2;exact z ⟨⟨HL.out,HF.out⟩,by rw[HM.out];rfl,HOB.out,hbr⟩
end
section
open Go.RowKit BM
def XP(bf n:Nat)(x:List Int)(fv:Aq):List Aq:=Am (T ⟨bf,0,H⟩) :: J Y (n:Nat) :: (iC x ++ [fv])
def ChAt(w:C)(bc bf n:Nat)(x:List Int)(fv:Aq):Prop:=x.length=14/\fv.oneCell'=A/\w.heap[bc]? =T (Ar (XP bf n x fv).toArray 213 (0,0))
theorem mW{bf n:Nat}{x:List Int}{fv:Aq}(hx:x.length=14){k:Nat}(hk:k<14):(XP bf n x fv)[2+k]? =T (J Y (num x k)):=by
 unfold XP num;rw[show 2+k=k+1+1 by omega,List.getElem?_cons_succ,List.getElem?_cons_succ,BT (by rw[Cx];omega)];simp[iC,hx,hk]
theorem ny{bf n:Nat}{x:List Int}{fv:Aq}(hx:x.length=14):(XP bf n x fv)[16]? =T fv:=by
 unfold XP;rw[show 16=14+1+1 by rfl,List.getElem?_cons_succ,List.getElem?_cons_succ,BG (by rw[Cx];omega),Cx,hx];rfl
theorem nK{bf n:Nat}{x:List Int}{fv:Aq}(hx:x.length=14){k:Nat}(hk:k<14)(v:Int):(XP bf n x fv).set (2+k) (J Y v)=XP bf n (x.set k v) fv:=by
 unfold XP;rw[show 2+k=k+1+1 by omega,Au,Au,List.set_append_left _ _ (by rw[Cx];omega)];simp[iC,List.map_set]
theorem iL{bf n:Nat}{x:List Int}{fv:Aq}(hx:x.length=14)(u:Aq):(XP bf n x fv).set 16 u=XP bf n x u:=by
 unfold XP;rw[show 16=14+1+1 by rfl,Au,Au,List.set_append_right _ _ (by rw[Cx];omega),Cx,hx];rfl
section
variable {w:C}{bc bf n:Nat}{x:List Int}{fv:Aq}
theorem ChAt.lt(h:ChAt w bc bf n x fv):bc<w.heap.size:=(Al.1 h.2.2).1
theorem ChAt.low{w':C}(h:ChAt w bc bf n x fv)(hb:At w.heap.size w w'):ChAt w' bc bf n x fv:=⟨h.1,h.2.1,BA h.2.2 hb⟩
theorem ChAt.chg{w':C}{P P':Nat->Prop}(h:ChAt w bc bf n x fv)(hc:Chg P P' w w')(hn:¬ P bc):ChAt w' bc bf n x fv/\¬ P' bc:=by
 have:=hc.keep bc h.lt hn;exact⟨⟨h.1,h.2.1,this.1.trans h.2.2⟩,this.2⟩
theorem ChAt.cell(h:ChAt w bc bf n x fv){j:Nat}{v:Aq}(hv:(XP bf n x fv)[j]? =T v):w.cell? ⟨bc,j,H⟩=T v:=by
 rw[Az _ _ _ _ _ _ h.2.2];simpa using hv
theorem ChAt.c0(h:ChAt w bc bf n x fv):w.cell? ⟨bc,0,H⟩=T (Am (T ⟨bf,0,H⟩)):=h.cell rfl
theorem ChAt.c1(h:ChAt w bc bf n x fv):w.cell? ⟨bc,1,H⟩=T (J Y (n:Nat)):=h.cell rfl
theorem ChAt.num(h:ChAt w bc bf n x fv){k:Nat}(hk:k<14):w.cell? ⟨bc,2+k,H⟩=T (J Y (num x k)):=h.cell (mW h.1 hk)
theorem ChAt.cm(h:ChAt w bc bf n x fv):w.cell? ⟨bc,15,H⟩=T (J Y (Go.Proofs.YtdefiimcmecnnaaGreat.num x 13)):=h.num (k:=13) (by decide)
theorem ChAt.cf(h:ChAt w bc bf n x fv):w.cell? ⟨bc,16,H⟩=T fv:=h.cell (ny h.1)
theorem ChAt.free(h:ChAt w bc bf n x fv)(j:Nat):w.frozen? ⟨bc,j,H⟩=AI:=by simp[C.frozen?,h.2.2]
theorem ChAt.rng(h:ChAt w bc bf n x fv):w.rangeAt bc 2 (iC x):=EE h.2.2 (by
 unfold XP;rw[show(2:Nat)=1+1 by rfl,List.drop_succ_cons,List.drop_succ_cons,CP,Dl rfl])
theorem ChAt.setN(h:ChAt w bc bf n x fv){k:Nat}(hk:k<14)(v:Int):ChAt (w.setCell ⟨bc,2+k,H⟩ (J Y v)) bc bf n (x.set k v) fv:=
 ⟨by rw[AJ];exact h.1,h.2.1,by rw[Bs w bc (2+k) _ _ _ h.2.2];simp only[Aj];rw[nK h.1 hk]⟩
theorem ChAt.setF(h:ChAt w bc bf n x fv)(u:Aq)(hu:u.oneCell'=A):ChAt (w.setCell ⟨bc,16,H⟩ u) bc bf n x u:=
 ⟨h.1,hu,by rw[Bs w bc 16 _ _ _ h.2.2];simp only[Aj];rw[iL h.1]⟩
end
def FarA(w:C)(B bc:Nat)(P:Nat->Prop)(fv:Aq)(F:List Int)(bg:Nat):Prop:=F.length=128/\B<=bg/\bg≠bc/\¬ P bg/\fv=Ak (T ⟨bg,0,H⟩) 128 128/\w.heap[bg]? =T (iO F 3)
theorem FarA.isl{w:C}{B bc bg:Nat}{P:Nat->Prop}{fv:Aq}{F:List Int}(h:FarA w B bc P fv F bg):ISl w fv F:=by
 have:=(IR.of_row (B:=bg) (AB _) h.2.2.2.2.2 (by rw[h.1];simp only[maxLen];omega)).sl;rw[h.1] at this;rw[h.2.2.2.2.1];exact this
theorem JU{x:List Int}(h:x.length=14):∃ kd ln sz d0 d1 d2 d3 d4 d5 d6 d7 d8 d9 mp:Int,x=[kd,ln,sz,d0,d1,d2,d3,d4,d5,d6,d7,d8,d9,mp]:=by
 match x,h with
 |[kd,ln,sz,d0,d1,d2,d3,d4,d5,d6,d7,d8,d9,mp],_=>exact⟨kd,ln,sz,d0,d1,d2,d3,d4,d5,d6,d7,d8,d9,mp,rfl⟩
section
variable {w:C}{P:Nat->Prop}{d p:Aq}{X:XSt}{S:List Int}{N:List (List Int)}{bf:Nat}
theorem QL(h:SInv w P d p X)(hf:FsAt w bf p)(hT:Tab X.cur S N){n:Nat}(h1:1<=n)(Bu:n<48)(hk:Ca N n≠0){W:C}(hb:At w.heap.size w W):
 AA Ae 159 #[Am (T ⟨bf,0,H⟩),J Y n] W fun e w'=>∃ bc,e=Ag (AO #[Am (T ⟨bc,0,H⟩),J Y 0])/\W.heap.size<=bc/\ChAt w' bc bf n (N.getD n []) (Ak H 0 0)/\At W.heap.size W w':=by
 have KG0:=GM h hf hT h1 Bu hb;have hx:=hT.n.get Bu;unfold Ca at hk;generalize N.getD n []=x at KG0 hx hk;obtain⟨kd,ln,sz,d0,d1,d2,d3,d4,d5,d6,d7,d8,d9,mp,rfl⟩:=JU hx;have XT:(kd==0)=AI:=by simpa using hk
 have KG:Hid (AA Ae 37 #[Am (T ⟨bf,0,H⟩),J Y n] W fun e w'=>e=Ag (AO #[BD #[J Y kd,J Y ln,J Y sz,J Y d0,J Y d1,J Y d2,J Y d3,J Y d4,J Y d5,J Y d6,J Y d7,J Y d8,J Y d9,J Y mp],J Y 0])/\At W.heap.size W w'):=vJ KG0;clear KG0 h hf hT hb hx hk;go_enter Tryz.func159,Tryz.ntmps159
 go_wp2_with (go_at_call 37;refine KG.out.mono ?_;rintro e w2 ⟨rfl,hb2⟩
              have hb3:=hb2.trans ((Ay w2 (Ar #[J Y kd,J Y ln,J Y sz,J Y d0,J Y d1,J Y d2,J Y d3,J Y d4,J Y d5,J Y d6,J Y d7,J Y d8,J Y d9,J Y mp] 80)).mono hb2.size);have hb4:=Ay (w2.alloc (iO [kd,ln,sz,d0,d1,d2,d3,d4,d5,d6,d7,d8,d9,mp] 80)) (Ar (XP bf n [kd,ln,sz,d0,d1,d2,d3,d4,d5,d6,d7,d8,d9,mp] (Ak H 0 0)).toArray 213);have hr4:=Aw (w2.alloc (iO [kd,ln,sz,d0,d1,d2,d3,d4,d5,d6,d7,d8,d9,mp] 80)) (Ar (XP bf n [kd,ln,sz,d0,d1,d2,d3,d4,d5,d6,d7,d8,d9,mp] (Ak H 0 0)).toArray 213))
 go_ret2;refine⟨_,rfl,AT hb2.size (Nat.le_succ _),⟨rfl,rfl,?_⟩,hb3.trans (hb4.mono hb3.size)⟩;have e:(w2.alloc (iO [kd,ln,sz,d0,d1,d2,d3,d4,d5,d6,d7,d8,d9,mp] 80)).heap.size=w2.heap.size+1:=by simp
 rw[e] at hr4;exact hr4
end
theorem OwAt.outJ{O:List (Int × Int)}{kk:Nat}{v:Int}{o:Int × Int}(h:OwAt O kk v o)(h12:kk<=12):Ei v.toNat:=by
 have hx:=h.2.1;have:=h.1;unfold CJ at hx;have:=BL hx;unfold Ei;omega
section
variable {w:C}{P:Nat->Prop}{d p:Aq}{X:XSt}{S:List Int}{N:List (List Int)}{bf:Nat}
theorem iF{F:List Int}(h:F.length=128/\FP F=A):mo (FO F)/\XQ (FO F) 128=F/\(FO F).length=256:=⟨oh h.1 h.2,jJ h.1 h.2,by rw[FO,Ge]⟩
theorem V5{W:C}{bc n:Nat}{x:List Int}{fv:Aq}(hc:ChAt W bc bf n x fv)(hm:num x 13=0)(hP:∀ k,P k->k<W.heap.size):
 AA Ae 160 #[Am (T ⟨bc,0,H⟩)] W fun e w'=>e=Ag (J Y 0)/\∃ fv bg,ChAt w' bc bf n x fv/\FarA w' W.heap.size bc P fv (AD 128 0) bg/\KeptG W w' bc:=by
 obtain⟨M,hM⟩:∃ M:Nat,M=128:=⟨_,rfl⟩;have HMI:Hid ((128:Int)=(M:Int)):=vJ (by omega);have hm1:=hc.cm;rw[hm] at hm1;have hc2:=hc.low (Ay W (iO (AD M 0) 3));have hr2:=Aw W (iO (AD M 0) 3);have c16:=hc2.cf;have f16:=hc2.free 16;have hlt:=hc.lt;have hc3:=hc2.setF (Ak (T ⟨W.heap.size,0,H⟩) M M) rfl;have hw3:=Wrote.setCell (W.alloc (iO (AD M 0) 3)) bc 16 (Ak (T ⟨W.heap.size,0,H⟩) M M);have HC:=vJ hc3;have HR:=vJ ((hw3.2.2.2.2 W.heap.size (by omega)).trans hr2);have HK:=vJ (((KeptG.refl W bc).then (Ay W (iO (AD M 0) 3))).wrote hw3);have HL:=vJ hlt;have HP:=vJ hP;have HM:=vJ hM;have TT:M<=1000:=by omega
 clear hc hm hc2 hr2 hlt hc3 hw3 hP hM;go_enter Tryz.func160,Tryz.ntmps160;go_wp2_with (at_make;refine Kb _ rfl _ _ rfl _ M rfl rfl HMI.out (by omega) ?_)
 go_ret;have hM:=HM.out;refine⟨rfl,Ak (T ⟨W.heap.size,0,H⟩) M M,W.heap.size,HC.out,⟨by simp,AB _,by have:=HL.out;omega,fun hp=>by have:=HP.out _ hp;omega,by rw[hM],by rw[<- hM];exact HR.out⟩,HK.out⟩
theorem Yd(h:SInv w P d p X)(hf:FsAt w bf p){W:C}(hb:At w.heap.size w W){bc n:Nat}{x F:List Int}{fv:Aq}(hc:ChAt W bc bf n x fv){m:Nat}(hm:num x 13=(m:Int))(FH:m≠0)(ik:m<X.cur.length)(ho:Ei m)(hF:F.length=128/\FP F=A)(hG:X.cur.getD m []=FO F)(hbc:w.heap.size<=bc):
 AA Ae 160 #[Am (T ⟨bc,0,H⟩)] W fun e w'=>e=Ag (J Y 0)/\∃ fv bg,ChAt w' bc bf n x fv/\FarA w' W.heap.size bc P fv F bg/\KeptG W w' bc:=by
 obtain⟨h1,h2,h3⟩:=iF hF;have hlt:=h.lt;have qY:=hc.c0;have LD:=hc.cm;rw[hm] at LD;have cT:((m:Int)==0)=AI:=by simp;omega
 have cb:=(hf.low hb).cell;have hbd:At W.heap.size W W.drew:=(AM _ _).drew;have KG:=vJ (Rf h ik ho hG (hb.trans (hbd.mono hb.size)));have KD:Hid (∀ (V:C) (v:Aq),BSl V v (FO F)->AA Ae 187 #[v] V fun e w'=>e=Ag (AO #[Ak (T ⟨V.heap.size,0,H⟩) 128 128,J Y 0])/\w'.heap[V.heap.size]? =T (iO F 3)/\At V.heap.size V w'):=vJ fun V v hv=>(dF hv h3).mono fun e w' ho=>by
  rcases ho with⟨_,a,b,c⟩| ⟨a,_⟩
  . rw[h2] at b;exact⟨a,b,c⟩
  . exact absurd h1 a
 have HC:Hid (∀ V,At W.heap.size W V->ChAt V bc bf n x fv):=vJ fun V hv=>hc.low hv
 have HL:=vJ hc.lt;have HP:Hid (∀ k,P k->k<W.heap.size):=vJ fun k hk=>AH (hlt k hk) hb.size
 have HF:=vJ hF.1;have d0:W.drew.cell? ⟨bc,0,H⟩=T (Am (T ⟨bf,0,H⟩)):=qY;have d15:W.drew.cell? ⟨bc,15,H⟩=T (J Y (m:Nat)):=LD;have db:W.drew.cell? ⟨bf,0,H⟩=T p:=cb;have HS2:Hid (∀ V,At W.heap.size W V->V.cell? ⟨bc,0,H⟩=T (Am (T ⟨bf,0,H⟩))/\V.cell? ⟨bc,15,H⟩=T (J Y (m:Nat))/\V.cell? ⟨bf,0,H⟩=T p):=vJ fun V hv=>⟨(hc.low hv).c0,by rw[(hc.low hv).cm,hm],(hf.low (hb.trans (hv.mono hb.size))).cell⟩
 clear h hf hb hc hm FH ik ho hF hG hbc h1 h2 h3 hlt hbd;go_enter Tryz.func160,Tryz.ntmps160;go_wp2
 go_region_held3 (fun V=>V.cell? ⟨bc,0,H⟩=T (Am (T ⟨bf,0,H⟩))/\V.cell? ⟨bc,15,H⟩=T (J Y (m:Nat))/\V.cell? ⟨bf,0,H⟩=T p) (first|exact⟨d0,d15,db⟩|exact s2) (first
  |(go_at_call 89;(with_reducible refine KG.out.mono ?_);rintro e w2 ⟨v,rfl,hv,hb2⟩
    have hb02:At W.heap.size W w2:=((AM _ _).drew).trans (hb2.mono (AB _));have s2:=HS2.out _ hb02))
 all_goals
  go_wp2_with (first
   |(go_at_call 187;(with_reducible refine(KD.out _ _ hv).mono ?_);rintro e w3 ⟨rfl,hr3,hb3⟩
     have hb03:=hb02.trans (hb3.mono hb02.size);have hc3:=HC.out _ hb03;have c16:=hc3.cf;have f16:=hc3.free 16;have hw4:=Wrote.setCell w3 bc 16 (Ak (T ⟨w2.heap.size,0,H⟩) 128 128);have HC4:=vJ (hc3.setF (Ak (T ⟨w2.heap.size,0,H⟩) 128 128) rfl);have HR4:=vJ hr3;have HW4:=vJ hw4;have HB3:=vJ hb03;clear hc3 hw4 hr3))
  go_ret;have hl:=HL.out;have h2s:=hb02.size;refine⟨rfl,_,w2.heap.size,HC4.out,⟨HF.out,h2s,by omega,fun hp=>by have:=HP.out _ hp;omega,rfl,(HW4.out.2.2.2.2 _ (by omega)).trans HR4.out⟩,((KeptG.refl W bc).then HB3.out).wrote HW4.out⟩
end
theorem gM{W:C}{bc bf n:Nat}{x:List Int}{fv:Aq}(hc:ChAt W bc bf n x fv){i:Nat}(hi:i<10):
 AA Ae 133 #[Am (T ⟨bc,0,H⟩),J Y i] W fun e w'=>e=Ag (J Y (num x (3+i)))/\W=w':=by
 have c:=hc.num (k:=3+i) (by omega);rw[show 2+(3+i)=5+i by omega] at c;obtain⟨v,hv⟩:=nm (num x (3+i));rw[<- hv] at c |-
 have ei:(i:Int)<10:=by omega
 clear hc hv;go_enter Tryz.func133,Tryz.ntmps133;go_wp2;go_ret;exact⟨rfl,rfl⟩
theorem iH{W:C}{bc bf n B bg:Nat}{P:Nat->Prop}{x F:List Int}{fv:Aq}(hc:ChAt W bc bf n x fv)(hF:FarA W B bc P fv F bg){i:Nat}(Gm:10<=i)(hi:i<138):
 AA Ae 133 #[Am (T ⟨bc,0,H⟩),J Y i] W fun e w'=>e=Ag (J Y (num F (i-10)))/\W=w':=by
 obtain⟨f1,f2,f3,f4,rfl,f6⟩:=hF;have cf:=hc.cf;have c:=GC f6 (i-10) (by omega);obtain⟨v,hv⟩:=nm (num F (i-10));rw[show F.getD (i-10) 0=v by rw[hv];rfl] at c;rw[<- hv];obtain⟨j,hj⟩:=nm (i-10);rw[<- hj] at c;have e1:Y.wrap ((i:Int)-10)=(j:Int):=by rw[A9 _ (by omega)];omega
 have e10:¬ (i:Int)<10:=by omega
 have ej:(j:Int)<128:=by omega
 clear hc f1 f2 f3 f4 f6 hv hj Gm hi;go_enter Tryz.func133,Tryz.ntmps133;go_wp2;go_ret;exact⟨rfl,rfl⟩
theorem Nw{W:C}{bc bf n B:Nat}{P:Nat->Prop}{x F:List Int}{fv:Aq}(hc:ChAt W bc bf n x fv){i:Nat}(hF:10<=i->∃ bg,FarA W B bc P fv F bg)(hi:i<138):
 AA Ae 133 #[Am (T ⟨bc,0,H⟩),J Y i] W fun e w'=>e=Ag (J Y (BJ x F i))/\W=w':=by
 unfold BJ;by_cases h:i<10
 . rw[AC h];exact gM hc h
 . rw[AE h,AE (by omega)]
   obtain⟨bg,hg⟩:=hF (by omega);exact iH hc hg (by omega) hi
def Gt(x F:List Int)(i:Nat):Int:=if i=0\/BJ x F (i-1)=0 then 0 else BJ x F (i-1)+1
theorem df{W:C}{bc bf n B:Nat}{P:Nat->Prop}{x F:List Int}{fv:Aq}(hc:ChAt W bc bf n x fv){i:Nat}(hF:10<=i->∃ bg,FarA W B bc P fv F bg)(hi:i<138)(hbd:0<i->0<=BJ x F (i-1)/\BJ x F (i-1)<=767):
 AA Ae 136 #[Am (T ⟨bc,0,H⟩),J Y i] W fun e w'=>e=Ag (J Y (Gt x F i))/\W=w':=by
 by_cases h0:i=0
 . subst h0
   have e1:Gt x F 0=0:=AC (z rfl);rw[e1];clear hc hF hbd e1;go_enter Tryz.func136,Tryz.ntmps136;go_wp2;go_ret;exact⟨rfl,rfl⟩
 . have KA:=vJ (Nw (i:=i-1) hc (fun h=>hF (by omega)) (by omega))
   obtain⟨v,hv⟩:=nm (BJ x F (i-1));have eg:Gt x F i=if v=0 then 0 else v+1:=by unfold Gt;rw[<- hv];by_cases e:v=0 <;> simp[e,h0]
   have hb:=hbd (by omega);rw[<- hv] at KA hb;rw[eg];obtain⟨j,hj⟩:=nm (i-1);rw[<- hj] at KA;have e1:Y.wrap ((i:Int)-1)=(j:Int):=(by rw[A9 _ (by omega)];omega);have e2:Y.wrap (v+1)=v+1:=A9 _ (by omega);have ei:((i:Int)==0)=AI:=(by simp;omega);clear hc hF hbd hv eg hj h0 hi hb;by_cases hz:v=0
   . subst hz
     go_enter Tryz.func136,Tryz.ntmps136;go_wp2_with (go_at_call 133;refine KA.out.mono ?_;rintro e w' ⟨rfl,rfl⟩)
     go_ret;exact⟨rfl,rfl⟩
   . rw[AE hz]
     have JG:(v==0)=AI:=by simpa using hz
     clear hz;go_enter Tryz.func136,Tryz.ntmps136;go_wp2_with (go_at_call 133;refine KA.out.mono ?_;rintro e w' ⟨rfl,rfl⟩)
     go_ret;exact⟨rfl,rfl⟩
section
variable {w:C}{P:Nat->Prop}{d p:Aq}{X:XSt}{S:List Int}{N:List (List Int)}{O:List (Int × Int)}{kk:Nat}{F:Nat->List Int}{bf:Nat}
theorem Tt(h:SInv w P d p X)(hf:FsAt w bf p)(hF:Fils D8 X.cur S N O kk F)(h12:kk<=12)(hl:X.cur.length=64*kk){n:Nat}(h1:1<=n)(Bu:n<48){W:C}(hb:At w.heap.size w W){bc:Nat}{fv:Aq}(hc:ChAt W bc bf n (N.getD n []) fv)(hbc:w.heap.size<=bc):
 AA Ae 160 #[Am (T ⟨bc,0,H⟩)] W fun e w'=>e=Ag (J Y 0)/\∃ fv bg,ChAt w' bc bf n (N.getD n []) fv/\FarA w' W.heap.size bc P fv (F n) bg/\KeptG W w' bc:=by
 by_cases hm:num (N.getD n []) 13=0
 . rw[hF.m0 n h1 Bu hm]
   exact V5 hc hm fun k hk=>AH (h.lt k hk) hb.size
 . have ho:=hF.map h1 Bu id hm
   have h2:=ho.1;exact Yd h hf hb hc (m:=(num (N.getD n []) 13).toNat) (by omega) (by omega) (by omega) (ho.outJ h12) (hF.fl n) (hF.m1 n h1 Bu hm) hbc
def py(W:C)(P:Nat->Prop)(bf n:Nat)(x F:List Int)(i:Nat)(e:Ending)(w':C):Prop:=
 ∃ bc fv,e=Ag (AO #[Am (T ⟨bc,0,H⟩),J Y 0])/\W.heap.size<=bc/\ChAt w' bc bf n x fv/\(10<=i->∃ bg,FarA w' W.heap.size bc P fv F bg)/\At W.heap.size W w'
theorem Ns(h:SInv w P d p X)(hf:FsAt w bf p)(hT:Tab X.cur S N)(hF:Fils D8 X.cur S N O kk F)(h12:kk<=12)(hl:X.cur.length=64*kk){n:Nat}(h1:1<=n)(Bu:n<48)(hk:Ca N n≠0){i:Nat}(hi:i<138){W:C}(hb:At w.heap.size w W):
 AA Ae 132 #[Am (T ⟨bf,0,H⟩),J Y n,J Y i] W (py W P bf n (N.getD n []) (F n) i):=by
 have KO:=vJ (QL h hf hT h1 Bu hk hb);have KR:=vJ (fun(V:C) (bc:Nat) (fv:Aq) (hv:At w.heap.size w V) (hc:ChAt V bc bf n (N.getD n []) fv) (hbc:w.heap.size<=bc)=>Tt h hf hF h12 hl h1 Bu hv hc hbc);have HB:=vJ hb;have ei:(i:Int)<138:=by omega
 clear h hf hT hF hk hb;by_cases hn:i<10
 . have en:(i:Int)<10:=by omega
   go_enter Tryz.func132,Tryz.ntmps132;go_wp2_with (go_at_call 159;refine KO.out.mono ?_;rintro e w2 ⟨bc,rfl,hbc,hc,hb2⟩)
   go_ret2;exact⟨bc,_,rfl,hbc,hc,fun h=>absurd h (by omega),hb2⟩
 . have en:¬ (i:Int)<10:=by omega
   go_enter Tryz.func132,Tryz.ntmps132
   go_wp2_with (first
    |(go_at_call 159;refine KO.out.mono ?_;rintro e w2 ⟨bc,rfl,hbc,hc,hb2⟩)
    |(go_at_call 160;refine(KR.out _ _ _ (HB.out.trans (hb2.mono HB.out.size)) hc (AT HB.out.size hbc)).mono ?_;rintro e w3 ⟨rfl,fv,bg,hc3,hg3,hk3⟩))
   go_ret2;exact⟨bc,fv,rfl,hbc,hc3,fun _=>⟨bg,hg3.1,AT hb2.size hg3.2.1,hg3.2.2⟩,hb2.trans (hk3.below hbc hb2.size)⟩
end
end
section
open Go.RowKit
theorem q1{α:Type _}(l:List α)(i:Nat)(a:α):l.toArray.setIfInBounds i a=(l.set i a).toArray:=Aj l i a
theorem q2{α:Type _}{x:α}{xs:List α}{a:α}:(x :: xs).set 0 a=a :: xs:=Av
theorem q3{α:Type _}{x:α}{xs:List α}{i:Nat}{a:α}:(x :: xs).set (i+1) a=x :: xs.set i a:=Au
theorem q4{α:Type _}{xs:List α}{i:Nat}(h:i<xs.toArray.size):xs.toArray[i]=xs[i]'(by simpa using h):=As h
theorem q5{α:Type _}(a:α)(l:List α)(h:0<(a :: l).length):(a :: l)[0]=a:=Ao a l h
theorem q6{α:Type _}(a:α)(l:List α)(i:Nat)(h:i+1<(a :: l).length):(a :: l)[i+1]=l[i]'(by simpa using h):=Ap a l i h
theorem tk{P:Program}{ops:Array BS}{Q:Exit->Act->C->Prop}{md:Region.Mode}{S:C->Prop}(i:Nat){oi:BS}(v:Aq){fuel:Nat}{listed:Array Bool}{a:Act}{w:C}(hi:ops[i]? =T oi)
 (hb:(Region.noSelect ops && (Region.free md ops listed i && (Region.ready md ops listed).contains i))=A)
 (hQ:∀ c a w,Q (.panic c) (a.put oi.dst v) w->Q (.panic c) a w) (hy:YieldsIf P ops S oi v a) (hS:S w)
 (h:wpAnyH P md ops Q S fuel (listed.setIfInBounds i A) (a.put oi.dst v) w):wpAnyH P md ops Q S (fuel+1) listed a w:=by
 rw[AY,AY] at hb;exact Bt hi hb.1 hb.2.1 hb.2.2 hQ hy hS h
end
section
open Go.RowKit BM
theorem FsAt.ne_ch{w:C}{bf bc n bf':Nat}{p:Aq}{x:List Int}{fv:Aq}(h:FsAt w bf p)(hc:ChAt w bc bf' n x fv):bf≠bc:=fun e=>by
 have h2:=hc.2.2;rw[<- e,h] at h2;have:=BH (fun o=>match o with |some (Obj.cells cs _ _)=>cs.size|_=>0) h2;simp[XP] at this
theorem Chg.one{w w':C}{P:Nat->Prop}{g:Nat}(h:Wrote w w' g):Chg (PM P (·=g)) (PM P (·=g)) w w':=(Chg.of_wrote1 h).mp P
section
variable {w:C}{P:Nat->Prop}{d p:Aq}{X:XSt}{S:List Int}{N:List (List Int)}{bf:Nat}
theorem SInv.wrote{w':C}{g:Nat}(h:SInv w P d p X)(hw:Wrote w w' g)(hn:¬ P g):SInv w' P d p X:=h.keep (Nat.le_of_eq hw.2.2.2.1.symm) fun k hk=>hw.2.2.2.2 k fun e=>hn (e ▸ hk)
theorem iI(h:SInv w P d p X)(hw:X.wi=A)(hp:X.put.length<37)(hf:FsAt w bf p)(hT:Tab X.call S N){n:Nat}(h1:1<=n)(Bu:n<48){bc:Nat}{x:List Int}{fv:Aq}(hc:ChAt w bc bf n x fv)(IH:¬ P bc)(IF:El x=A):
 AA Ae 42 #[Am (T ⟨bf,0,H⟩),J Y n,BD (iC x).toArray] w fun e w'=>e=Ag (J Y 0)/\∃ P',SInv w' P' d p (putI X S N n x)/\ChAt w' bc bf n x fv/\Chg P P' w w'/\¬ P' bc:=
 (OC h hw hp hf hT h1 Bu hc.1 IF (AM _ _)).mono fun e w' ⟨he,P',hi,hg⟩=>⟨he,P',hi,(hc.chg hg IH).1,hg,(hc.chg hg IH).2⟩
theorem R8(h:SInv w P d p X)(hw:X.wi=A)(hp:X.put.length<37)(hf:FsAt w bf p)(hT:Tab X.call S N){n:Nat}(h1:1<=n)(Bu:n<48){bc:Nat}{x:List Int}{fv:Aq}(hc:ChAt w bc bf n x fv)(IH:¬ P bc){i:Nat}(hi:i<10){v:Int}(IF:El (x.set (3+i) v)=A):
 AA Ae 137 #[Am (T ⟨bc,0,H⟩),J Y i,J Y v] w fun e w'=>e=Ag (J Y 0)/\∃ P',SInv w' P' d p (putI X S N n (x.set (3+i) v))/\ChAt w' bc bf n (x.set (3+i) v) fv/\Chg (PM P (·=bc)) (PM P' (·=bc)) w w'/\¬ P' bc:=by
 have hw1:=Wrote.setCell w bc (5+i) (J Y v);have hc1:=hc.setN (k:=3+i) (by omega) v;rw[show 2+(3+i)=5+i by omega] at hc1;obtain⟨y,hy⟩:=nm (x.set (3+i) v);rw[<- hy] at hc1 IF |-
 have hi1:=h.wrote hw1 IH;have hf1:FsAt (w.setCell ⟨bc,5+i,H⟩ (J Y v)) bf p:=(hw1.2.2.2.2 bf (hf.ne_ch hc)).trans hf;have c:=hc.num (k:=3+i) (by omega);rw[show 2+(3+i)=5+i by omega] at c;have fz:=hc.free (5+i);have ei:(i:Int)<10:=by omega
 have HD:=(AM (w.setCell ⟨bc,5+i,H⟩ (J Y v)).heap.size (w.setCell ⟨bc,5+i,H⟩ (J Y v))).drew;have KP:=vJ (iI (hi1.low HD) hw hp (hf1.low HD) hT h1 Bu (hc1.low HD) IH IF);have hS:ChAt (w.setCell ⟨bc,5+i,H⟩ (J Y v)).drew bc bf n y fv:=hc1.low HD;have HX:=vJ hc1.1;have HG:=vJ ((Chg.one (P:=P) hw1).trans (Chg.of_below HD));have u1:=Tryz.underlying80;obtain⟨y0,ma⟩:=nm (num x (3+i));rw[<- ma] at c;clear h hw hp hf hT h1 Bu hc IH IF hw1 hc1 hi1 hf1 hy HD ma;go_enter Tryz.func137,Tryz.ntmps137;go_upto_region 3 with(fail)
 refine wp_region_held_drew (S:=fun W=>ChAt W bc bf n y fv) (by kernel_rfl) hS (fun hHeld=>?_);clear hHeld;refine tk 0 (Am (T ⟨bc,0,H⟩)) rfl (by kernel_rfl) (fun _ _ _ h=>h) (z ⟨by rfl,?_⟩) (by assumption) ?_
 . intro W hM;go_simp
 (try simp only[AR,q1,q2,q3,q4,q5])
 refine tk 1 (Am (T ⟨bc,0,H⟩)) rfl (by kernel_rfl) (fun _ _ _ h=>h) (z ⟨by rfl,?_⟩) (by assumption) ?_
 . intro W hM;go_simp
 (try simp only[AR,q1,q2,q3,q4,q5,q6])
 refine tk 2 (Am (T ⟨bc,0,H⟩)) rfl (by kernel_rfl) (fun _ _ _ h=>h) (z ⟨by rfl,?_⟩) (by assumption) ?_
 . intro W hM;go_simp
 (try simp only[AR,q1,q2,q3,q4,q5,q6])
 refine tk 3 (Am (T ⟨bf,0,H⟩)) rfl (by kernel_rfl) (fun _ _ _ h=>h) (z ⟨by rfl,?_⟩) (by assumption) ?_
 . intro W hM;have f0:=hM.c0;go_simp
 (try simp only[AR,q1,q2,q3,q4,q5,q6])
 refine tk 4 (Am (T ⟨bc,0,H⟩)) rfl (by kernel_rfl) (fun _ _ _ h=>h) (z ⟨by rfl,?_⟩) (by assumption) ?_
 . intro W hM;go_simp
 (try simp only[AR,q1,q2,q3,q4,q5,q6])
 refine tk 5 (Am (T ⟨bc,0,H⟩)) rfl (by kernel_rfl) (fun _ _ _ h=>h) (z ⟨by rfl,?_⟩) (by assumption) ?_
 . intro W hM;go_simp
 (try simp only[AR,q1,q2,q3,q4,q5,q6])
 refine tk 6 (Am (T ⟨bc,1,H⟩)) rfl (by kernel_rfl) (fun _ _ _ h=>h) (z ⟨by rfl,?_⟩) (by assumption) ?_
 . intro W hM;go_simp
 (try simp only[AR,q1,q2,q3,q4,q5,q6])
 refine tk 7 (J Y n) rfl (by kernel_rfl) (fun _ _ _ h=>h) (z ⟨by rfl,?_⟩) (by assumption) ?_
 . intro W hM;have f1:=hM.c1;go_simp
 (try simp only[AR,q1,q2,q3,q4,q5,q6])
 refine tk 8 (Am (T ⟨bc,0,H⟩)) rfl (by kernel_rfl) (fun _ _ _ h=>h) (z ⟨by rfl,?_⟩) (by assumption) ?_
 . intro W hM;go_simp
 (try simp only[AR,q1,q2,q3,q4,q5,q6])
 refine tk 9 (Am (T ⟨bc,0,H⟩)) rfl (by kernel_rfl) (fun _ _ _ h=>h) (z ⟨by rfl,?_⟩) (by assumption) ?_
 . intro W hM;go_simp
 (try simp only[AR,q1,q2,q3,q4,q5,q6])
 refine tk 10 (Am (T ⟨bc,2,H⟩)) rfl (by kernel_rfl) (fun _ _ _ h=>h) (z ⟨by rfl,?_⟩) (by assumption) ?_
 . intro W hM;go_simp
 (try simp only[AR,q1,q2,q3,q4,q5,q6])
 refine tk 11 (BD (iC y).toArray) rfl (by kernel_rfl) (fun _ _ _ h=>h) (yieldsIf_load_mid rfl 80 (.tmp 28) rfl bc 2 rfl (iC y) _ (fun W hW=>hW.rng) u1 rfl (by rw[Hf,Cx,HX.out])) (by assumption) ?_
 (try simp only[AR,q1,q2,q3,q4,q5,q6])
 refine wpAnyH_ready (rs:=[12]) (by kernel_rfl) (by simp) (EL rfl (fun K hK=>?_) AllReadyH.nil)
 go_simp
 go_at_call 42
 refine KP.out.mono ?_;rintro e w4 ⟨rfl,P4,ai,hc4,hg4⟩;refine hK.out _ _ hc4 (fun hHeld=>?_);clear hK K hHeld
 (try simp only[AR,q1,q2,q3,q4,q5,q6])
 refine tk 13 (J Y 0) rfl (by kernel_rfl) (fun _ _ _ h=>h) (z ⟨by rfl,?_⟩) (by assumption) ?_
 . intro W hM;go_simp
 (try simp only[AR,q1,q2,q3,q4,q5,q6])
 refine wpAnyH_done (by kernel_rfl) ?_ _;go_wp2;go_ret;exact⟨rfl,P4,ai,hc4,HG.out.trans (hg4.1.pm _),hg4.2⟩
end
theorem Chg.inner2{W w1 w2:C}{P P1 P' Q:Nat->Prop}(hb:Chg P P1 W w1)(hc:Chg (PM P1 Q) (PM P' Q) w1 w2)(hQ:∀ k,Q k->W.heap.size<=k):Chg P P' W w2:=
 ⟨hc.os.trans hb.os,hc.tape.trans hb.tape,hc.output.trans hb.output,AT hb.size hc.size,fun k hk hn=>by
   obtain⟨a,b⟩:=hb.keep k hk hn;have:=hc.keep k (AH hk hb.size) fun h=>h.elim b fun h=>by have:=hQ k h;omega
   exact⟨this.1.trans a,fun h=>this.2 (z h)⟩⟩
theorem FarA.chg{w w':C}{B bc bg:Nat}{P P':Nat->Prop}{fv:Aq}{F:List Int}(h:FarA w B bc P fv F bg)(hc:Chg P P' w w'):FarA w' B bc P' fv F bg:=by
 obtain⟨f1,f2,f3,f4,f5,f6⟩:=h;have:=hc.keep bg (Al.1 f6).1 f4;exact⟨f1,f2,f3,this.2,f5,this.1.trans f6⟩
theorem FarA.low{w w':C}{B bc bg:Nat}{P:Nat->Prop}{fv:Aq}{F:List Int}(h:FarA w B bc P fv F bg)(hb:At w.heap.size w w'):FarA w' B bc P fv F bg:=
 ⟨h.1,h.2.1,h.2.2.1,h.2.2.2.1,h.2.2.2.2.1,BA h.2.2.2.2.2 hb⟩
theorem FsAt.ne_io{w:C}{bf bg:Nat}{p:Aq}{F:List Int}(h:FsAt w bf p)(hg:w.heap[bg]? =T (iO F 3))(h1:F.length=128):bf≠bg:=fun e=>by
 rw[<- e,h] at hg;have:=BH (fun o=>match o with |some (Obj.cells cs _ _)=>cs.size|_=>0) hg;simp[iO,iC,h1] at this
section
variable {w:C}{P:Nat->Prop}{d p:Aq}{X:XSt}{S:List Int}{N:List (List Int)}{bf:Nat}
def Su(X:XSt)(m:Nat)(l:List Int):XSt:={ X with call:=X.call.set m l,put:=Fj X.put (m:Nat) }
theorem YK(h:SInv w P d p X)(hw:X.wi=A)(hp:X.put.length<37){m:Nat}(hm:m<X.is.length)(sS:m<768)(ho:Ei m){l:List Int}(hl:l.length=256){u:Aq}(hu:BSl w u l):
 AA Ae 85 #[p,J Y m,u] w fun e w'=>e=Ag (J Y 0)/\∃ P',SInv w' P' d p (Su X m l)/\Chg P P' w w':=by
 have:=NL h hu (n:=(m:Int)) (by omega) (by rw[B5];exact ho);rw[Qi (X:=X) (n:=(m:Int)) (l:=l) hw (by omega) (by omega) hl hp] at this;exact this
theorem Tu(h:SInv w P d p X)(hw:X.wi=A)(hp:X.put.length<37)(hf:FsAt w bf p){n:Nat}{bc bg B:Nat}{x F:List Int}{fv:Aq}(hc:ChAt w bc bf n x fv)(IH:¬ P bc)(hF:FarA w B bc P fv F bg){i:Nat}(Gm:10<=i)(hi:i<138){v:Int}(hL:FP (F.set (i-10) v)=A)
 {m:Nat} (hm:num x 13=(m:Int)) (ik:m<X.is.length) (sS:m<768) (ho:Ei m):
 AA Ae 137 #[Am (T ⟨bc,0,H⟩),J Y i,J Y v] w fun e w'=>e=Ag (J Y 0)/\∃ P',SInv w' P' d p (Su X m (FO (F.set (i-10) v)))/\ChAt w' bc bf n x fv/\FarA w' B bc P' fv (F.set (i-10) v) bg/\Chg (PM P (·=bg)) (PM P' (·=bg)) w w'/\¬ P' bc:=by
 obtain⟨f1,f2,f3,f4,rfl,f6⟩:=hF;have hw1:=Wrote.setCell w bg (i-10) (J Y v);have hr1:=Vb f6 (i-10) v;have cj:=GC f6 (i-10) (by omega);have fj:=Qm f6 (i-10);obtain⟨F2,oK⟩:=nm (F.set (i-10) v);have Mu:F2.length=128:=by rw[oK,AJ,f1]
 rw[<- oK] at hr1 hL |-
 obtain⟨j,hj⟩:=nm (i-10);rw[<- hj] at hw1 hr1 cj fj;have e1:Y.wrap ((i:Int)-10)=(j:Int):=by rw[A9 _ (by omega)];omega
 have e10:¬ (i:Int)<10:=by omega
 have ej:(j:Int)<128:=by omega
 have hi1:=h.wrote hw1 f4;have hf1:FsAt (w.setCell ⟨bg,j,H⟩ (J Y v)) bf p:=(hw1.2.2.2.2 bf (hf.ne_io f6 f1)).trans hf;have hc1:ChAt (w.setCell ⟨bg,j,H⟩ (J Y v)) bc bf n x (Ak (T ⟨bg,0,H⟩) 128 128):=⟨hc.1,hc.2.1,(hw1.2.2.2.2 bc (CR f3)).trans hc.2.2⟩;have hg1:FarA (w.setCell ⟨bg,j,H⟩ (J Y v)) B bc P (Ak (T ⟨bg,0,H⟩) 128 128) F2 bg:=⟨Mu,f2,f3,f4,rfl,hr1⟩;have cf:=hc.cf;have cf1:=hc1.cf;obtain⟨w1,hww⟩:=nm (w.setCell ⟨bg,j,H⟩ (J Y v));have HWW:=vJ hww.symm;rw[<- hww] at hw1 hr1 hi1 hf1 hc1 hg1 cf1;have KE:=vJ (gV hg1.isl Mu hL);have HLT:Hid (∀ k,P k->k<w1.heap.size):=vJ hi1.lt;have KP:=vJ (fun(V:C) (u:Aq) (hb:At w1.heap.size w1 V) (hu:BSl V u (FO F2))=>YK (hi1.low hb) hw hp ik sS ho (l:=FO F2) (by rw[FO,Ge]) hu);have HC:Hid (∀ V,At w1.heap.size w1 V->V.cell? ⟨bc,0,H⟩=T (Am (T ⟨bf,0,H⟩))/\V.cell? ⟨bc,15,H⟩=T (J Y (m:Nat))/\V.cell? ⟨bf,0,H⟩=T p):=vJ fun V hv=>⟨(hc1.low hv).c0,by rw[(hc1.low hv).cm,hm],(hf1.low hv).cell⟩
 have HE:Hid (∀ (V V':C) (P':Nat->Prop),At w1.heap.size w1 V->Chg P P' V V'->ChAt V' bc bf n x (Ak (T ⟨bg,0,H⟩) 128 128)/\FarA V' B bc P' (Ak (T ⟨bg,0,H⟩) 128 128) F2 bg/\Chg (PM P (·=bg)) (PM P' (·=bg)) w V'/\¬ P' bc):=vJ fun V V' P' hb hg=>
  ⟨((hc1.low hb).chg hg IH).1,(hg1.low hb).chg hg,(Chg.one (P:=P) hw1).trans ((Chg.of_below hb).trans (hg.pm _)),((hc1.low hb).chg hg IH).2⟩
 clear h hw hp hf hc IH f1 f2 f3 f4 f6 hL hm ik sS ho hw1 hr1 Mu oK hj hi1 hf1 hc1 hg1 hww Gm hi;go_enter Tryz.func137,Tryz.ntmps137;go_upto_region 5 with(fail)
 rw[HWW.out]
 go_wp2_with (go_at_call 176;refine KE.out.mono ?_;rintro e w2 ⟨u,rfl,hu,hb2⟩
              have Vt:At w1.heap.size w1 w2.drew:=hb2.drew;have hu2:BSl w2.drew u (FO F2):=hu.bsl.below ((AM _ _).drew);obtain⟨c0,c15,cb⟩:=HC.out _ Vt)
 go_still_tail 13,(by kernel_rfl)
 go_wp2_with (go_at_call 85;refine(KP.out _ _ Vt hu2).mono ?_;rintro e w3 ⟨rfl,P3,ib,hg3⟩)
 go_ret;exact⟨rfl,P3,ib,HE.out _ _ _ Vt hg3⟩
end
section
variable {w:C}{P:Nat->Prop}{d p:Aq}{X:XSt}{S:List Int}{N:List (List Int)}{O:List (Int × Int)}{kk:Nat}{bf:Nat}
structure Stil (S:List Int) (kk:Nat):Prop where
 top:TD S
 s0:num S 0=64*(kk:Int)
 lim:We S=64*(kk:Int)
theorem Z7(h:SInv w P d p X)(hw:X.wi=A)(hp:X.put.length<=35)(hH:Has X.call O kk)(hO:OOk O kk)(hf:FsAt w bf p)(hT:Tab X.call S N)(hS:Stil S kk)(goal:Int){i j:Int}(hi:0<=i/\i<=65535)(hj:0<=j/\j<=65535)(cw:GF i j=A)(h0:i≠0)(h6:i≠65535){f:Nat}
 (hc:(Dm O (64*kk):Int)<62*(kk:Int)-42) (tE:f<64*kk) (hfs:Hk O (64*kk) (Hl (64*kk) goal)=f) (IF:CJ (f:Int)=AI):
 AA Ae 175 #[Am (T ⟨bf,0,H⟩),J Y goal,BD #[J .u16 i,J .u16 j]] w fun e w'=>e=Ag (AO #[J Y f,J Y 0])/\∃ P',SInv w' P' d p (IJ X (f / 64) (Fa (O.set f (i,j)) (f / 64)))/\Chg P P' w w':=by
 have LH:X.cur=X.call:=by unfold XSt.cur;rw[AC hw]
 have hT':Tab X.cur S N:=by rw[LH];exact hT
 refine(Rr (R:=fun x E V w'=>x=(f:Int)/\E=0/\∃ P',SInv w' P' d p (IJ X (f / 64) (Fa (O.set f (i,j)) (f / 64)))/\Chg P P' V w') h hf hT' hS.top (AM _ _) ?_ ?_).mono ?_
 . rintro x E V w' b hb hlt ⟨_,_,P',_,hg⟩
   exact(hg.keep b hlt fun hp=>by have:=h.lt _ hp;omega).1
 . intro V hV
   rw[hS.s0,hS.lim];refine(ZQ (h.low hV) hw hp hH hO hO.k1 (AB _) (AB _) goal hi hj cw h0 h6 hc tE hfs IF).mono ?_;rintro e w' ⟨rfl,P',Hc,hg⟩;exact⟨(f:Int),0,rfl,rfl,rfl,P',Hc,hg⟩
 . rintro e w' ⟨x,E,V,rfl,hV,rfl,rfl,P',Hc,hg⟩
   exact⟨rfl,P',Hc,(Chg.of_below hV).trans hg⟩
theorem Wd(h:SInv w P d p X)(hw:X.wi=A)(hH:Has X.call O kk)(hO:OOk O kk)(hf:FsAt w bf p)(hT:Tab X.call S N)(hS:Stil S kk)(goal:Int){i j:Int}(hi:0<=i/\i<=65535)(hj:0<=j/\j<=65535)(cw:GF i j=A)(h0:i≠0)(h6:i≠65535)
 (hc:62*(kk:Int)-42<=(Dm O (64*kk):Int)):
 AA Ae 175 #[Am (T ⟨bf,0,H⟩),J Y goal,BD #[J .u16 i,J .u16 j]] w fun e w'=>e=Ag (AO #[J Y 0,J Y 13])/\At w.heap.size w w':=by
 have LH:X.cur=X.call:=by unfold XSt.cur;rw[AC hw]
 have hT':Tab X.cur S N:=by rw[LH];exact hT
 have hH':Has X.cur O kk:=by rw[LH];exact hH
 refine(Rr (R:=fun x E V w'=>x=0/\E=13/\At V.heap.size V w') h hf hT' hS.top (AM _ _) ?_ ?_).mono ?_
 . rintro x E V w' b hb hlt ⟨_,_,hg⟩
   exact hg.block b hlt
 . intro V hV
   rw[hS.s0,hS.lim];refine(Xj (h.low hV) hH' hO hO.k1 (AB _) (AB _) goal hi hj cw h0 h6 hc).mono ?_;rintro e w' ⟨rfl,hg⟩;exact⟨0,13,rfl,rfl,rfl,hg⟩
 . rintro e w' ⟨x,E,V,rfl,hV,rfl,rfl,hg⟩
   exact⟨rfl,hV.trans (hg.mono hV.size)⟩
theorem Xm{W:C}{bc n:Nat}{x:List Int}{fv:Aq}(hc:ChAt W bc bf n x fv)(hn:n<48){goal:Int}{a:Nat}(ha:a<=65535){R:C->Prop}
 (hK:∀ V,At W.heap.size W V->AA Ae 175 #[Am (T ⟨bf,0,H⟩),J Y goal,BD #[J .u16 n,J .u16 a]] V fun e w'=>e=Ag (AO #[J Y 0,J Y 13])/\At V.heap.size V w'):
 AA Ae 135 #[Am (T ⟨bc,0,H⟩),J Y goal,J Y a] W fun e w'=>e=Ag (AO #[J Y 0,J Y 13])/\At W.heap.size W w':=by
 have KT:=vJ hK;have e1:IntKind.u16.wrap (n:Int)=(n:Int):=IntWalk.u16_in _ (by omega);have e2:IntKind.u16.wrap (a:Int)=(a:Int):=IntWalk.u16_in _ (by omega);have HC:Hid (∀ V,At W.heap.size W V->V.cell? ⟨bc,0,H⟩=T (Am (T ⟨bf,0,H⟩))/\V.cell? ⟨bc,1,H⟩=T (J Y n)):=vJ fun V hv=>⟨(hc.low hv).c0,(hc.low hv).c1⟩
 have hd:At W.heap.size W W.drew:=(AM _ _).drew;have s0:=HC.out _ hd;clear hc hn ha hK;go_enter Tryz.func135,Tryz.ntmps135;go_wp2
 go_region_held3 (fun V=>V.cell? ⟨bc,0,H⟩=T (Am (T ⟨bf,0,H⟩))/\V.cell? ⟨bc,1,H⟩=T (J Y n)) (first|exact s0|exact s2) (first
  |(go_at_call 175;(with_reducible refine(KT.out _ hd).mono ?_);rintro e w2 ⟨rfl,hb2⟩;have hb02:=hd.trans (hb2.mono hd.size);have s2:=HC.out _ hb02))
 all_goals
  go_wp2;go_ret2;exact⟨rfl,hb02⟩
theorem Zt{W:C}{bc n:Nat}{x:List Int}{fv:Aq}(hc:ChAt W bc bf n x fv)(IH:¬ P bc)(hf:FsAt W bf p)(pZ:¬ P bf)(hn:n<48){goal:Int}{a:Nat}(ha:a<=65535){X1:XSt}{f:Nat}(hlt:∀ k,P k->k<W.heap.size)
 (hK:∀ V,At W.heap.size W V->AA Ae 175 #[Am (T ⟨bf,0,H⟩),J Y goal,BD #[J .u16 n,J .u16 a]] V fun e w'=>e=Ag (AO #[J Y f,J Y 0])/\∃ P',SInv w' P' d p X1/\Chg P P' V w')
 (hw:X1.wi=A) (hp:X1.put.length<37) (hm:f<X1.is.length) (sS:f<768) (ho:Ei f):
 AA Ae 135 #[Am (T ⟨bc,0,H⟩),J Y goal,J Y a] W fun e w'=>e=Ag (AO #[J Y f,J Y 0])/\∃ P',SInv w' P' d p (Su X1 f z256)/\Chg P P' W w':=by
 have KT:=vJ hK;have e1:IntKind.u16.wrap (n:Int)=(n:Int):=IntWalk.u16_in _ (by omega);have e2:IntKind.u16.wrap (a:Int)=(a:Int):=IntWalk.u16_in _ (by omega);have HC:Hid (∀ V P',Chg P P' W V->V.cell? ⟨bc,0,H⟩=T (Am (T ⟨bf,0,H⟩))/\V.cell? ⟨bc,1,H⟩=T (J Y n)/\V.cell? ⟨bf,0,H⟩=T p):=vJ fun V P' hv=>⟨(hc.chg hv IH).1.c0,(hc.chg hv IH).1.c1,(hf.chg hv pZ).1.cell⟩
 have hd:At W.heap.size W W.drew:=(AM _ _).drew;have hcd:Chg P P W W.drew:=Chg.of_below hd;have s0:=HC.out _ _ hcd;obtain⟨Z,hZ⟩:=nm (A3 256 (J .u8 0));have sF:=fun W=>Yr W 256 (by decide) 256 rfl
 have KP:Hid (∀ (V:C) (P1:Nat->Prop),SInv V P1 d p X1->AA Ae 85 #[p,J Y f,Ak (T ⟨V.heap.size,0,H⟩) 256 256] (V.alloc (Ar Z 5)).drew fun e w'=>e=Ag (J Y 0)/\∃ P',SInv w' P' d p (Su X1 f z256)/\Chg P1 P' V w'):=vJ fun V P1 hi=>by
  have hb:=Ay V (Ar Z 5);have hr:=Aw V (Ar Z 5);rw[hZ] at hb hr |-
  have hb2:=hb.drew;exact(YK (hi.low hb2) hw hp hm sS ho (l:=z256) A4 (QJ hr)).mono fun e w' ⟨he,P',hi',hg⟩=>⟨he,P',hi',(Chg.of_below hb2).trans hg⟩
 rw[<- hZ] at sF;clear hc hn ha hK IH hf pZ hlt hw hp hm sS ho hZ;go_enter Tryz.func135,Tryz.ntmps135;go_wp2
 go_region_held3 (fun V=>V.cell? ⟨bc,0,H⟩=T (Am (T ⟨bf,0,H⟩))/\V.cell? ⟨bc,1,H⟩=T (J Y n)/\V.cell? ⟨bf,0,H⟩=T p) (first|exact s0|exact s2) (first
  |(go_at_call 175;(with_reducible refine(KT.out _ hd).mono ?_);rintro e w2 ⟨rfl,P2,Hc,hg2⟩;have hg02:=hcd.trans hg2;have s2:=HC.out _ _ hg02))
 all_goals
  have HG:=vJ hg02;have KP2:=vJ (KP.out _ _ Hc);have s3:(w2.drew).cell? ⟨bc,0,H⟩=T (Am (T ⟨bf,0,H⟩))/\(w2.drew).cell? ⟨bc,1,H⟩=T (J Y n)/\(w2.drew).cell? ⟨bf,0,H⟩=T p:=s2;have s4:=HC.out _ _ (hg02.trans (Chg.of_below (Ay w2 (Ar Z 5)).drew));clear Hc hg2 hg02 hcd s0 s2;go_wp2
  go_region_held3 (fun V=>V.cell? ⟨bc,0,H⟩=T (Am (T ⟨bf,0,H⟩))/\V.cell? ⟨bc,1,H⟩=T (J Y n)/\V.cell? ⟨bf,0,H⟩=T p) (first|exact s3|exact s4|exact s5) (first
   |(go_at_call 85;(with_reducible refine KP2.out.mono ?_);rintro e w5 ⟨rfl,P5,hi5,TU⟩;have s5:=HC.out _ _ (HG.out.trans TU)))
  all_goals
   go_wp2;go_ret2;exact⟨rfl,P5,hi5,HG.out.trans TU⟩
end
end
section
open Go.RowKit
theorem Pm(O:List (Int × Int))(f:Nat)(o:Int × Int):∀ L,L<=f->Dm (O.set f o) L=Dm O L
 |0,_=>rfl
 |L+1,h=>by
  have ih:=Pm O f o L (by omega);have e:CU (O.set f o) L=CU O L:=by unfold CU;rw[An,Bw (by omega),<- An]
  unfold Dm;rw[ih,e]
theorem Kp{O:List (Int × Int)}{f:Nat}{i j:Int}(cC:f<O.length)(hf:CU O f=A)(hx:CJ (f:Int)=AI)(h0:i≠0):∀ L,f<L->Dm (O.set f (i,j)) L=Dm O L+1
 |0,h=>absurd h (A8 _)
 |L+1,h=>by
  by_cases e:L=f
  . subst e
    have h1:=Pm O L (i,j) L (AB _);have h2:CU (O.set L (i,j)) L=AI:=(by unfold CU;rw[BM.getD_set _ _ _ _ _ cC,AC rfl];exact AG h0);unfold Dm;rw[h1,h2,hf,hx];simp
  . have ih:=Kp (j:=j) cC hf hx h0 L (by omega)
    have h2:CU (O.set f (i,j)) L=CU O L:=(by unfold CU;rw[An,Bw (by omega),<- An]);unfold Dm;rw[ih,h2];omega
theorem aH:∀ kk,kk<5->1<=kk->Dm (FE kk) (64*kk)=6:=by decide +kernel
end
section
open Go.RowKit BM
structure Pl (Ex:Nat->Nat->Prop) (G:List (List Int)) (S:List Int) (N:List (List Int)) (O:List (Int × Int)) (kk:Nat) (F:Nat->List Int):Prop where
 has:Has G O kk
 ok:OOk O kk
 tab:Tab G S N
 fi:Fils Ex G S N O kk F
theorem fixB_lo:CJ 0=A/\CJ 63=A:=by unfold CJ;exact⟨AF (by omega),AF (by omega)⟩
theorem Gs{f:Nat}(h:CJ (f:Int)=AI):f≠0/\f≠63:=by
 constructor
 . intro e;subst e;rw[show((0:Nat):Int)=0 from rfl,fixB_lo.1] at h;cases h
 . intro e;subst e;rw[show((63:Nat):Int)=63 from rfl,fixB_lo.2] at h;cases h
theorem Nu{x F:List Int}(hx:El x=A)(hF:F.length=128/\FP F=A){i:Nat}(hi:i<139):0<=BJ x F i/\BJ x F i<=767:=by
 have hz:0<=num zeroI 13/\∀ k,num zeroI k=0:=by
  refine⟨by decide,fun k=>?_⟩;by_cases h:k<14
  . revert k;decide
  . unfold num zeroI
    rw[An,A5 (by simp;omega)];rfl
 have hf:∀ k,k<128->0<=num F k/\num F k<=767:=fun k hk=>inB_iff.1 ((Ft F).1 hF.2 k (by omega))
 unfold El at hx;by_cases h0:x.getD 0 0=0
 . rw[AC h0] at hx
   have e:=A7 hx;unfold BJ;rw[e];split
   . rw[hz.2];decide
   . split
     . rw[hz.2];decide
     . exact hf _ (by omega)
 . rw[AE h0] at hx
   unfold Nz at hx;simp only[AY] at hx;unfold BJ;split
   . next Gm=>
     by_cases hl:i<((x.drop 3).take 10).length
     . have:=inB_iff.1 ((Ft _).1 hx.2.2.2.1 i hl)
       have e:((x.drop 3).take 10).getD i 0=num x (3+i):=by
        unfold num;rw[An,AZ,AC Gm,Bp,An]
       rw[e] at this;exact this
     . have:num x (3+i)=0:=by
        unfold num;rw[An,A5];· rfl
        rw[AK,AU] at hl;omega
       rw[this];decide
   . split
     . exact inB_iff.1 hx.2.2.2.2
     . exact hf _ (by omega)
theorem M7{x:List Int}(hl:x.length=14)(hx:El x=A)(hk:num x 0≠0){a:Nat}(ha:3<=a)(ha2:a<14){v:Int}(hv:0<=v/\v<=767):El (x.set a v)=A:=by
 have hn:∀ b,b≠a->(x.set a v).getD b 0=x.getD b 0:=fun b hb=>by
  have:=CA (x:=x) (a:=a) (by omega) v b;unfold num at this;rw[this,AE hb]
 unfold El at hx |-
 unfold num at hk;rw[AE hk] at hx;rw[hn 0 (by omega),hn 1 (by omega),hn 2 (by omega),AE hk];unfold Nz at hx |-
 simp only[AY] at hx |-
 have h13:UZ ((x.set a v).getD 13 0)=A:=by
  by_cases e:a=13
  . subst e
    have:=CA (x:=x) (a:=13) (by omega) v 13;unfold num at this;rw[this,AC rfl];exact inB_iff.2 hv
  . rw[hn 13 (CR e)];exact hx.2.2.2.2
 refine⟨hx.1,hx.2.1,hx.2.2.1,?_,h13⟩;rw[Ft];intro j hj;have uN:j<10:=by rw[AK] at hj;omega
 have e:((x.set a v).drop 3 |>.take 10).getD j 0=num (x.set a v) (3+j):=by
  unfold num;rw[An,AZ,AC uN,Bp,An]
 have e2:((x.drop 3).take 10).getD j 0=num x (3+j):=by
  unfold num;rw[An,AZ,AC uN,Bp,An]
 rw[e,CA (by omega)];split
 . exact inB_iff.2 hv
 . rw[<- e2]
   exact(Ft _).1 hx.2.2.2.1 j (by rw[AK,AU] at hj |-;rw[AJ] at hj;exact hj)
theorem Wg{F:List Int}(h:FP F=A)(a:Nat){v:Int}(hv:0<=v/\v<=767):FP (F.set a v)=A:=by
 unfold FP at h |-
 rw[DJ] at h |-
 intro y hy;rcases Dr hy with h1|h1
 . exact h y h1
 . rw[h1];exact inB_iff.2 hv
section
variable {G:List (List Int)}{S:List Int}{N:List (List Int)}{O:List (Int × Int)}{kk:Nat}{F:Nat->List Int}
theorem qt{O:List (Int × Int)}{k:Nat}(h:OOk O k){v:Nat}(hv:(O.getD v (0,0)).1≠0):v<64*k:=by
 apply Vh;intro hn;apply hv;rw[An,A5 (by rw[h.len];omega)];rfl
theorem VT{O:List (Int × Int)}{k:Nat}(h:OOk O k){v:Nat}(h1:1<=(O.getD v (0,0)).1)(h2:(O.getD v (0,0)).1<48):CJ (v:Int)=AI:=by
 rw[<- h.fx v (qt h (by omega))];exact AG (by omega)
theorem aI(G:List (List Int)){g:Nat}(hg:g<12)(D:List (Int × Int)){v:Nat}(hv:CJ (v:Int)=AI):(putG G g D).getD v []=G.getD v []:=by
 have hx:=Ks hg;unfold putG;rw[BE _ _ _ fun e=>?_,BE _ _ _ fun e=>?_]
 . rw[e,hx.2.1] at hv;cases hv
 . rw[e,hx.1] at hv;cases hv
theorem j6(G:List (List Int))(g:Nat)(D:List (Int × Int)):(putG G g D).length=G.length:=by unfold putG;rw[AJ,AJ]
def P9(G:List (List Int))(O:List (Int × Int))(f:Nat)(q:Int × Int):List (List Int):=(putG G (f / 64) (Fa (O.set f q) (f / 64))).set f z256
theorem Pl.take(h:Pl D8 G S N O kk F){f:Nat}(hf:CU O f=A)(hx:CJ (f:Int)=AI)(hk:f<64*kk){i j:Int}(hi:0<=i/\i<=65535)(hj:0<=j/\j<=65535)(cw:GF i j=A)(h0:i≠0)(h6:i≠65535):
 Pl D8 (P9 G O f (i,j)) S N (O.set f (i,j)) kk F/\OwAt (O.set f (i,j)) kk f (i,j)/\(P9 G O f (i,j)).getD f []=z256/\Dm (O.set f (i,j)) (64*kk)=Dm O (64*kk)+1/\DataK O (O.set f (i,j)) G (P9 G O f (i,j)):=by
 have h12:=h.ok.k12;have sU:f<O.length:=by rw[h.ok.len];exact hk
 have hne:=Gs hx;have hG:f<G.length:=by rw[h.has.len];exact hk
 have Ok:=j6 G (f / 64) (Fa (O.set f (i,j)) (f / 64));refine⟨⟨(h.has.put hk _).other h12 (Ba (Ba hx)) _,h.ok.set hk hx hi hj cw h6,?_,?_⟩,⟨by omega,hx,by rw[B5,getD_set _ _ _ _ _ sU,AC rfl]⟩,?_,Kp sU hf hx h0 _ hk,fun v a b c e=>?_⟩
 . refine(h.tab.putG (show f / 64<12 by omega) _).same (by unfold P9;rw[AJ]) fun v hv=>BE _ _ _ ?_
   rcases hv with rfl|rfl| ⟨t,ht,rfl⟩
   . exact CR hne.1
   . exact CR hne.2
   . intro e
     have:=h.fi.tb t ht;unfold CU at hf;rw[e] at this;rw[this] at hf;cases A7 hf
 . refine(h.fi.take hf hk h12 _).data (fun n h1 Bu hm e=>?_) _
   have ho:=h.fi.map h1 Bu id hm;have:=MI (by omega) ho;rw[e,hf] at this;cases this
 . unfold P9
   rw[getD_set _ _ _ _ _ (by rw[Ok];exact hG),AC rfl]
 . have hvf:v≠f:=fun e2=>by
    rw[e2] at e a;unfold CU at hf;rw[<- e,A7 hf] at a;cases a
   unfold P9;rw[BE _ _ _ hvf,aI _ (by omega) _ (VT h.ok (v:=v) (by rw[e];exact a) (by rw[e];exact b))]
def PQ(G:List (List Int))(S:List Int)(N:List (List Int))(n:Nat)(y:List Int):List (List Int):=G.set (Dj S (n / 8)) (GG (J9 (N.set n y) (n / 8)))
theorem Pl.node{Ex:Nat->Nat->Prop}(h:Pl Ex G S N O kk F){n:Nat}(h1:1<=n)(Bu:n<48){y:List Int}(hy:y.length=14)(X0:El y=A)(hE:∀ a b,Ex a b->a=n)
 (FH:num y 13=0->F n=AD 128 0) (hm1:num y 13≠0->G.getD (num y 13).toNat []=FO (F n))
 (pU:∀ i,i<139->BJ y (F n) i≠0->OwAt O kk (BJ y (F n) i) ((n:Int),IP i)):
 Pl D8 (PQ G S N n y) S (N.set n y) O kk F/\DataK O O G (PQ G S N n y):=by
 have hin:=Fs h.tab.sf (show n / 8<6 by omega);refine⟨⟨h.has.other h.ok.k12 (Ba (Ba hin.2.2.2.1)) _,h.ok,h.tab.putI Bu hy X0,h.fi.node h1 Bu h.tab.n.len hE FH hm1 pU _⟩,fun v a b c e=>?_⟩;unfold PQ;refine BE _ _ _ fun e2=>?_
 rw[e2,h.fi.tb _ (show n / 8<6 by omega)] at b;simp only at b;omega
theorem Pl.far{Ex:Nat->Nat->Prop}(h:Pl Ex G S N O kk F){n:Nat}(h1:1<=n)(Bu:n<48){m:Nat}(hm:num (N.getD n []) 13=(m:Int))(FH:m≠0)(hmE:¬ Ex n 138){L:List Int}(hL:L.length=128)(hf:FP L=A)(hE:∀ a b,Ex a b->a=n)
 (pU:∀ i,10<=i->i<138->num L (i-10)≠0->OwAt O kk (num L (i-10)) ((n:Int),IP i)) (hEd:∀ i,i<10->¬ Ex n i):
 Pl D8 (G.set m (FO L)) S N O kk (setF F n L)/\DataK O O G (G.set m (FO L)):=by
 have ho:=h.fi.map h1 Bu hmE (by rw[hm];omega);rw[hm] at ho;have hne:=Gs ho.2.1;have hG:m<G.length:=by rw[h.has.len];have:=ho.1;omega
 refine⟨⟨h.has.other h.ok.k12 (Ba (Ba ho.2.1)) _,h.ok,h.tab.same (by rw[AJ]) fun v hv=>BE _ _ _ ?_,h.fi.far h1 Bu hm FH hmE hG hL hf hE pU hEd⟩,fun v a b c e=>?_⟩
 . rcases hv with rfl|rfl| ⟨t,ht,rfl⟩
   . exact CR hne.1
   . exact CR hne.2
   . intro e
     have h2:=h.fi.tb t ht;have h3:=ho.2.2;rw[B5,<- e,h2] at h3;have:=(Dx h3).1;omega
 . refine BE _ _ _ fun e2=>c ?_
   have h3:=ho.2.2;rw[B5,<- e2] at h3;rw[h3]
def PutS(X:XSt)(Q:List Int):Prop:=X.put.Nodup/\∀ a∈X.put,a∈Q
end
theorem VJ:∀ (l Q:List Int),l.Nodup->(∀ a∈l,a∈Q)->l.length<=Q.length
 |[],_,_,_=>AX _
 |a :: l,Q,hn,h=>by
  obtain⟨h1,h2⟩:=List.nodup_cons.1 hn;have ha:=h a (B7);have:=VJ l (Q.erase a) h2 fun b hb=>(List.mem_erase_of_ne (by rintro rfl;exact h1 hb)).2 (h b (CC _ hb))
  rw[List.length_erase_of_mem ha] at this;have:=List.length_pos_of_mem ha;simp only[Ch];omega
theorem PutS.le{X:XSt}{Q:List Int}(h:PutS X Q):X.put.length<=Q.length:=VJ _ _ h.1 h.2
theorem ZK{l:List Int}(h:l.Nodup)(n:Int):(Fj l n).Nodup:=by
 unfold Fj;split
 . exact h
 . next hn=>exact List.nodup_append.2 ⟨h,by simp,fun a ha c hc e=>hn (by simp at hc;rw[<- hc,<- e];exact ha)⟩
theorem Z9{l:List Int}{n a:Int}(h:a∈Fj l n):a∈l\/a=n:=by
 unfold Fj at h;split at h
 . exact z h
 . rcases C0.1 h with h|h
   . exact z h
   . exact Ba (by simpa using h)
theorem PutS.add{X X':XSt}{Q:List Int}(h:PutS X Q){n:Int}(hn:n∈Q)(e:X'.put=Fj X.put n):PutS X' Q:=
 ⟨by rw[e];exact ZK h.1 n,fun a ha=>by
   rw[e] at ha;rcases Z9 ha with h2|h2
   . exact h.2 a h2
   . rw[h2];exact hn⟩
theorem PutS.wide{X:XSt}{Q Q':List Int}(h:PutS X Q)(hq:∀ a∈Q,a∈Q'):PutS X Q':=⟨h.1,fun a ha=>hq a (h.2 a ha)⟩
theorem LJ{n:Nat}(h1:1<=n)(Bu:n<48){i:Nat}(hi:i<139):GF (n:Int) (IP i)=A:=by
 unfold GF;rw[AE (by omega),AE (by omega),AY,Bool.or_eq_true,Bd,Bd,Bd];refine⟨by omega,?_⟩;unfold IP;split
 . exact Ba rfl
 . exact z (by omega)
theorem L0{x F:List Int}(hx:x.length=14){i:Nat}(hi:i<10)(v:Int)(b:Nat):BJ (x.set (3+i) v) F b=if b=i then v else BJ x F b:=by
 unfold BJ;by_cases hb:b<10
 . rw[AC hb,AC hb,CA (by omega)]
   by_cases e:b=i
   . rw[AC e,AC (by omega)]
   . rw[AE e,AE (by omega)]
 . have e:num (x.set (3+i) v) 13=num x 13:=by rw[CA (by omega),AE (by omega)]
   rw[AE hb,AE hb,e,AE (show ¬ b=i by omega)]
theorem L6{x F:List Int}(hx:x.length=14)(v:Int)(b:Nat):BJ (x.set 13 v) F b=if b=138 then v else BJ x F b:=by
 unfold BJ;by_cases hb:b<10
 . rw[AC hb,AC hb,CA (by omega),AE (by omega),AE (by omega)]
 . rw[AE hb,AE hb,CA (by omega),AC rfl]
   split <;> rfl
theorem Lr{x F:List Int}(hF:F.length=128){i:Nat}(Gm:10<=i)(hi:i<138)(v:Int)(b:Nat):BJ x (F.set (i-10) v) b=if b=i then v else BJ x F b:=by
 unfold BJ;by_cases hb:b<10
 . rw[AC hb,AC hb,AE (by omega)]
 . rw[AE hb,AE hb]
   by_cases o4:b=138
   . rw[AC o4,AC o4,AE (by omega)]
   . rw[AE o4,AE o4,CA (by omega)]
     by_cases e:b=i
     . rw[AC e,AC (by omega)]
     . rw[AE e,AE (by omega)]
theorem MD{x y F F':List Int}{i:Nat}(hi:i<139)(h0:BJ x F i=0){v:Int}(hv:v≠0)(h:∀ b,b<139->BJ y F' b=if b=i then v else BJ x F b):IZ y F'=IZ x F+1:=
 LM h0 (by rw[h i hi,AC rfl];exact hv) 139 hi fun j hj hne=>by rw[h j hj,AE hne]
structure Stp (S:List Int) (kk:Nat) (G N:List (List Int)) (O:List (Int × Int)) (F:Nat->List Int) (n:Nat) (G' N':List (List Int)) (O':List (Int × Int)) (F':Nat->List Int):Prop where
 pl:Pl D8 G' S N' O' kk F'
 hd:∀ j,j<3->num (N'.getD n []) j=num (N.getD n []) j
 oth:∀ m,m≠n->N'.getD m []=N.getD m []/\F' m=F m
 cnt:Dm O' (64*kk)+IZ (N.getD n []) (F n)=Dm O (64*kk)+IZ (N'.getD n []) (F' n)
 dat:DataK O O' G G'
 old:∀ u:Nat,(O.getD u (0,0)).1≠0->O'.getD u (0,0)=O.getD u (0,0)
section
variable {G:List (List Int)}{S:List Int}{N:List (List Int)}{O:List (Int × Int)}{kk:Nat}{F:Nat->List Int}
theorem Stp.trans{n:Nat}{G1 N1 G2 N2:List (List Int)}{O1 O2:List (Int × Int)}{F1 F2:Nat->List Int}(h:Stp S kk G N O F n G1 N1 O1 F1)(k:Stp S kk G1 N1 O1 F1 n G2 N2 O2 F2):Stp S kk G N O F n G2 N2 O2 F2:=
 ⟨k.pl,fun j hj=>(k.hd j hj).trans (h.hd j hj),fun m hm=>⟨(k.oth m hm).1.trans (h.oth m hm).1,(k.oth m hm).2.trans (h.oth m hm).2⟩,by have:=h.cnt;have:=k.cnt;omega,
  fun v a b c e=>by
   have e1:O1.getD v (0,0)=O.getD v (0,0):=h.old v (by rw[e];omega);have e2:O1.getD v (0,0)=O2.getD v (0,0):=e1.trans e;rw[k.dat v a b c e2,h.dat v (by rw[e2];exact a) (by rw[e2];exact b) (by rw[e2];exact c) e1.symm],
  fun u hu=>by
   have e1:=h.old u hu;rw[k.old u (by rw[e1];exact hu),e1]⟩
structure FreeB (O:List (Int × Int)) (kk f:Nat):Prop where
 fr:CU O f=A
 fx:CJ (f:Int)=AI
 lt:f<64*kk
theorem Ud{f:Nat}(hf:CU O f=A)(hl:f<O.length)(q:Int × Int)(u:Nat)(hu:(O.getD u (0,0)).1≠0):(O.set f q).getD u (0,0)=O.getD u (0,0):=by
 rw[getD_set _ _ _ _ _ hl,AE];intro e;subst e;unfold CU at hf;exact hu (A7 hf)
theorem Pl.mapNear(h:Pl D8 G S N O kk F){n i f:Nat}(h1:1<=n)(Bu:n<48)(hk:Ca N n≠0)(hi:i<10)(h0:BJ (N.getD n []) (F n) i=0)(hf:FreeB O kk f):
 Stp S kk G N O F n (PQ (P9 G O f (n,i)) S N n ((N.getD n []).set (3+i) f)) (N.set n ((N.getD n []).set (3+i) f)) (O.set f (n,i)) F/\El ((N.getD n []).set (3+i) f)=A/\
  (PQ (P9 G O f (n,i)) S N n ((N.getD n []).set (3+i) f)).getD f []=z256:=by
 have hx:=h.tab.n.get Bu;have IF:=h.tab.n.frm n Bu;have h12:=h.ok.k12;have cC:=hf.lt;have pY:=(Gs hf.fx).1;have Ha:((i:Nat):Int)=IP i:=by unfold IP;rw[AE (by omega)]
 obtain⟨t1,t2,t3,t4,t5⟩:=h.take hf.fr hf.fx hf.lt (i:=(n:Int)) (j:=(i:Int)) (by omega) (by omega) (by rw[Ha];exact LJ h1 Bu (by omega)) (by omega) (by omega);have X0:=M7 hx IF hk (a:=3+i) (by omega) (by omega) (v:=(f:Int)) (by omega);have JI:=fun b=>L0 (F:=F n) hx hi (f:Int) b
 have hm:num ((N.getD n []).set (3+i) (f:Int)) 13=num (N.getD n []) 13:=by rw[CA (by omega),AE (by omega)]
 obtain⟨s1,s2⟩:=t1.node h1 Bu (y:=(N.getD n []).set (3+i) (f:Int)) (by rw[AJ];exact hx) X0 (fun a b e=>e.elim)
  (by rw[hm];exact h.fi.m0 n h1 Bu) (by rw[hm];exact t1.fi.m1 n h1 Bu) (fun b hb hz=>by
    rw[JI] at hz |-
    split
    . next e=>subst e;rw[<- Ha];exact t2
    . next e=>rw[AE e] at hz;exact t1.fi.ow n b h1 Bu hb id hz)
 have hn:n<N.length:=by rw[h.tab.n.len];exact Bu
 refine⟨⟨s1,fun j hj=>?_,fun m hm=>⟨BE _ _ _ hm,rfl⟩,?_,?_,Ud hf.fr (by rw[h.ok.len];exact hf.lt) _⟩,X0,?_⟩
 . rw[D5 hn,AC rfl,CA (by omega),AE (by omega)]
 . rw[D5 hn,AC rfl,t4,MD (i:=i) (by omega) h0 (v:=(f:Int)) (by omega) fun b _=>JI b];omega
 . exact t5.less s2 (Less.refl _)
 . have e:=t2.2.2
   rw[B5] at e;rw[s2 f (by rw[e];simp only;omega) (by rw[e];simp only;omega) (by rw[e];simp only;omega) rfl,t3]
theorem Pl.mapFar(h:Pl D8 G S N O kk F){n i f m:Nat}(h1:1<=n)(Bu:n<48)(Gm:10<=i)(hi:i<138)(h0:BJ (N.getD n []) (F n) i=0)(hf:FreeB O kk f)(hm:num (N.getD n []) 13=(m:Int))(FH:m≠0):
 Stp S kk G N O F n ((P9 G O f (n,i)).set m (FO ((F n).set (i-10) f))) N (O.set f (n,i)) (setF F n ((F n).set (i-10) f))/\FP ((F n).set (i-10) f)=A/\
  ((P9 G O f (n,i)).set m (FO ((F n).set (i-10) f))).getD f []=z256:=by
 have h12:=h.ok.k12;have cC:=hf.lt;have pY:=(Gs hf.fx).1;have Ha:((i:Nat):Int)=IP i:=by unfold IP;rw[AE (by omega)]
 obtain⟨t1,t2,t3,t4,t5⟩:=h.take hf.fr hf.fx hf.lt (i:=(n:Int)) (j:=(i:Int)) (by omega) (by omega) (by rw[Ha];exact LJ h1 Bu (by omega)) (by omega) (by omega);have hF:=h.fi.fl n;have JI:=fun b=>Lr (x:=N.getD n []) hF.1 Gm hi (f:Int) b
 have hL:=Wg hF.2 (i-10) (v:=(f:Int)) (by omega);obtain⟨s1,s2⟩:=t1.far h1 Bu hm FH id (L:=(F n).set (i-10) (f:Int)) (by rw[AJ];exact hF.1) hL (fun a b e=>e.elim) (fun b hb10 hb hz=>by
  have e:num ((F n).set (i-10) (f:Int)) (b-10)=BJ (N.getD n []) ((F n).set (i-10) (f:Int)) b:=by unfold BJ;rw[AE (by omega),AE (by omega)]
  rw[e,JI] at hz |-
  split
  . next e=>subst e;rw[<- Ha];exact t2
  . next e=>rw[AE e] at hz;exact t1.fi.ow n b h1 Bu (by omega) id hz) (fun b hb=>id)
 refine⟨⟨s1,fun j hj=>rfl,fun a ha=>⟨rfl,bz F ha _⟩,?_,t5.less s2 (Less.refl _),Ud hf.fr (by rw[h.ok.len];exact hf.lt) _⟩,hL,?_⟩
 . rw[JX,t4,MD (i:=i) (by omega) h0 (v:=(f:Int)) (by omega) fun b _=>JI b];omega
 . have e:=t2.2.2
   rw[B5] at e;rw[s2 f (by rw[e];simp only;omega) (by rw[e];simp only;omega) (by rw[e];simp only;omega) rfl,t3]
theorem kn:FO (AD 128 0)=z256:=by decide
theorem Pl.addMap(h:Pl D8 G S N O kk F){n m:Nat}(h1:1<=n)(Bu:n<48)(hk:Ca N n≠0)(h0:num (N.getD n []) 13=0)(hf:FreeB O kk m):
 Stp S kk G N O F n (PQ (P9 G O m (n,65535)) S N n ((N.getD n []).set 13 m)) (N.set n ((N.getD n []).set 13 m)) (O.set m (n,65535)) F/\El ((N.getD n []).set 13 m)=A:=by
 have hx:=h.tab.n.get Bu;have IF:=h.tab.n.frm n Bu;have h12:=h.ok.k12;have cC:=hf.lt;have pY:=(Gs hf.fx).1;obtain⟨t1,t2,t3,t4,t5⟩:=h.take hf.fr hf.fx hf.lt (i:=(n:Int)) (j:=65535) (by omega) (by omega) (LJ h1 Bu (i:=138) (by omega)) (by omega) (by omega);have X0:=M7 hx IF hk (a:=13) (by omega) (by omega) (v:=(m:Int)) (by omega);have JI:=fun b=>L6 (F:=F n) hx (m:Int) b
 have hm:num ((N.getD n []).set 13 (m:Int)) 13=(m:Int):=by rw[CA (by omega),AC rfl]
 obtain⟨s1,s2⟩:=t1.node h1 Bu (y:=(N.getD n []).set 13 (m:Int)) (by rw[AJ];exact hx) X0 (fun a b e=>e.elim)
  (by rw[hm];intro e;omega) (by rw[hm,B5,t3,h.fi.m0 n h1 Bu h0,kn];exact fun _=>rfl) (fun b hb hz=>by
    rw[JI] at hz |-
    split
    . next e=>subst e;exact t2
    . next e=>rw[AE e] at hz;exact t1.fi.ow n b h1 Bu hb id hz)
 have hn:n<N.length:=by rw[h.tab.n.len];exact Bu
 refine⟨⟨s1,fun j hj=>?_,fun m hm=>⟨BE _ _ _ hm,rfl⟩,?_,t5.less s2 (Less.refl _),Ud hf.fr (by rw[h.ok.len];exact hf.lt) _⟩,X0⟩
 . rw[D5 hn,AC rfl,CA (by omega),AE (by omega)]
 . rw[D5 hn,AC rfl,t4,MD (i:=138) (by omega) h0 (v:=(m:Int)) (by omega) fun b _=>JI b];omega
end
section
variable {w:C}{P:Nat->Prop}{d p:Aq}{X:XSt}{S:List Int}{N:List (List Int)}{O:List (Int × Int)}{kk:Nat}{bf:Nat}
theorem Sr{W:C}{bc:Nat}(hK:AA Ae 135 #[Am (T ⟨bc,0,H⟩),J Y 0,J Y 65535] W fun e w'=>e=Ag (AO #[J Y 0,J Y 13])/\At W.heap.size W w'):
 AA Ae 134 #[Am (T ⟨bc,0,H⟩)] W fun e w'=>e=Ag (J Y 13)/\At W.heap.size W w':=by
 have K:=vJ hK;clear hK;go_enter Tryz.func134,Tryz.ntmps134;go_wp2_with (go_at_call 135;refine K.out.mono ?_;rintro e w' ⟨rfl,hb⟩)
 go_ret;exact⟨rfl,hb⟩
theorem Ui{bc m:Nat}(hK:AA Ae 135 #[Am (T ⟨bc,0,H⟩),J Y 0,J Y 65535] w fun e w'=>e=Ag (AO #[J Y m,J Y 0])/\∃ P',SInv w' P' d p X/\Chg P P' w w')
 (hw:X.wi=A) (hp:X.put.length<37) (hf:FsAt w bf p) (pZ:¬ P bf) (hT:Tab X.call S N) {n:Nat} (h1:1<=n) (Bu:n<48) {x:List Int} {fv:Aq} (hc:ChAt w bc bf n x fv) (IH:¬ P bc) (IF:El (x.set 13 m)=A):
 AA Ae 134 #[Am (T ⟨bc,0,H⟩)] w fun e w'=>e=Ag (J Y 0)/\∃ P',SInv w' P' d p (putI X S N n (x.set 13 m))/\ChAt w' bc bf n (x.set 13 m) fv/\Chg (PM P (·=bc)) (PM P' (·=bc)) w w'/\¬ P' bc:=by
 have K:=vJ hK;have HX:Hid ((x.set 13 (m:Int)).length=14):=vJ (by rw[AJ];exact hc.1);have u1:=Tryz.underlying80;obtain⟨y,hy⟩:=nm (x.set 13 (m:Int));rw[<- hy] at IF HX |-
 have HC:Hid (∀ V P',Chg P P' w V->V.cell? ⟨bc,15,H⟩=T (J Y (num x 13))/\V.frozen? ⟨bc,15,H⟩=AI):=vJ fun V P' hv=>⟨(hc.chg hv IH).1.cm,(hc.chg hv IH).1.free 15⟩
 have HD:Hid (∀ V P',Chg P P' w V->SInv V P' d p X->ChAt (V.setCell ⟨bc,15,H⟩ (J Y m)).drew bc bf n y fv/\Chg (PM P (·=bc)) (PM P' (·=bc)) w (V.setCell ⟨bc,15,H⟩ (J Y m)).drew/\
  AA Ae 42 #[Am (T ⟨bf,0,H⟩),J Y n,BD (iC y).toArray] (V.setCell ⟨bc,15,H⟩ (J Y m)).drew fun e w'=>e=Ag (J Y 0)/\∃ P'',SInv w' P'' d p (putI X S N n y)/\ChAt w' bc bf n y fv/\Chg P' P'' (V.setCell ⟨bc,15,H⟩ (J Y m)).drew w'/\¬ P'' bc):=vJ fun V P' hv hi=>by
  obtain⟨hc2,Oh⟩:=hc.chg hv IH;obtain⟨hf2,hnf2⟩:=hf.chg hv pZ;have hw3:=Wrote.setCell V bc 15 (J Y (m:Int));have hc3:=hc2.setN (k:=13) (by decide) (m:Int);rw[show 2+13=15 by rfl,<- hy] at hc3;have hd:=(AM (V.setCell ⟨bc,15,H⟩ (J Y (m:Int))).heap.size (V.setCell ⟨bc,15,H⟩ (J Y (m:Int)))).drew;have hf3:FsAt (V.setCell ⟨bc,15,H⟩ (J Y (m:Int))) bf p:=(hw3.2.2.2.2 bf (hf2.ne_ch hc2)).trans hf2;exact⟨hc3.low hd,(hv.pm _).trans ((Chg.one (P:=P') hw3).trans (Chg.of_below hd)),iI ((hi.wrote hw3 Oh).low hd) hw hp (hf3.low hd) hT h1 Bu (hc3.low hd) Oh IF⟩
 obtain⟨m0,FH⟩:=nm (num x 13);rw[<- FH] at HC;clear hK hw hp hf pZ hT h1 Bu hc IH IF hy FH;go_enter Tryz.func134,Tryz.ntmps134;go_upto_region 5 with(go_at_call 135;refine K.out.mono ?_;rintro e w2 ⟨rfl,P2,Hc,hg2⟩;obtain⟨c15,f15⟩:=HC.out _ _ hg2)
 obtain⟨hS,hg3,hk3⟩:=HD.out _ _ hg2 Hc;have HG:=vJ hg3;have KP:=vJ hk3;clear hg2 Hc c15 f15 hg3 hk3;refine wp_region_held_drew (S:=fun W=>ChAt W bc bf n y fv) (by kernel_rfl) hS (fun hHeld=>?_);clear hHeld;refine tk 0 (Am (T ⟨bc,0,H⟩)) rfl (by kernel_rfl) (fun _ _ _ h=>h) (z ⟨by rfl,?_⟩) (by assumption) ?_
 . intro W hM;go_simp
 (try simp only[AR,q1,q2,q3,q4,q5])
 refine tk 1 (Am (T ⟨bc,0,H⟩)) rfl (by kernel_rfl) (fun _ _ _ h=>h) (z ⟨by rfl,?_⟩) (by assumption) ?_
 . intro W hM;go_simp
 (try simp only[AR,q1,q2,q3,q4,q5,q6])
 refine tk 2 (Am (T ⟨bc,0,H⟩)) rfl (by kernel_rfl) (fun _ _ _ h=>h) (z ⟨by rfl,?_⟩) (by assumption) ?_
 . intro W hM;go_simp
 (try simp only[AR,q1,q2,q3,q4,q5,q6])
 refine tk 3 (Am (T ⟨bf,0,H⟩)) rfl (by kernel_rfl) (fun _ _ _ h=>h) (z ⟨by rfl,?_⟩) (by assumption) ?_
 . intro W hM;have f0:=hM.c0;go_simp
 (try simp only[AR,q1,q2,q3,q4,q5,q6])
 refine tk 4 (Am (T ⟨bc,0,H⟩)) rfl (by kernel_rfl) (fun _ _ _ h=>h) (z ⟨by rfl,?_⟩) (by assumption) ?_
 . intro W hM;go_simp
 (try simp only[AR,q1,q2,q3,q4,q5,q6])
 refine tk 5 (Am (T ⟨bc,0,H⟩)) rfl (by kernel_rfl) (fun _ _ _ h=>h) (z ⟨by rfl,?_⟩) (by assumption) ?_
 . intro W hM;go_simp
 (try simp only[AR,q1,q2,q3,q4,q5,q6])
 refine tk 6 (Am (T ⟨bc,1,H⟩)) rfl (by kernel_rfl) (fun _ _ _ h=>h) (z ⟨by rfl,?_⟩) (by assumption) ?_
 . intro W hM;go_simp
 (try simp only[AR,q1,q2,q3,q4,q5,q6])
 refine tk 7 (J Y n) rfl (by kernel_rfl) (fun _ _ _ h=>h) (z ⟨by rfl,?_⟩) (by assumption) ?_
 . intro W hM;have f1:=hM.c1;go_simp
 (try simp only[AR,q1,q2,q3,q4,q5,q6])
 refine tk 8 (Am (T ⟨bc,0,H⟩)) rfl (by kernel_rfl) (fun _ _ _ h=>h) (z ⟨by rfl,?_⟩) (by assumption) ?_
 . intro W hM;go_simp
 (try simp only[AR,q1,q2,q3,q4,q5,q6])
 refine tk 9 (Am (T ⟨bc,0,H⟩)) rfl (by kernel_rfl) (fun _ _ _ h=>h) (z ⟨by rfl,?_⟩) (by assumption) ?_
 . intro W hM;go_simp
 (try simp only[AR,q1,q2,q3,q4,q5,q6])
 refine tk 10 (Am (T ⟨bc,2,H⟩)) rfl (by kernel_rfl) (fun _ _ _ h=>h) (z ⟨by rfl,?_⟩) (by assumption) ?_
 . intro W hM;go_simp
 (try simp only[AR,q1,q2,q3,q4,q5,q6])
 refine tk 11 (BD (iC y).toArray) rfl (by kernel_rfl) (fun _ _ _ h=>h) (yieldsIf_load_mid rfl 80 (.tmp 28) rfl bc 2 rfl (iC y) _ (fun W hW=>hW.rng) u1 rfl (by rw[Hf,Cx,HX.out])) (by assumption) ?_
 (try simp only[AR,q1,q2,q3,q4,q5,q6])
 refine wpAnyH_ready (rs:=[12]) (by kernel_rfl) (by simp) (EL rfl (fun K hK=>?_) AllReadyH.nil)
 go_simp
 go_at_call 42
 refine KP.out.mono ?_;rintro e w4 ⟨rfl,P4,ai,hc4,hg4⟩;refine hK.out _ _ hc4 (fun hHeld=>?_);clear hK K hHeld
 (try simp only[AR,q1,q2,q3,q4,q5,q6])
 refine tk 13 (J Y 0) rfl (by kernel_rfl) (fun _ _ _ h=>h) (z ⟨by rfl,?_⟩) (by assumption) ?_
 . intro W hM;go_simp
 (try simp only[AR,q1,q2,q3,q4,q5,q6])
 refine wpAnyH_done (by kernel_rfl) ?_ _;go_wp2;go_ret;exact⟨rfl,P4,ai,hc4,HG.out.trans (hg4.1.pm _),hg4.2⟩
end
end
end Go.Proofs.YtdefiimcmecnnaaGreat
