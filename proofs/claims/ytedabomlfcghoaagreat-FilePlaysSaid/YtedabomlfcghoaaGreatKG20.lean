/- What the law rests on: part 20. -/
import Derived.Test.YtedabomlfcghoaaGreatKG19
set_option linter.unusedVariables false
namespace Go.Proofs.YtedabomlfcghoaaGreat
set_option maxRecDepth 100000
open Go.RowKit
section
variable {X:XSt}{ek:List Int}{ev:Int->List Int}{pk:List Int}{pv:Int->List Int}
theorem SPl.base(h:SPl X ek ev pk pv):X.base.length=X.is.length:=h.ok.lst.glen
theorem SPl.undo(h:SPl X ek ev pk pv)(pv':Int->List Int):SPl { X with wi:=false } ek ev [] pv':=
 { h with ok:={ h.ok with call:=fun e=>Bool.noConfusion (show false=true from e) },kp:=fun x hx=>absurd hx List.not_mem_nil,pl:=Nat.zero_le _,wi0:=fun _=>rfl,wi1:=fun e=>Bool.noConfusion (show false=true from e) }
theorem SPl.merged(h:SPl X ek ev pk pv)(hw:X.wi=true)(i:Nat)(ho:OutJ i)(hi:i<X.is.length):X.call.getD i []=if (i:Int)∈uniN ek pk then Zet pk pv ev i else X.base.getD i []:=by
 obtain⟨_,_,h2⟩:=h.wi1 hw;rw[h2 i ho hi,h.isx i ho hi];unfold Zet;by_cases hp:(i:Int)∈pk
 . rw[if_pos hp,if_pos (mem_uniN.2 (.inr hp)),if_pos hp]
 . rw[if_neg hp]
   by_cases he:(i:Int)∈ek
   . rw[if_pos he,if_pos (mem_uniN.2 (.inl he)),if_neg hp]
   . rw[if_neg he,if_neg fun e=>(mem_uniN.1 e).elim he hp]
theorem SPl.small(h:SPl X ek ev pk pv)(hw:X.wi=true)(hu:(uniN ek pk).length<=37)(pv':Int->List Int):SPl { X with base:=X.base,is:=X.call,wi:=false,dt:=(uniN ek pk).length,ds:=X.ds } (uniN ek pk) (Zet pk pv ev) [] pv':=by
 obtain⟨_,hcl,_⟩:=h.wi1 hw;have hcl':X.call.length=X.is.length:=hcl;refine⟨⟨?_,h.ok.pow,h.ok.un,fun e=>Bool.noConfusion (show false=true from e),hu⟩,?_,h.u0,?_,fun x hx=>absurd hx List.not_mem_nil,hu,Nat.zero_le _,rfl,?_,fun _=>rfl,fun e=>Bool.noConfusion (show false=true from e)⟩
 . show Lst X.call.length X.ds X.base
   rw[hcl'];exact h.ok.lst
 . show 64<=X.call.length/\X.call.length<=768
   rw[hcl'];exact h.n64
 . intro x hx
   show inK X.call.length x
   rw[hcl'];exact(mem_uniN.1 hx).elim (h.ki x) (h.kp x)
 . intro i ho hi
   have hi':i<X.call.length:=hi;exact h.merged hw i ho (by omega)
theorem uni_nil(pk:List Int):uniN [] pk=pk:=by
 unfold uniN;rw[List.nil_append,List.filter_eq_self];intro x _;simp
theorem SPl.great(h:SPl X ek ev pk pv)(hw:X.wi=true){ds':DS}(hl:Lst X.is.length ds' X.is)(hd:ds'.dn=false)(hU:ds'.U=[])(pv':Int->List Int):SPl { X with base:=X.is,is:=X.call,wi:=false,dt:=(uniN [] pk).length,ds:=ds' } (uniN [] pk) (Zet pk pv ev) [] pv':=by
 obtain⟨_,hcl,hcv⟩:=h.wi1 hw;have hcl':X.call.length=X.is.length:=hcl;have hpl:(uniN [] pk).length<=37:=by rw[uni_nil];exact h.pl
 refine⟨⟨?_,hd,by show ds'.U.length<=1000;rw[hU];exact Nat.zero_le _,fun e=>Bool.noConfusion (show false=true from e),hpl⟩,?_,hU,?_,fun x hx=>absurd hx List.not_mem_nil,hpl,Nat.zero_le _,rfl,?_,fun _=>rfl,fun e=>Bool.noConfusion (show false=true from e)⟩
 . show Lst X.call.length ds' X.is
   rw[hcl'];exact hl
 . show 64<=X.call.length/\X.call.length<=768
   rw[hcl'];exact h.n64
 . intro x hx
   show inK X.call.length x
   rw[hcl'];rw[uni_nil] at hx;exact h.kp x hx
 . intro i ho hi
   have hi':i<X.call.length:=hi;show X.call.getD i []=if (i:Int)∈uniN [] pk then Zet pk pv ev i else X.is.getD i []
   rw[uni_nil,hcv i ho (by omega)];by_cases hp:(i:Int)∈pk
   . rw[if_pos hp,if_pos hp];unfold Zet;rw[if_pos hp]
   . rw[if_neg hp,if_neg hp]
theorem SPl.okT(h:SPl X ek ev pk pv)(hn:ek.Nodup)(hv:∀ x∈ek,(ev x).length=256):okT X.is.length (Zak ek) ((Zak ek).map ev):=set_ok hn h.el h.ki h.n64.2 hv
theorem SPl.set(h:SPl X ek ev pk pv)(hn:ek.Nodup)(hv:∀ x∈ek,(ev x).length=256){q:Int}(hq:0<=q/\q<4294967296):
 let r:=runA (setA q (Zak ek) ((Zak ek).map ev)) X.ds
 (r.1=0->r.2.dn=false/\r.2.U=[]/\Lst X.is.length r.2 X.is)/\(r.1=2->X.ds.fu=true/\DeadOk X.is.length r.2 [X.base,X.is]):=by
 intro r;have hT:=h.okT hn hv;obtain⟨h1,h2⟩:=set_plain h.ok.lst (by have:=h.n64.1;omega) h.u0 h.ok.pow hT hq;have hE:=set_is (B:=X.base) (I:=X.is) h.ki h.base rfl h.isx;refine⟨fun h0=>?_,fun h0=>?_⟩
 . obtain⟨a,b,c⟩:=h1 h0
   exact⟨a,b,c.toO hE⟩
 . obtain⟨a,b,c,e⟩:=h2 h0
   refine⟨a,b,c,fun kp=>?_⟩;obtain⟨G,hG,hJ⟩:=e kp;simp only[List.mem_cons,List.not_mem_nil,or_false] at hG;rcases hG with rfl|rfl
   . exact⟨_,by simp,hJ⟩
   . exact⟨X.is,by simp,hJ.toO hE⟩
end
section
variable {w:World}{P:Nat->Prop}{d p:Value}{X:XSt}
theorem sEndNo_of(h:SInv w P d p X)(hw:X.wi=false)(k:Bool):Calls Tryz.prog 21 #[p,.bool k] w (XOut SInv w P d p (17,X)):=by
 have h':=h;obtain⟨b,be,bp,Pd,q,ek,eg,ev,pk,pg,pv,rfl,hm,hpl,ho,hl⟩:=h;rw[hw] at hm;exact(sEnd_no hm k).mono fun e w' ⟨he,hww⟩=>by subst hww;exact⟨he,P,h',Chg.refl _ _⟩
theorem sEndUndo_of(h:SInv w P d p X)(hw:X.wi=true):Calls Tryz.prog 21 #[p,.bool false] w (XOut SInv w P d p (0,{ X with wi:=false })):=by
 obtain⟨b,be,bp,Pd,q,ek,eg,ev,pk,pg,pv,rfl,hm,hpl,ho,hl⟩:=h;rw[hw] at hm;refine(sEnd_undo hm).mono ?_;rintro e w' ⟨rfl,rfl⟩;obtain⟨hm',hsz,hext⟩:=hm.cleared pg pv;refine⟨rfl,_,sinv_of hm' (hpl.undo pv) hl hext.size ?_,(hext.sub fun k e=>ho k (.inr (.inl e))).chg⟩;intro k hk;rcases hk with hk|rfl|rfl|rfl| ⟨x,hx,hg⟩| ⟨x,hx,_⟩
 . exact .inl (ho k (.inl hk))
 . exact .inl (ho _ (.inr (.inl rfl)))
 . exact .inl (ho _ (.inr (.inr (.inl rfl))))
 . exact .inr (Nat.le_refl _)
 . exact .inl (ho k (.inr (.inr (.inr (.inr (.inl ⟨x,hx,hg⟩))))))
 . exact absurd hx List.not_mem_nil
theorem own_pick{ek pk:List Int}{eg pg:Int->Value}{x:Int}{k:Nat}(hx:x∈uniN ek pk)(hg:(Zet pk pg eg x).ownBlock=some k):(∃ y,y∈ek/\(eg y).ownBlock=some k)\/∃ y,y∈pk/\(pg y).ownBlock=some k:=by
 unfold Zet at hg;by_cases hp:x∈pk
 . rw[if_pos hp] at hg;exact .inr ⟨x,hp,hg⟩
 . rw[if_neg hp] at hg;exact .inl ⟨x,(mem_uniN.1 hx).resolve_right hp,hg⟩
theorem sEndKeep_of(h:SInv w P d p X)(hw:X.wi=true):Calls Tryz.prog 21 #[p,.bool true] w fun e w'=>
 (∃ B dt ds',(B=X.base\/B=X.is\/B=X.call)/\ds'.fu=X.ds.fu/\XOut SInv w P d p (0,{ X with base:=B,is:=X.call,wi:=false,dt:=dt,ds:=ds' }) e w')\/XDead SDead w P d p X [X.base,X.is,X.call] e w':=by
 obtain⟨b,be,bp,Pd,q,ek,eg,ev,pk,pg,pv,rfl,hm,hpl,ho,hl⟩:=h;rw[hw] at hm;have hv:∀ x∈ek,(ev x).length=256:=fun x hx=>(hm.re x hx).2
 by_cases hu:(uniN ek pk).length<=37
 . refine(sEnd_keep (Q:=fun w1=>SMem w1 Pd b be bp d q (uniN ek pk) (Zet pk pg eg) (Zet pk pv ev) pk pg pv true X.ds/\Ext (fun k=>k=be) w w1) hm ((sJoin_small hm hpl.el hpl.pl hu).mono fun e w1 ⟨he,h1,hx⟩=>⟨he,⟨h1,hx⟩,_,_,_,_,_,_,_,h1⟩)).mono ?_
   rintro e w' ⟨rfl,w1,⟨hm1,hx1⟩,rfl⟩;obtain⟨hm',hsz,hext⟩:=hm1.cleared pg pv;have hE:Ext (fun k=>k=be\/k=b) w _:=(hx1.sub fun k e=>.inl e).trans (P2:=fun k=>k=b) hext fun k _ e=>.inr e
   refine .inl ⟨X.base,(uniN ek pk).length,X.ds,.inl rfl,rfl,rfl,_,sinv_of hm' (hpl.small hw hu pv) hl hE.size ?_,(hE.sub fun k e=>e.elim (fun e=>ho k (.inr (.inr (.inl e)))) fun e=>ho k (.inr (.inl e))).chg⟩;intro k hk;rcases hk with hk|rfl|rfl|rfl| ⟨x,hx,hg⟩| ⟨x,hx,_⟩
   . exact .inl (ho k (.inl hk))
   . exact .inl (ho _ (.inr (.inl rfl)))
   . exact .inl (ho _ (.inr (.inr (.inl rfl))))
   . exact .inr hx1.size
   . exact .inl (ho k (.inr (.inr (.inr (.inr (own_pick hx hg))))))
   . exact absurd hx List.not_mem_nil
 . have hT:=hpl.okT hm.me.nodup hv
   obtain⟨s1,s2⟩:=hpl.set hm.me.nodup hv hm.q0;have hB:Zfe X.ds.F.length (Zak ek) ((Zak ek).map ev)=true:=by rw[hpl.ok.lst.1];exact hT.takes hpl.n64.1
   have KJ:=sJoin_great hm hpl.el hpl.pl (by omega) hB (by rw[hpl.u0];exact Nat.zero_le _);have hfu:=runA_fu (setA q (Zak ek) ((Zak ek).map ev)) X.ds;have hr:=Zdv (setA q (Zak ek) ((Zak ek).map ev)) X.ds;generalize runA (setA q (Zak ek) ((Zak ek).map ev)) X.ds=r at s1 s2 KJ hfu hr;obtain⟨r,s'⟩:=r;rcases hr with h0|h0
   . simp only at h0
     subst h0;obtain⟨g1,g2,g3⟩:=s1 rfl;refine(sEnd_keep (Q:=fun w1=>∃ be' Pd' q',SMem w1 Pd' b be' bp d q' (uniN [] pk) (Zet pk pg eg) (Zet pk pv ev) pk pg pv true s'/\(w.heap.size<=be'/\be'<w1.heap.size)/\(∀ k,Pd' k->Pd k\/w.heap.size<=k)/\Ext (fun k=>Pd k\/k=b) w w1) hm (KJ.mono fun e w1 hq=>by
      rcases hq with⟨_,he,hx⟩| ⟨h2,_⟩
      . obtain⟨be',Pd',q',h1,r⟩:=hx
        exact⟨he,⟨be',Pd',q',h1,r⟩,_,_,_,_,_,_,_,h1⟩
      . exact absurd (show(0:Int)=2 from h2) (by decide))).mono ?_
     rintro e w' ⟨rfl,w1,⟨be',Pd',q',hm1,hbe,hpd,hx1⟩,rfl⟩;obtain⟨hm',hsz,hext⟩:=hm1.cleared pg pv;have hE:Ext (fun k=>Pd k\/k=b) w _:=hx1.trans (P2:=fun k=>k=b) hext fun k _ e=>.inr e
     refine .inl ⟨X.is,(uniN [] pk).length,s',.inr (.inl rfl),hfu,rfl,_,sinv_of hm' (hpl.great hw g3 g1 g2 pv) hl hE.size ?_,(hE.sub fun k e=>e.elim (fun e=>ho k (.inl e)) fun e=>ho k (.inr (.inl e))).chg⟩;intro k hk;rcases hk with hk|rfl|rfl|rfl| ⟨x,hx,hg⟩| ⟨x,hx,_⟩
     . exact(hpd k hk).imp (fun e=>ho k (.inl e)) id
     . exact .inl (ho _ (.inr (.inl rfl)))
     . exact .inr hbe.1
     . exact .inr hx1.size
     . rw[uni_nil] at hx
       unfold Zet at hg;rw[if_pos hx] at hg;exact .inl (ho k (.inr (.inr (.inr (.inr (.inr ⟨x,hx,hg⟩))))))
     . exact absurd hx List.not_mem_nil
   . simp only at h0
     subst h0;obtain⟨g1,g2⟩:=s2 rfl;refine(sEnd_dead (Q:=fun w1=>∃ Pd',w1.heap[b]? =some deadRow/\Dk w1 Pd' d s'/\(∀ k,Pd' k->Pd k\/w.heap.size<=k)/\Ext (fun k=>Pd k\/k=b) w w1) hm (KJ.mono fun e w1 hq=>by
      rcases hq with⟨h2,_⟩| ⟨_,he,hx⟩
      . exact absurd (show(2:Int)=0 from h2) (by decide)
      . exact⟨he,hx⟩)).mono ?_
     rintro e w' ⟨rfl,Pd',hb,hdk,hpd,hx⟩;obtain⟨k1,k2,k3⟩:=g2;refine .inr ⟨g1,rfl,grP P w w',s',⟨b,Pd',rfl,hb,hdk,fun k hk=>?_,fun k hk=>hk.elim (fun h=>Nat.lt_of_lt_of_le (hl k h) hx.size) fun h=>h.2⟩,(hx.sub fun k e=>e.elim (fun e=>ho k (.inl e)) fun e=>ho k (.inr (.inl e))).chg,k1,k2,fun kp=>?_⟩
     . rcases hk with hk|rfl
       . exact(hpd k hk).imp (fun e=>ho k (.inl e)) fun e=>⟨e,hdk.lt k hk⟩
       . exact .inl (ho _ (.inr (.inl rfl)))
     . obtain⟨G,hG,hJ⟩:=k3 kp
       refine⟨G,?_,hJ⟩;simp only[List.mem_cons,List.not_mem_nil,or_false] at hG |-
       rcases hG with e|e
       . exact .inl e
       . exact .inr (.inl e)
end
theorem open_mem{W:World}{P:Nat->Prop}{d:Value}{s:DS}{x:Int}(hd:Dk W P d s)(hx:0<=x/\x<4294967296)(eg:Int->Value)(ev:Int->List Int):
 let w':=((W.alloc (.map #[] 0)).alloc (.map #[] 0)).alloc (.cells #[d,.int .u32 x,.map (some W.heap.size),.map (some (W.heap.size+1)),.bool false,.bool false] 92)
 SMem w' P (W.heap.size+1+1) W.heap.size (W.heap.size+1) d x [] eg ev [] eg ev false s/\Below W.heap.size W w'/\w'.heap.size=W.heap.size+3:=by
 intro w';obtain⟨w1,hw1⟩:∃ w1,w1=W.alloc (.map #[] 0):=⟨_,rfl⟩;obtain⟨w2,hw2⟩:∃ w2,w2=w1.alloc (.map #[] 0):=⟨_,rfl⟩;have hs1:w1.heap.size=W.heap.size+1:=by rw[hw1];simp
 have hs2:w2.heap.size=W.heap.size+1+1:=by rw[hw2];simp[hs1]
 have hw':w'=w2.alloc (.cells #[d,.int .u32 x,.map (some W.heap.size),.map (some (W.heap.size+1)),.bool false,.bool false] 92):=by rw[hw2,hw1]
 have b1:Below W.heap.size W w1:=by rw[hw1];exact Zaa W _
 have b2:Below w1.heap.size w1 w2:=by rw[hw2];exact Zaa w1 _
 have b3:Below w2.heap.size w2 w':=by rw[hw'];exact Zaa w2 _
 have hm1:Mp w1 W.heap.size [] eg:=by rw[hw1];exact Mp.made W eg
 have hm2:Mp w2 w1.heap.size [] eg:=by rw[hw2];exact Mp.made w1 eg
 have hb:Below W.heap.size W w':=b1.trans ((b2.trans (b3.mono b2.size)).mono b1.size);have hr:w'.heap[W.heap.size+1+1]? =some (.cells #[d,.int .u32 x,.map (some W.heap.size),.map (some (W.heap.size+1)),.bool false,.bool false] 92 (0,0)):=by
  rw[<- hs2,hw'];exact heap_alloc_new w2 _
 refine⟨⟨hr,hd.below hb,hx,(hm1.keep (b2.block _ (by rw[hs1];omega))).keep (b3.block _ (by rw[hs2];omega)),?_,by omega,fun x hx=>absurd hx List.not_mem_nil,fun x hx=>absurd hx List.not_mem_nil⟩,hb,by rw[hw'];simp[hs2]⟩;rw[<- hs1];exact hm2.keep (b3.block _ (by rw[hs2,hs1];omega))
theorem sOpen_of{w:World}{P:Nat->Prop}{d:Value}{ds:DS}{n:Nat}{G:List (List Int)}(h:Dk w P d ds)(h64:64<=n)(h768:n<=768)(hU:ds.U=[])(hd:ds.dn=false)(hJ:Jst n ds.F G):Calls Tryz.prog 46 #[d] w fun e w'=>
 (∃ p ds' P',e=.returned (.tuple #[p,.int .i64 0])/\ds'.fu=ds.fu/\SInv w' P' d p ⟨G,G,[],[],false,0,ds'⟩/\Chg P P' w w')\/
   (ds.fu=true/\e=.returned (.tuple #[.pointer none,.int .i64 2])/\∃ ds' P',Dk w' P' d ds'/\Chg P P' w w'/\DeadOk n ds' [G]):=by
 have KR:=hid (recover_any h h64 hU hd hJ);have hlt:=fun k hk=>h.lt k hk
 have HL:=hid hlt;have HG:Hid (G.length=n):=hid hJ.2.1;have H64:=hid (And.intro h64 h768);have hmm:=@run_makeMap Tryz.prog;obtain⟨bd,rfl⟩:=h.ptr;clear h h64 h768 hU hd hJ hlt;go_enter Tryz.func46,Tryz.ntmps46
 go_upto_region 2 with(go_at_call 89;(with_reducible refine KR.out.mono ?_);rintro e w1 ⟨x,r,s',P1,rfl,hd1,hc1,hu1,hf1,hr1,hcr,h0,hf0,hx,hfu⟩
                       have HD:=hid hd1;have HC:=hid hc1;have HCR:=hid (And.intro hu1 (And.intro hf1 hcr));have H0:=hid h0;have HF0:=hid hf0;have HX:=hid hx;have HFU:=hid hfu;have HR:=hid hr1;clear hd1 hc1 hu1 hf1 hcr h0 hf0 hx hfu hr1)
 rcases HR.out with e0|e0
 . subst e0
   go_wp2;go_ret2;obtain⟨g1,g2,g3⟩:=H0.out (by first|rfl|trivial);obtain⟨hm,hb,hsz⟩:=open_mem HD.out HX.out (fun _=>undef) (fun _=>[]);have hE:Ext P w _:=(Ext.of_chg HC.out fun k hk=>hk).trans (P2:=P) (Ext.of_below hb) fun k _ e=>e
   refine .inl ⟨_,rfl,s',HFU.out,_,sinv_of (X:=⟨G,G,[],[],false,0,s'⟩) (P:=P) hm ⟨⟨by show Lst G.length s' G;rw[HG.out];exact g3,g1,by rw[g2];exact Nat.zero_le _,fun e=>Bool.noConfusion (show false=true from e),Nat.zero_le _⟩,by show 64<=G.length/\G.length<=768;rw[HG.out];exact H64.out,g2,fun x hx=>absurd hx List.not_mem_nil,fun x hx=>absurd hx List.not_mem_nil,Nat.zero_le _,Nat.zero_le _,rfl,fun i _ _=>(if_neg List.not_mem_nil).symm,fun _=>rfl,fun e=>Bool.noConfusion (show false=true from e)⟩ HL.out hE.size ?_,hE.chg⟩;intro k hk;have hs:=HC.out.size;rcases hk with hk|rfl|rfl|rfl| ⟨x,hx,_⟩| ⟨x,hx,_⟩
   . exact chg_new HC.out hk
   . exact .inr (by omega)
   . exact .inr (by omega)
   . exact .inr (by omega)
   . exact absurd hx List.not_mem_nil
   . exact absurd hx List.not_mem_nil
 . subst e0
   go_wp2;go_ret2;refine .inr ⟨?_,rfl,s',P1,HD.out,HC.out,HCR.out.1,HCR.out.2.1,fun kp=>⟨G,by simp,HCR.out.2.2 kp⟩⟩;cases hf:ds.fu
   . exact absurd (HF0.out hf) (by decide)
   . rfl
theorem landed:Sto SInv SDead where
 plain h:=by obtain⟨_,_,_,_,_,_,_,_,_,_,_,_,_,hpl,_⟩:=h;exact hpl.ok
 ptr h:=by obtain⟨b,_,_,_,_,_,_,_,_,_,_,hp,_⟩:=h;exact⟨b,hp⟩
 lt h:=by obtain⟨_,_,_,_,_,_,_,_,_,_,_,_,_,_,_,hl⟩:=h;exact hl
 keep h hs hk:=h.keep hs hk
 disk h:=by obtain⟨_,_,_,Pd,_,_,_,_,_,_,_,_,hm,_,ho,_⟩:=h;exact⟨Pd,fun k hk=>ho k (.inl hk),hm.dk⟩
 deadLt h:=by obtain⟨_,_,_,_,_,_,hl⟩:=h;exact hl
 deadKeep h hs hk:=h.keep hs hk
 deadDisk h:=by obtain⟨_,Pd,_,_,hd,ho,_⟩:=h;exact⟨Pd,fun k hk=>ho k (.inl hk),hd⟩
 begin h:=sBegin_of h
 put h hv hn hj:=sPut_of h hv hn hj
 getOut h _ ho:=sGet_out h ho
 getIn h hn:=sGet_in h hn
 endNo h hw:=sEndNo_of h hw _
 endUndo h hw:=sEndUndo_of h hw
 endKeep h hw:=sEndKeep_of h hw
 opens h h64 h768 hU hd hJ:=sOpen_of h h64 h768 hU hd hJ
end Go.Proofs.YtedabomlfcghoaaGreat
namespace Go.Proofs.YtedabomlfcghoaaGreat
set_option maxRecDepth 100000
open Go.RowKit BM
def takeNo(b l i j:Int):Prop:=frmB b=false\/frmB l=false\/b<l\/frmO i j=false\/i=0\/i=65535
theorem spTake_no{b l g i j:Int}(hb:b<=9223372036854775807)(hl:l<=9223372036854775807)(hi:0<=i/\i<=65535)(hj:0<=j/\j<=65535)(hno:takeNo b l i j)(p:Value)(w:World):
 Calls Tryz.prog 189 #[p,.int .i64 b,.int .i64 l,.int .i64 g,.agg #[.int .u16 i,.int .u16 j]] w fun e w'=>e=.returned (.tuple #[.int .i64 0,.int .i64 1])/\Below w.heap.size w w':=by
 have hb1:=Zaa w (.cells #[.int .u16 i,.int .u16 j] 109);cases h1:frmB b
 . have K1:=hid (fun W:World=>gFormed_no b hb h1 W)
   clear hno h1;go_enter Tryz.func189,Tryz.ntmps189;go_wp2_with (go_at_call 52;refine(K1.out _).mono ?_;rintro e w' ⟨rfl,rfl⟩)
   go_ret2;exact⟨rfl,hb1⟩
 . have K1:Hid (∀ W:World,Calls Tryz.prog 52 #[.int .i64 b] W fun e w'=>e=.returned (.bool true)/\W=w'):=hid fun W=>by rw[<- h1];exact Zex b hb W
   cases h2:frmB l
   . have K2:=hid (fun W:World=>gFormed_no l hl h2 W)
     clear hno h1 h2;go_enter Tryz.func189,Tryz.ntmps189
     go_wp2_with (first
      |(go_at_call 52;(with_reducible refine(K1.out _).mono ?_);rintro e w' ⟨rfl,rfl⟩)
      |(go_at_call 52;(with_reducible refine(K2.out _).mono ?_);rintro e w' ⟨rfl,rfl⟩))
     go_ret2;exact⟨rfl,hb1⟩
   . have K2:Hid (∀ W:World,Calls Tryz.prog 52 #[.int .i64 l] W fun e w'=>e=.returned (.bool true)/\W=w'):=hid fun W=>by rw[<- h2];exact Zex l hl W
     by_cases h3:b<l
     . clear hno h1 h2
       go_enter Tryz.func189,Tryz.ntmps189
       go_wp2_with (first
        |(go_at_call 52;(with_reducible refine(K1.out _).mono ?_);rintro e w' ⟨rfl,rfl⟩)
        |(go_at_call 52;(with_reducible refine(K2.out _).mono ?_);rintro e w' ⟨rfl,rfl⟩))
       go_ret2;exact⟨rfl,hb1⟩
     . cases h4:freeP i j
       . have K3:=hid (Zhv i j false h4)
         cases h5:frmO i j
         . have K4:=hid (Zgj i j hi hj false h5)
           have HR:=hid (fun(W:World) (hb:Below (w.alloc (.cells #[.int .u16 i,.int .u16 j] 109)).heap.size (w.alloc (.cells #[.int .u16 i,.int .u16 j] 109)) W)=>show W.cell? ⟨w.heap.size,0,none⟩=some (.int .u16 i)/\W.cell? ⟨w.heap.size,1,none⟩=some (.int .u16 j) from⟨cell_of_row _ _ _ _ _ _ (Zad (heap_alloc_new w _) hb),cell_of_row _ _ _ _ _ _ (Zad (heap_alloc_new w _) hb)⟩);have HB1:=hid hb1;clear hno h1 h2 h4 h5 hb1;go_enter Tryz.func189,Tryz.ntmps189
           go_wp2_with (first
            |(go_at_call 52;(with_reducible refine(K1.out _).mono ?_);rintro e w' ⟨rfl,rfl⟩)
            |(go_at_call 52;(with_reducible refine(K2.out _).mono ?_);rintro e w' ⟨rfl,rfl⟩)
            |(go_at_call 57;refine(K3.out _).mono ?_;rintro e w2 ⟨rfl,hb2⟩;obtain⟨c0,c1⟩:=HR.out _ hb2;have hb02:=HB1.out.trans (hb2.mono HB1.out.size))
            |(go_at_call 179;refine(K4.out _).mono ?_;rintro e w3 ⟨rfl,hb3⟩))
           go_ret2;exact⟨rfl,hb02.trans (hb3.mono hb02.size)⟩
         . have K4:=hid (Zgj i j hi hj true h5)
           obtain rfl:i=65535:=by
            have e0:i≠0:=fun e=>by subst e;rw[frm_zero h5] at h4;exact absurd h4 (by decide)
            rcases hno with h|h|h|h|h|h
            . rw[h1] at h;cases h
            . rw[h2] at h;cases h
            . exact absurd h h3
            . rw[h5] at h;cases h
            . exact absurd h e0
            . exact h
           have HR:=hid (fun(W:World) (hb:Below (w.alloc (.cells #[.int .u16 65535,.int .u16 j] 109)).heap.size (w.alloc (.cells #[.int .u16 65535,.int .u16 j] 109)) W)=>show W.cell? ⟨w.heap.size,0,none⟩=some (.int .u16 65535)/\W.cell? ⟨w.heap.size,1,none⟩=some (.int .u16 j) from⟨cell_of_row _ _ _ _ _ _ (Zad (heap_alloc_new w _) hb),cell_of_row _ _ _ _ _ _ (Zad (heap_alloc_new w _) hb)⟩);have HB1:=hid hb1;clear hno h1 h2 h4 h5 hb1;go_enter Tryz.func189,Tryz.ntmps189
           go_wp2_with (first
            |(go_at_call 52;(with_reducible refine(K1.out _).mono ?_);rintro e w' ⟨rfl,rfl⟩)
            |(go_at_call 52;(with_reducible refine(K2.out _).mono ?_);rintro e w' ⟨rfl,rfl⟩)
            |(go_at_call 57;refine(K3.out _).mono ?_;rintro e w2 ⟨rfl,hb2⟩;obtain⟨c0,c1⟩:=HR.out _ hb2;have hb02:=HB1.out.trans (hb2.mono HB1.out.size))
            |(go_at_call 179;refine(K4.out _).mono ?_;rintro e w3 ⟨rfl,hb3⟩;obtain⟨c30,c31⟩:=HR.out _ (hb2.trans (hb3.mono hb2.size))))
           go_ret2;exact⟨rfl,hb02.trans (hb3.mono hb02.size)⟩
       . have K3:=hid (Zhv i j true h4)
         have HB1:=hid hb1;clear hno h1 h2 h4 hb1;go_enter Tryz.func189,Tryz.ntmps189
         go_wp2_with (first
          |(go_at_call 52;(with_reducible refine(K1.out _).mono ?_);rintro e w' ⟨rfl,rfl⟩)
          |(go_at_call 52;(with_reducible refine(K2.out _).mono ?_);rintro e w' ⟨rfl,rfl⟩)
          |(go_at_call 57;refine(K3.out _).mono ?_;rintro e w2 ⟨rfl,hb2⟩))
         go_ret2;exact⟨rfl,HB1.out.trans (hb2.mono HB1.out.size)⟩
section
variable {w:World}{P:Nat->Prop}{d p:Value}{X:XSt}{O D:List (Int × Int)}{k:Nat}
structure TakeK (w:World) (p:Value) (O:List (Int × Int)) (a m:Nat) (g i j:Int) (P:Nat->Prop):Prop where
 f1:∀ W:World,Calls Tryz.prog 52 #[.int .i64 (64*(a:Int))] W fun e w'=>e=.returned (.bool true)/\W=w'
 f2:∀ W:World,Calls Tryz.prog 52 #[.int .i64 (64*(m:Int))] W fun e w'=>e=.returned (.bool true)/\W=w'
 fr:∀ W:World,Calls Tryz.prog 57 #[.agg #[.int .u16 i,.int .u16 j]] W fun e w'=>e=.returned (.bool false)/\Below W.heap.size W w'
 fo:∀ W:World,Calls Tryz.prog 179 #[.agg #[.int .u16 i,.int .u16 j]] W fun e w'=>e=.returned (.bool true)/\Below W.heap.size W w'
 us:∀ W:World,Below w.heap.size w W->Calls Tryz.prog 13 #[p,.int .i64 (64*(a:Int))] W fun e w'=>e=.returned (.tuple #[.int .i64 (cntU O (64*a)),.int .i64 0])/\Below W.heap.size W w'
 op:∀ W:World,Calls Tryz.prog 30 #[.int .i64 (64*(m:Int))] W fun e w'=>e=.returned (.int .i64 (62*(m:Int)-42))/\W=w'
 fi:∀ W:World,Below w.heap.size w W->Calls Tryz.prog 205 #[p,.int .i64 (64*(m:Int)),.int .i64 g] W fun e w'=>e=.returned (.tuple #[.int .i64 (Zit O (64*m) (Zis (64*m) g)),.int .i64 0])/\Below W.heap.size W w'
theorem takeK(h:SInv w P d p X)(hH:Has X.cur O k)(hO:OOk O k){a m:Nat}(hm1:1<=m)(hma:m<=a)(hak:a<=k)(g:Int){i j:Int}(hi:0<=i/\i<=65535)(hj:0<=j/\j<=65535)(hf:frmO i j=true)(h0:i≠0):TakeK w p O a m g i j P:=by
 have h12:=hO.k12
 exact⟨fun W=>Zew a (by omega) (by omega) W,fun W=>Zew m hm1 (by omega) W,Zhv i j false (by rw[freeP,show(i==0)=false by simpa using h0];rfl),Zgj i j hi hj true hf,
  fun W hb=>spUsed_yes (h.low hb) hH hO (by omega) hak,fun W=>gOpen_yes m hm1 (by omega) W,fun W hb=>spFind_yes (h.low hb) hH hO hm1 (by omega) g⟩
theorem spTake_full(h:SInv w P d p X)(hH:Has X.cur O k)(hO:OOk O k){a m:Nat}(hm1:1<=m)(hma:m<=a)(hak:a<=k)(g:Int){i j:Int}(hi:0<=i/\i<=65535)(hj:0<=j/\j<=65535)(hf:frmO i j=true)(h0:i≠0)(h6:i≠65535)(hc:62*(m:Int)-42<=cntU O (64*a)):
 Calls Tryz.prog 189 #[p,.int .i64 (64*(a:Int)),.int .i64 (64*(m:Int)),.int .i64 g,.agg #[.int .u16 i,.int .u16 j]] w fun e w'=>e=.returned (.tuple #[.int .i64 0,.int .i64 13])/\Below w.heap.size w w':=by
 have h12:=hO.k12;have K:=hid (takeK h hH hO hm1 hma hak g hi hj hf h0);have HR:=hid (fun(W:World) (hb:Below (w.alloc (.cells #[.int .u16 i,.int .u16 j] 109)).heap.size (w.alloc (.cells #[.int .u16 i,.int .u16 j] 109)) W)=>show W.cell? ⟨w.heap.size,0,none⟩=some (.int .u16 i)/\W.cell? ⟨w.heap.size,1,none⟩=some (.int .u16 j) from⟨cell_of_row _ _ _ _ _ _ (Zad (heap_alloc_new w _) hb),cell_of_row _ _ _ _ _ _ (Zad (heap_alloc_new w _) hb)⟩);have HB1:=hid (Zaa w (.cells #[.int .u16 i,.int .u16 j] 109));have hib:(i==65535)=false:=by simpa using h6
 have hma':¬ (64*(a:Int)<64*(m:Int)):=by omega
 obtain⟨U,hU⟩:∃ U,U=cntU O (64*a):=⟨_,rfl⟩;have KU:Hid (∀ W:World,Below w.heap.size w W->Calls Tryz.prog 13 #[p,.int .i64 (64*(a:Int))] W fun e w'=>e=.returned (.tuple #[.int .i64 U,.int .i64 0])/\Below W.heap.size W w'):=hid (by rw[hU];exact K.out.us);rw[<- hU] at hc;clear h hH hO hi hj hf h0 h6 hU hm1 hak h12;go_enter Tryz.func189,Tryz.ntmps189
 go_wp2_with (first
  |(go_at_call 52;(with_reducible refine(K.out.f1 _).mono ?_);rintro e w' ⟨rfl,rfl⟩)
  |(go_at_call 52;(with_reducible refine(K.out.f2 _).mono ?_);rintro e w' ⟨rfl,rfl⟩)
  |(go_at_call 57;refine(K.out.fr _).mono ?_;rintro e w2 ⟨rfl,hb2⟩;obtain⟨c0,c1⟩:=HR.out _ hb2;have hb02:=HB1.out.trans (hb2.mono HB1.out.size))
  |(go_at_call 179;refine(K.out.fo _).mono ?_;rintro e w3 ⟨rfl,hb3⟩;obtain⟨c30,c31⟩:=HR.out _ (hb2.trans (hb3.mono hb2.size));have hb03:=hb02.trans (hb3.mono hb02.size))
  |(go_at_call 13;refine(KU.out _ hb03).mono ?_;rintro e w4 ⟨rfl,hb4⟩;have hb04:=hb03.trans (hb4.mono hb03.size))
  |(go_at_call 30;refine(K.out.op _).mono ?_;rintro e w' ⟨rfl,rfl⟩))
 go_ret2;exact⟨rfl,hb04⟩
end
section
variable {w:World}{P:Nat->Prop}{d p:Value}{X:XSt}{O D:List (Int × Int)}{k:Nat}
theorem spTake_yes(h:SInv w P d p X)(hw:X.wi=true)(hp0:X.put.length<=35)(hH:Has X.call O k)(hO:OOk O k){a m:Nat}(hm1:1<=m)(hma:m<=a)(hak:a<=k)(g:Int){i j:Int}(hi:0<=i/\i<=65535)(hj:0<=j/\j<=65535)(hf:frmO i j=true)(h0:i≠0)(h6:i≠65535){f:Nat}
 (hc:(cntU O (64*a):Int)<62*(m:Int)-42) (hfm:f<64*m) (hfs:Zit O (64*m) (Zis (64*m) g)=f) (hfx:fixB (f:Int)=false):
 Calls Tryz.prog 189 #[p,.int .i64 (64*(a:Int)),.int .i64 (64*(m:Int)),.int .i64 g,.agg #[.int .u16 i,.int .u16 j]] w fun e w'=>e=.returned (.tuple #[.int .i64 f,.int .i64 0])/\∃ P',SInv w' P' d p (putX X (f / 64) (grO (O.set f (i,j)) (f / 64)))/\Chg P P' w w':=by
 have h12:=hO.k12;have hcur:X.cur=X.call:=by unfold XSt.cur;rw[if_pos hw]
 have hH':Has X.cur O k:=by rw[hcur];exact hH
 have K:=hid (takeK h hH' hO hm1 hma hak g hi hj hf h0);have HR:=hid (fun(W:World) (hb:Below (w.alloc (.cells #[.int .u16 i,.int .u16 j] 109)).heap.size (w.alloc (.cells #[.int .u16 i,.int .u16 j] 109)) W)=>show W.cell? ⟨w.heap.size,0,none⟩=some (.int .u16 i)/\W.cell? ⟨w.heap.size,1,none⟩=some (.int .u16 j) from⟨cell_of_row _ _ _ _ _ _ (Zad (heap_alloc_new w _) hb),cell_of_row _ _ _ _ _ _ (Zad (heap_alloc_new w _) hb)⟩);have HB1:=hid (Zaa w (.cells #[.int .u16 i,.int .u16 j] 109));have hib:(i==65535)=false:=by simpa using h6
 have hma':¬ (64*(a:Int)<64*(m:Int)):=by omega
 obtain⟨U,hU⟩:∃ U,U=cntU O (64*a):=⟨_,rfl⟩;have KU:Hid (∀ W:World,Below w.heap.size w W->Calls Tryz.prog 13 #[p,.int .i64 (64*(a:Int))] W fun e w'=>e=.returned (.tuple #[.int .i64 U,.int .i64 0])/\Below W.heap.size W w'):=hid (by rw[hU];exact K.out.us);have KFi:Hid (∀ W:World,Below w.heap.size w W->Calls Tryz.prog 205 #[p,.int .i64 (64*(m:Int)),.int .i64 g] W fun e w'=>e=.returned (.tuple #[.int .i64 f,.int .i64 0])/\Below W.heap.size W w'):=hid (by rw[<- hfs];exact K.out.fi);have KS:Hid (∀ W:World,Below w.heap.size w W->Calls Tryz.prog 193 #[p,.int .i64 f,.agg #[.int .u16 i,.int .u16 j]] W fun e w'=>e=.returned (.int .i64 0)/\∃ P',SInv w' P' d p (putX X (f / 64) (grO (O.set f (i,j)) (f / 64)))/\Chg P P' W w'):=hid fun W hb=>spSet_yes (h.low hb) hw hp0 hH hO (by omega) hfx hi hj hf h6
 rw[<- hU] at hc;have hc':¬ (62*(m:Int)-42<=(U:Int)):=by omega
 clear h hw hp0 hH hH' hcur hO hi hj hf h0 h6 hU hm1 hak h12 hfm hfs hfx;go_enter Tryz.func189,Tryz.ntmps189
 go_wp2_with (first
  |(go_at_call 52;(with_reducible refine(K.out.f1 _).mono ?_);rintro e w' ⟨rfl,rfl⟩)
  |(go_at_call 52;(with_reducible refine(K.out.f2 _).mono ?_);rintro e w' ⟨rfl,rfl⟩)
  |(go_at_call 57;refine(K.out.fr _).mono ?_;rintro e w2 ⟨rfl,hb2⟩;obtain⟨c0,c1⟩:=HR.out _ hb2;have hb02:=HB1.out.trans (hb2.mono HB1.out.size))
  |(go_at_call 179;refine(K.out.fo _).mono ?_;rintro e w3 ⟨rfl,hb3⟩;have hb13:=hb2.trans (hb3.mono hb2.size);obtain⟨c30,c31⟩:=HR.out _ hb13;have hb03:=hb02.trans (hb3.mono hb02.size))
  |(go_at_call 13;refine(KU.out _ hb03).mono ?_;rintro e w4 ⟨rfl,hb4⟩;have hb14:=hb13.trans (hb4.mono hb13.size);have hb04:=hb03.trans (hb4.mono hb03.size))
  |(go_at_call 30;refine(K.out.op _).mono ?_;rintro e w' ⟨rfl,rfl⟩)
  |(go_at_call 205;refine(KFi.out _ hb04).mono ?_;rintro e w5 ⟨rfl,hb5⟩;have hb15:=hb14.trans (hb5.mono hb14.size);obtain⟨c50,c51⟩:=HR.out _ hb15;have hb05:=hb04.trans (hb5.mono hb04.size))
  |(go_at_call 193;refine(KS.out _ hb05).mono ?_;rintro e w6 ⟨rfl,P6,hi6,hc6⟩))
 go_ret2;exact⟨rfl,P6,hi6,(Chg.of_below hb05).trans hc6⟩
end
end Go.Proofs.YtedabomlfcghoaaGreat
namespace Go.Proofs.YtedabomlfcghoaaGreat
set_option maxRecDepth 100000
open Go.RowKit
def dmg(G:List (List Int))(n:Nat):Nat->List (List Int)
 |0=>List.replicate n zb
 |k+1=>if (G.getD k []).length=256 then (dmg G n k).set k (G.getD k []) else dmg G n k
theorem Zdb(G:List (List Int))(n:Nat):∀ k,(dmg G n k).length=n
 |0=>List.length_replicate
 |k+1=>by unfold dmg;split;· rw[List.length_set];exact Zdb G n k
          . exact Zdb G n k
theorem dmg_get(G:List (List Int))(n:Nat):∀ k i,i<n->k<=n->(dmg G n k).getD i []=if i<k/\(G.getD i []).length=256 then G.getD i [] else zb
 |0,i,hi,_=>by rw[if_neg (by omega)];unfold dmg;rw[List.getD_eq_getElem?_getD,List.getElem?_replicate,if_pos hi];rfl
 |k+1,i,hi,hk=>by
  have ih:=dmg_get G n k i hi (by omega);have hl:=Zdb G n k;unfold dmg;by_cases h:(G.getD k []).length=256
  . rw[if_pos h,BM.getD_set _ _ _ _ _ (by omega),ih]
    by_cases e:i=k
    . rw[if_pos e,e,if_pos ⟨by omega,h⟩]
    . rw[if_neg e]
      by_cases hc:i<k/\(G.getD i []).length=256
      . rw[if_pos hc,if_pos ⟨by omega,hc.2⟩]
      . rw[if_neg hc,if_neg (fun h2=>hc ⟨by omega,h2.2⟩)]
  . rw[if_neg h,ih]
    by_cases hc:i<k/\(G.getD i []).length=256
    . rw[if_pos hc,if_pos ⟨by omega,hc.2⟩]
    . rw[if_neg hc,if_neg (fun h2=>?_)]
      by_cases e:i=k
      . rw[e] at h2;exact h h2.2
      . exact hc ⟨by omega,h2.2⟩
theorem descS_len(g:Int)(L:List Bool)(h:L.length=64):(Zhl g L).length=256:=by rw[Zhl];exact Zbb _ (by rw[descC_length _ _ h];decide)
theorem dmg_has{G:List (List Int)}{O:List (Int × Int)}{kk:Nat}(h:P2 G O kk kk)(hO:O.length=64*kk):Has (dmg G (64*kk) (64*kk)) O kk:=by
 refine⟨Zdb _ _ _,fun g hg=>?_,fun g hg=>?_⟩
 . have hin:=Zjl hg
   have h1:=(h.ds g hg).1;rw[dmg_get _ _ _ _ (by omega) (Nat.le_refl _),if_pos ⟨by omega,by rw[h1];exact descS_len _ _ (Zbv _ _)⟩,h1]
 . have hin:=Zjl hg
   have h1:=(h.ds g hg).2;rw[dmg_get _ _ _ _ (by omega) (Nat.le_refl _),if_pos ⟨by omega,by rw[h1];exact Zhy (Zdu hO hg)⟩,h1]
theorem dmg_tab{G:List (List Int)}{kk:Nat}(h:New3 G kk)(h1:1<=kk)(h2:kk<=12):Tab (dmg G (64*kk) (64*kk)) (newS kk) newN:=by
 have e:∀ i,i<64->(G.getD i []).length=256->(dmg G (64*kk) (64*kk)).getD i []=G.getD i []:=fun i hi hl=>by
  rw[dmg_get _ _ _ _ (by omega) (Nat.le_refl _),if_pos ⟨by omega,hl⟩]
 refine New3.tab ⟨fun t ht=>?_,?_,?_⟩ h1 h2 (Zdb _ _ _)
 . rw[e _ (by omega) (by rw[h.t t ht];exact encT_len _)];exact h.t t ht
 . rw[e _ (by decide) (by rw[h.g0];exact encS_len)];exact h.g0
 . rw[e _ (by decide) (by rw[h.g63];exact encS_len)];exact h.g63
theorem dmg_Jst{G:List (List Int)}{O:List (Int × Int)}{kk:Nat}(h:P2 G O kk kk)(h1:1<=kk):Jst (64*kk) (dmg G (64*kk) (64*kk)) (dmg G (64*kk) (64*kk)):=by
 refine⟨Zdb _ _ _,Zdb _ _ _,.inr ⟨rfl,?_,fun _ _ _=>rfl⟩⟩;rw[dmg_get _ _ _ _ (by omega) (Nat.le_refl _),h.jr 42 (by decide) (by decide)];split <;> rfl
theorem BBa.cellAt{w:World}{P:Nat->Prop}{g n cap k:Nat}{L:List (List Int)}(h:BBa w P (.slice (some ⟨g,0,none⟩) n cap) L)(hk:k<L.length):∃ u,w.cell? ⟨g,k,none⟩=some u/\BSl w u (L.getD k []):=by
 rcases h with⟨e,_⟩| ⟨a,cap',e,_,hc⟩
 . cases e
 . injection e with e1 _ _
   injection e1 with e1
   subst e1;obtain⟨_,_,u,h3,h4,_⟩:=hc k hk;exact⟨u,by simpa using h3,h4⟩
theorem laid12_tab{kk:Nat}(h1:1<=kk)(h2:kk<=12)(w:World):Calls Tryz.prog 23 #[.int .i64 (64*(kk:Int)),.int .i64 (64*(kk:Int))] w fun e w'=>∃ b P d G ds,e=.returned (.pointer (some ⟨b,0,none⟩))/\SInv w' P d (.pointer (some ⟨b,0,none⟩)) ⟨G,G,[],[],false,0,ds⟩/\ds.fu=false/\Has G (newO kk) kk/\Tab G (newS kk) newN/\(∀ x,P x->w.heap.size<=x)/\Below w.heap.size w w':=by
 have KN:=hid (fun(W:World)=>kNew W (64*kk) (by omega));rw[show((64*kk:Nat):Int)=64*(kk:Int) by omega] at KN;have KFr:=hid (fun(W:World)=>rFresh_is h1 h2 W);go_enter Tryz.func23,Tryz.ntmps23
 go_wp2_with (first
  |(go_at_call 43;refine(KN.out _).mono ?_;rintro e w1 ⟨d,P,rfl,hd1,hP1,hb1⟩)
  |(go_at_call 44;refine(KFr.out _).mono ?_;rintro e w2 ⟨v,G,rfl,hG,hP2,hN3,hb2⟩;have hd2:=hd1.below hb2;have hbba:=hG.apart hd2;obtain⟨gv,cv,ev,_,_⟩:=BB2.shape0 hG.bb2 (by rw[hP2.len];omega);rw[hP2.len] at ev;subst ev))
 have HD0:Hid (Dk w2 P d ⟨dmg G (64*kk) 0,[],false,0,false⟩):=hid hd2;have HC0:Hid (Chg P P w2 w2):=hid (Chg.refl _ _);have HBA:=hid hbba;have HP2:=hid hP2;have HN3:=hid hN3;have HPW:=hid hP1;have HB2:Hid (Below w.heap.size w w2):=hid (hb1.trans (hb2.mono hb1.size));clear hd1 hP1 hb1 hG hP2 hN3 hb2 hd2 hbba KN KFr;go_loopw [17] (fun i WI=>∃ k:Nat,k<=64*kk/\i=.int .i64 k/\Hid (Dk WI P d ⟨dmg G (64*kk) k,[],false,0,false⟩)/\Hid (Chg P P w2 WI)) (fun i _=>64*kk-(intOf i).toNat)
 case atStart=>exact⟨0,by omega,rfl,HD0,HC0⟩
 case round=>
  obtain⟨k,hk,rfl,HD,HC⟩:=hrel;clear HD0 HC0;by_cases hlt:k<64*kk
  . have ekt:(k:Int)<64*(kk:Int):=by omega
    obtain⟨u,hu,hs⟩:=(HBA.out.chg HC.out).cellAt (k:=k) (by rw[HP2.out.len];exact hlt);have KD:=hid (kDamage HD.out rfl (n:=k) (by show k<(dmg G (64*kk) k).length;rw[Zdb];exact hlt) hs);clear hs;go_wp2_with (go_at_call 45;refine KD.out.mono ?_;rintro e w3 ⟨⟨x,rfl⟩,hd3,hc3⟩)
    have HD3:Hid (Dk w3 P d ⟨dmg G (64*kk) (k+1),[],false,0,false⟩):=hid hd3;have HC3:=hid (HC.out.trans hc3);clear hd3 hc3;go_roundw
    case rel=>exact⟨k+1,by omega,by go_num,HD3,HC3⟩
    case measure=>simp[intOf];omega
  . obtain rfl:k=64*kk:=by omega
    have KO:=hid (sOpen_of HD.out (n:=64*kk) (G:=dmg G (64*kk) (64*kk)) (by omega) (by omega) rfl rfl (dmg_Jst HP2.out h1));have hdl:=HD.out.lt;go_wp2_with (go_at_call 46;refine KO.out.mono ?_;rintro e w4 (⟨p,ds',P4,rfl,hfu,hI,hc4⟩| ⟨hf,_⟩);rotate_left;exact absurd hf (by decide);obtain⟨bb,rfl⟩:=landed.ptr hI)
    go_ret;refine⟨bb,P4,d,_,ds',rfl,hI,hfu,dmg_has HP2.out (Zas _ _),dmg_tab HN3.out h1 h2,fun x hx=>?_,?_⟩
    . rcases chg_new hc4 hx with h|h
      . exact HPW.out x h
      . have h3:=HB2.out.size
        have h4:=HC.out.size;omega
    . have hw2:=HB2.out.size
      have b1:Below w.heap.size w2 wr:=HC.out.below fun x hx=>⟨by omega,fun hp=>by have:=HPW.out x hp;omega⟩
      have hw3:=HC.out.size;have b2:Below w.heap.size wr w4:=hc4.below fun x hx=>⟨by omega,fun hp=>by have:=HPW.out x hp;omega⟩
      exact(HB2.out.trans b1).trans b2
def PM(P M:Nat->Prop)(k:Nat):Prop:=P k\/M k
theorem Chg.pm{w w':World}{P P':Nat->Prop}(h:Chg P P' w w')(M:Nat->Prop):Chg (PM P M) (PM P' M) w w':=⟨h.os,h.tape,h.output,h.size,fun k hk hn=>⟨(h.keep k hk fun e=>hn (.inl e)).1,fun e=>e.elim (fun e=>(h.keep k hk fun e=>hn (.inl e)).2 e) fun e=>hn (.inr e)⟩⟩
theorem Chg.mp{w w':World}{M:Nat->Prop}(h:Chg M M w w')(P:Nat->Prop):Chg (PM P M) (PM P M) w w':=⟨h.os,h.tape,h.output,h.size,fun k hk hn=>⟨(h.keep k hk fun e=>hn (.inr e)).1,hn⟩⟩
def callX(X:XSt):XSt:={ X with call:=X.is,put:=[],wi:=true }
structure Mid (w0 w:World) (P M:Nat->Prop) (d p r:Value) (X:XSt) (n:Int) (O O2:List (Int × Int)) (kk:Nat):Prop where
 inv:SInv w P d p X
 wi:X.wi=true
 fu:X.ds.fu=false
 has:Has X.is O kk
 has2:Has X.call O2 kk
 ok:OOk O kk
 pN:∀ x,P x->w0.heap.size<=x
 mN:∀ x,M x->w0.heap.size<=x
 ap:∀ x,M x->¬ P x
 sz:w0.heap.size<=w.heap.size
 be:Below w0.heap.size w0 w
section
variable {w0 w:World}{P M:Nat->Prop}{d p r:Value}{X:XSt}{n:Int}{O O2:List (Int × Int)}{kk:Nat}
theorem chg_base{P':Nat->Prop}{w':World}(hb:Below w0.heap.size w0 w)(hP:∀ x,P x->w0.heap.size<=x)(hc:Chg P P' w w'):Below w0.heap.size w0 w'/\∀ x,P' x->w0.heap.size<=x:=by
 have hs:=hb.size;refine⟨hb.trans (hc.below fun x hx=>⟨by omega,fun hp=>by have:=hP x hp;omega⟩),fun x hx=>?_⟩;rcases chg_new hc hx with h|h
 . exact hP x h
 . omega
end
theorem pPut_two(x:Int)(h0:0<=x)(h1:x<=65535)(w:World):Calls Tryz.prog 177 #[.slice none 0 0,.int .u64 x,.int .i64 2] w (NewB w (lowB x 2)):=
 Zfq (Zhd w) (by simp) x 2 2 (by omega) (by omega) rfl h0 (by omega)
theorem iEncM_not{w:World}{v:Value}{l:List Int}(hs:ISl w v l)(hl:l.length=128)(h:locS l=false):Calls Tryz.prog 155 #[v] w fun e w'=>e=.returned (.tuple #[.slice none 0 0,.int .i64 1])/\w=w':=by
 have HA:=hid (Zgy hs (by omega) false h);obtain⟨ao,cap,rfl⟩:=hs.shape;rw[hl] at HA |-
 clear hs h hl;go_enter Tryz.func155,Tryz.ntmps155;go_wp2_with (go_at_call 140;refine HA.out.mono ?_;rintro e w' ⟨rfl,rfl⟩)
 go_ret2;exact⟨rfl,rfl⟩
theorem iEncM_yes{w:World}{v:Value}{l:List Int}(hs:ISl w v l)(hl:l.length=128)(h:locS l=true):Calls Tryz.prog 155 #[v] w fun e w'=>∃ u,e=.returned (.tuple #[u,.int .i64 0])/\OB w' w.heap.size u (mapS l)/\Below w.heap.size w w':=by
 have HA:=hid (Zgy hs (by omega) true h);obtain⟨b,off,cap,rfl,hb,hc⟩:=hs.at (by omega);have HLO:=hid ((Zdj l).1 h);obtain⟨M,hMM⟩:∃ M:Nat,M=256:=⟨_,rfl⟩;have HMI:Hid ((256:Int)=(M:Int)):=hid (by omega);have hM1:M<=1000:=by omega
 rw[hl] at HA hc HLO |-
 have HC:=hid hc;clear hs h hc hl hMM;go_enter Tryz.func155,Tryz.ntmps155
 go_wp2_with (first
  |(go_at_call 140;refine HA.out.mono ?_;rintro e w' ⟨rfl,rfl⟩)
  |(at_make;refine Zbn _ rfl _ _ rfl 0 256 0 M rfl rfl rfl HMI.out (Nat.zero_le _) (by omega) ?_))
 have HOB3:=hid (ob_made w M hM1);have hbw3:Below w.heap.size w (w.alloc (.cells (Array.replicate M (.int .u8 0)) 5)):=Zaa _ _;generalize w.alloc (.cells (Array.replicate M (.int .u8 0)) 5)=w3 at HOB3 hbw3 |-
 go_loopw [4,18] (fun u i wr=>∃ k:Nat,k<=128/\i=.int .i64 k/\Hid (OB wr w.heap.size u (mapK l k))/\Below w.heap.size w wr) (fun _ i _=>128-(intOf i).toNat)
 case atStart=>exact⟨0,by omega,rfl,HOB3,hbw3⟩
 case round=>
  obtain⟨k,hk,rfl,HOB,hbr⟩:=hrel;clear HOB3 hbw3;by_cases hlt:k<128
  . have hck:=(hbr.cell (p:=⟨b,off+k,none⟩) hb).trans (HC.out k hlt)
    have hbd:=inB_iff.1 (HLO.out k hlt);have hpk:mapK l (k+1)=mapK l k ++ lowB (l.getD k 0) 2:=rfl;obtain⟨x,hx⟩:∃ x,x=l.getD k 0:=⟨_,rfl⟩;rw[<- hx] at hck hbd hpk;have ek:(k:Int)<128:=by omega
    have HPK:=hid hpk;have HL:=hid (Zds l k);obtain⟨x0,x1⟩:=hbd;clear hx hpk
    go_wp2_with (first
     |(go_at_call 177;(with_reducible refine(pPut_two x x0 (by omega) _).mono ?_);rintro e w4 ⟨v4,rfl,hob4,hb4⟩
       have HB4:=hid (hbr.trans (hb4.mono hbr.size)))
     |(at_builtin
       refine Zah w4 rfl _ _ rfl w.heap.size _ (mapK l k) rfl (HOB.out.below hb4) w4 v4 (lowB x 2) rfl hob4.bsl (fun _ _=>rfl) (by rw[HL.out,Zac];omega) HB4.out.size ?_;intro v5 w5 hob5 hb5 _))
    go_roundw
    case rel=>exact⟨k+1,by omega,by go_num,by show OB _ _ _ (mapK l (k+1));rw[HPK.out];exact hob5,HB4.out.trans hb5⟩
    case measure=>simp[intOf];omega
  . obtain rfl:k=128:=by omega
    go_wp2;go_ret2;exact⟨_,rfl,HOB.out,hbr⟩
theorem iDecM_row{w:World}{v:Value}{l:List Int}(hs:BSl w v l)(hl:l.length=256):Calls Tryz.prog 156 #[v] w fun e w'=>(hasM l/\e=.returned (.tuple #[.slice (some ⟨w.heap.size,0,none⟩) 128 128,.int .i64 0])/\w'.heap[w.heap.size]? =some (iO (rdK l 128) 3)/\Below w.heap.size w w')\/
 (¬ hasM l/\e=.returned (.tuple #[.slice none 0 0,.int .i64 18])/\Below w.heap.size w w'):=by
 obtain⟨ao,cap,rfl,_⟩:=hs.shape;obtain⟨M,hMM⟩:∃ M:Nat,M=128:=⟨_,rfl⟩;have HMI:Hid ((128:Int)=(M:Int)):=hid (by omega);have hM1:M<=1000:=by omega
 have HM:=hid hMM;have HS:=hid hs;have HL:=hid hl;rw[hl] at HS |-
 clear hMM hs hl;go_enter Tryz.func156,Tryz.ntmps156;go_wp2_with (at_make;refine Zho _ rfl _ _ rfl _ M rfl rfl HMI.out (by omega) ?_)
 have hz:(w.alloc (iO (List.replicate M 0) 3)).heap[w.heap.size]? =some (iO (Ziv l M 0) 3):=by
  rw[rdTill_zero];exact heap_alloc_new w _
 have hb2:Below w.heap.size w (w.alloc (iO (List.replicate M 0) 3)):=Zaa _ _;have hsz:w.heap.size<(w.alloc (iO (List.replicate M 0) 3)).heap.size:=by simp
 generalize w.alloc (iO (List.replicate M 0) 3)=w2 at hz hb2 hsz |-
 have HZ:=hid hz;clear hz;go_loopw [14] (fun i wr=>∃ k:Nat,k<=M/\i=.int .i64 k/\Hid (wr.heap[w.heap.size]? =some (iO (Ziv l M k) 3))/\Below w.heap.size w wr) (fun i _=>M-(intOf i).toNat)
 case atStart=>exact⟨0,by omega,rfl,HZ,hb2⟩
 case round=>
  obtain⟨k,hk,rfl,HR,hbr⟩:=hrel;clear HZ hb2 hsz;by_cases hlt:k<M
  . have ekM:(k:Int)<(M:Int):=by omega
    have hk128:k<128:=by have:=HM.out;omega
    have hsr:=HS.out.below hbr;have T1:=pGetW hsr (by rw[HL.out];decide) (2*k) 2 ((k:Int)*2) 2 (by push_cast;omega) rfl (by omega) (by omega) (by rw[HL.out];omega) _ rfl;have b1:=getV2_le (Zbo hsr.1) (2*k);have hps:=rdTill_set l M k;obtain⟨x,hx⟩:∃ x,x=getV l (2*k) 2:=⟨_,rfl⟩;rw[<- hx] at T1 b1 hps;have H1:=hid T1;have ck:=Zev HR.out k (by rw[Zek];exact hlt);have fk:=io_free HR.out k;have hw6:=Wrote.setCell wr w.heap.size k (.int .i64 x);have hr6:=io_set HR.out k x;rw[hps] at hr6;have HR6:=hid hr6;have HB6:=hid (hbr.trans (hw6.below (Nat.le_refl _)));obtain⟨b10,b11⟩:=b1;clear T1 hx hsr hps hr6 hw6;go_wp2_with (go_at_call 144;(with_reducible refine H1.out.mono ?_);rintro e w3 ⟨rfl,rfl⟩)
    go_roundw
    case rel=>exact⟨k+1,by omega,by go_num,HR6.out,HB6.out⟩
    case measure=>simp[intOf];omega
  . have hr:=HR.out
    have hkM:k=M:=by omega
    rw[hkM,rdTill_full] at hr;have hob:=IR.of_row (B:=w.heap.size) (Nat.le_refl _) hr (by rw[Zfz];simp only[maxLen];omega);rw[Zfz] at hob;have hob2:ISl wr (.slice (some ⟨w.heap.size,0,none⟩) M M) (rdK l 128):=by
     have:=hob.sl;rw[show rdK l 128=rdK l M by rw[HM.out]];exact this
    have HOB:Hid (wr.heap[w.heap.size]? =some (iO (rdK l 128) 3)):=hid (by rw[show rdK l 128=rdK l M by rw[HM.out]];exact hr);have HBR:=hid hbr;clear hr hob;cases hf:locS (rdK l 128)
    all_goals
     have HF:=hid hf;have HA:=hid (Zgy hob2 (by rw[Zfz];decide) _ hf);clear hf hob2
    . go_wp2_with (go_at_call 140;refine HA.out.mono ?_;rintro e w3 ⟨rfl,rfl⟩)
      go_ret2;exact .inr ⟨(fun h=>by have h2:=h.2;rw[HF.out] at h2;cases h2),rfl,hbr⟩
    . go_wp2_with (go_at_call 140;refine HA.out.mono ?_;rintro e w3 ⟨rfl,rfl⟩)
      go_ret2;exact .inl ⟨⟨HL.out,HF.out⟩,by rw[HM.out];rfl,HOB.out,hbr⟩
end Go.Proofs.YtedabomlfcghoaaGreat
namespace Go.Proofs.YtedabomlfcghoaaGreat
set_option maxRecDepth 100000
open Go.RowKit BM
def chC(bf n:Nat)(x:List Int)(fv:Value):List Value:=.pointer (some ⟨bf,0,none⟩) :: .int .i64 (n:Nat) :: (iC x ++ [fv])
def ChAt(w:World)(bc bf n:Nat)(x:List Int)(fv:Value):Prop:=x.length=14/\fv.oneCell'=true/\w.heap[bc]? =some (.cells (chC bf n x fv).toArray 178 (0,0))
theorem chC_num{bf n:Nat}{x:List Int}{fv:Value}(hx:x.length=14){k:Nat}(hk:k<14):(chC bf n x fv)[2+k]? =some (.int .i64 (num x k)):=by
 unfold chC num;rw[show 2+k=k+1+1 by omega,List.getElem?_cons_succ,List.getElem?_cons_succ,List.getElem?_append_left (by rw[Zao];omega)];simp[iC,List.getD_eq_getElem?_getD,hx,hk]
theorem chC_far{bf n:Nat}{x:List Int}{fv:Value}(hx:x.length=14):(chC bf n x fv)[16]? =some fv:=by
 unfold chC;rw[show 16=14+1+1 by rfl,List.getElem?_cons_succ,List.getElem?_cons_succ,List.getElem?_append_right (by rw[Zao];omega),Zao,hx];rfl
theorem chC_set{bf n:Nat}{x:List Int}{fv:Value}(hx:x.length=14){k:Nat}(hk:k<14)(v:Int):(chC bf n x fv).set (2+k) (.int .i64 v)=chC bf n (x.set k v) fv:=by
 unfold chC;rw[show 2+k=k+1+1 by omega,List.set_cons_succ,List.set_cons_succ,List.set_append_left _ _ (by rw[Zao];omega)];simp[iC,List.map_set]
theorem chC_setF{bf n:Nat}{x:List Int}{fv:Value}(hx:x.length=14)(u:Value):(chC bf n x fv).set 16 u=chC bf n x u:=by
 unfold chC;rw[show 16=14+1+1 by rfl,List.set_cons_succ,List.set_cons_succ,List.set_append_right _ _ (by rw[Zao];omega),Zao,hx];rfl
section
variable {w:World}{bc bf n:Nat}{x:List Int}{fv:Value}
theorem ChAt.lt(h:ChAt w bc bf n x fv):bc<w.heap.size:=(Array.getElem?_eq_some_iff.1 h.2.2).1
theorem ChAt.low{w':World}(h:ChAt w bc bf n x fv)(hb:Below w.heap.size w w'):ChAt w' bc bf n x fv:=⟨h.1,h.2.1,Zad h.2.2 hb⟩
theorem ChAt.chg{w':World}{P P':Nat->Prop}(h:ChAt w bc bf n x fv)(hc:Chg P P' w w')(hn:¬ P bc):ChAt w' bc bf n x fv/\¬ P' bc:=by
 have:=hc.keep bc h.lt hn;exact⟨⟨h.1,h.2.1,this.1.trans h.2.2⟩,this.2⟩
theorem ChAt.cell(h:ChAt w bc bf n x fv){j:Nat}{v:Value}(hv:(chC bf n x fv)[j]? =some v):w.cell? ⟨bc,j,none⟩=some v:=by
 rw[cell_of_row _ _ _ _ _ _ h.2.2];simpa using hv
theorem ChAt.c0(h:ChAt w bc bf n x fv):w.cell? ⟨bc,0,none⟩=some (.pointer (some ⟨bf,0,none⟩)):=h.cell rfl
theorem ChAt.c1(h:ChAt w bc bf n x fv):w.cell? ⟨bc,1,none⟩=some (.int .i64 (n:Nat)):=h.cell rfl
theorem ChAt.num(h:ChAt w bc bf n x fv){k:Nat}(hk:k<14):w.cell? ⟨bc,2+k,none⟩=some (.int .i64 (num x k)):=h.cell (chC_num h.1 hk)
theorem ChAt.cm(h:ChAt w bc bf n x fv):w.cell? ⟨bc,15,none⟩=some (.int .i64 (Go.Proofs.YtedabomlfcghoaaGreat.num x 13)):=h.num (k:=13) (by decide)
theorem ChAt.cf(h:ChAt w bc bf n x fv):w.cell? ⟨bc,16,none⟩=some fv:=h.cell (chC_far h.1)
theorem ChAt.free(h:ChAt w bc bf n x fv)(j:Nat):w.frozen? ⟨bc,j,none⟩=false:=by simp[World.frozen?,h.2.2]
theorem ChAt.rng(h:ChAt w bc bf n x fv):w.rangeAt bc 2 (iC x):=Zca h.2.2 (by
 unfold chC;rw[show(2:Nat)=1+1 by rfl,List.drop_succ_cons,List.drop_succ_cons,List.drop_zero,List.take_left' rfl])
theorem ChAt.setN(h:ChAt w bc bf n x fv){k:Nat}(hk:k<14)(v:Int):ChAt (w.setCell ⟨bc,2+k,none⟩ (.int .i64 v)) bc bf n (x.set k v) fv:=
 ⟨by rw[List.length_set];exact h.1,h.2.1,by rw[heap_setCell_same w bc (2+k) _ _ _ h.2.2];simp only[List.setIfInBounds_toArray];rw[chC_set h.1 hk]⟩
theorem ChAt.setF(h:ChAt w bc bf n x fv)(u:Value)(hu:u.oneCell'=true):ChAt (w.setCell ⟨bc,16,none⟩ u) bc bf n x u:=
 ⟨h.1,hu,by rw[heap_setCell_same w bc 16 _ _ _ h.2.2];simp only[List.setIfInBounds_toArray];rw[chC_setF h.1]⟩
end
def FarA(w:World)(B bc:Nat)(P:Nat->Prop)(fv:Value)(F:List Int)(bg:Nat):Prop:=F.length=128/\B<=bg/\bg≠bc/\¬ P bg/\fv=.slice (some ⟨bg,0,none⟩) 128 128/\w.heap[bg]? =some (iO F 3)
theorem FarA.isl{w:World}{B bc bg:Nat}{P:Nat->Prop}{fv:Value}{F:List Int}(h:FarA w B bc P fv F bg):ISl w fv F:=by
 have:=(IR.of_row (B:=bg) (Nat.le_refl _) h.2.2.2.2.2 (by rw[h.1];simp only[maxLen];omega)).sl;rw[h.1] at this;rw[h.2.2.2.2.1];exact this
theorem Zgg{x:List Int}(h:x.length=14):∃ kd ln sz d0 d1 d2 d3 d4 d5 d6 d7 d8 d9 mp:Int,x=[kd,ln,sz,d0,d1,d2,d3,d4,d5,d6,d7,d8,d9,mp]:=by
 match x,h with
 |[kd,ln,sz,d0,d1,d2,d3,d4,d5,d6,d7,d8,d9,mp],_=>exact⟨kd,ln,sz,d0,d1,d2,d3,d4,d5,d6,d7,d8,d9,mp,rfl⟩
section
variable {w:World}{P:Nat->Prop}{d p:Value}{X:XSt}{S:List Int}{N:List (List Int)}{bf:Nat}
theorem fmOpen_yes(h:SInv w P d p X)(hf:FsAt w bf p)(hT:Tab X.cur S N){n:Nat}(h1:1<=n)(h48:n<48)(hk:Zbf N n≠0){W:World}(hb:Below w.heap.size w W):
 Calls Tryz.prog 116 #[.pointer (some ⟨bf,0,none⟩),.int .i64 n] W fun e w'=>∃ bc,e=.returned (.tuple #[.pointer (some ⟨bc,0,none⟩),.int .i64 0])/\W.heap.size<=bc/\ChAt w' bc bf n (N.getD n []) (.slice none 0 0)/\Below W.heap.size W w':=by
 have KG0:=Zki h hf hT h1 h48 hb;have hx:=hT.n.get h48;unfold Zbf at hk;generalize N.getD n []=x at KG0 hx hk;obtain⟨kd,ln,sz,d0,d1,d2,d3,d4,d5,d6,d7,d8,d9,mp,rfl⟩:=Zgg hx;have hk0:(kd==0)=false:=by simpa using hk
 have KG:Hid (Calls Tryz.prog 17 #[.pointer (some ⟨bf,0,none⟩),.int .i64 n] W fun e w'=>e=.returned (.tuple #[.agg #[.int .i64 kd,.int .i64 ln,.int .i64 sz,.int .i64 d0,.int .i64 d1,.int .i64 d2,.int .i64 d3,.int .i64 d4,.int .i64 d5,.int .i64 d6,.int .i64 d7,.int .i64 d8,.int .i64 d9,.int .i64 mp],.int .i64 0])/\Below W.heap.size W w'):=hid KG0;clear KG0 h hf hT hb hx hk;go_enter Tryz.func116,Tryz.ntmps116
 go_wp2_with (go_at_call 17;refine KG.out.mono ?_;rintro e w2 ⟨rfl,hb2⟩
              have hb3:=hb2.trans ((Zaa w2 (.cells #[.int .i64 kd,.int .i64 ln,.int .i64 sz,.int .i64 d0,.int .i64 d1,.int .i64 d2,.int .i64 d3,.int .i64 d4,.int .i64 d5,.int .i64 d6,.int .i64 d7,.int .i64 d8,.int .i64 d9,.int .i64 mp] 47)).mono hb2.size);have hb4:=Zaa (w2.alloc (iO [kd,ln,sz,d0,d1,d2,d3,d4,d5,d6,d7,d8,d9,mp] 47)) (.cells (chC bf n [kd,ln,sz,d0,d1,d2,d3,d4,d5,d6,d7,d8,d9,mp] (.slice none 0 0)).toArray 178);have hr4:=heap_alloc_new (w2.alloc (iO [kd,ln,sz,d0,d1,d2,d3,d4,d5,d6,d7,d8,d9,mp] 47)) (.cells (chC bf n [kd,ln,sz,d0,d1,d2,d3,d4,d5,d6,d7,d8,d9,mp] (.slice none 0 0)).toArray 178))
 go_ret2;refine⟨_,rfl,Nat.le_trans hb2.size (Nat.le_succ _),⟨rfl,rfl,?_⟩,hb3.trans (hb4.mono hb3.size)⟩;have e:(w2.alloc (iO [kd,ln,sz,d0,d1,d2,d3,d4,d5,d6,d7,d8,d9,mp] 47)).heap.size=w2.heap.size+1:=by simp
 rw[e] at hr4;exact hr4
end
theorem OwAt.outJ{O:List (Int × Int)}{kk:Nat}{v:Int}{o:Int × Int}(h:OwAt O kk v o)(h12:kk<=12):OutJ v.toNat:=by
 have hx:=h.2.1;have:=h.1;unfold fixB at hx;have:=of_decide_eq_false hx;unfold OutJ;omega
section
variable {w:World}{P:Nat->Prop}{d p:Value}{X:XSt}{S:List Int}{N:List (List Int)}{bf:Nat}
theorem mapS_has{F:List Int}(h:F.length=128/\locS F=true):hasM (mapS F)/\rdK (mapS F) 128=F/\(mapS F).length=256:=⟨has_map h.1 h.2,rd_map h.1 h.2,by rw[mapS,Zds]⟩
theorem chRead_hole{W:World}{bc n:Nat}{x:List Int}{fv:Value}(hc:ChAt W bc bf n x fv)(hm:num x 13=0)(hP:∀ k,P k->k<W.heap.size):
 Calls Tryz.prog 117 #[.pointer (some ⟨bc,0,none⟩)] W fun e w'=>e=.returned (.int .i64 0)/\∃ fv bg,ChAt w' bc bf n x fv/\FarA w' W.heap.size bc P fv (List.replicate 128 0) bg/\KeptG W w' bc:=by
 obtain⟨M,hM⟩:∃ M:Nat,M=128:=⟨_,rfl⟩;have HMI:Hid ((128:Int)=(M:Int)):=hid (by omega);have hm1:=hc.cm;rw[hm] at hm1;have hc2:=hc.low (Zaa W (iO (List.replicate M 0) 3));have hr2:=heap_alloc_new W (iO (List.replicate M 0) 3);have c16:=hc2.cf;have f16:=hc2.free 16;have hlt:=hc.lt;have hc3:=hc2.setF (.slice (some ⟨W.heap.size,0,none⟩) M M) rfl;have hw3:=Wrote.setCell (W.alloc (iO (List.replicate M 0) 3)) bc 16 (.slice (some ⟨W.heap.size,0,none⟩) M M);have HC:=hid hc3;have HR:=hid ((hw3.2.2.2.2 W.heap.size (by omega)).trans hr2);have HK:=hid (((KeptG.refl W bc).then (Zaa W (iO (List.replicate M 0) 3))).wrote hw3);have HL:=hid hlt;have HP:=hid hP;have HM:=hid hM;have hM1:M<=1000:=by omega
 clear hc hm hc2 hr2 hlt hc3 hw3 hP hM;go_enter Tryz.func117,Tryz.ntmps117;go_wp2_with (at_make;refine Zho _ rfl _ _ rfl _ M rfl rfl HMI.out (by omega) ?_)
 go_ret;have hM:=HM.out;refine⟨rfl,.slice (some ⟨W.heap.size,0,none⟩) M M,W.heap.size,HC.out,⟨by simp,Nat.le_refl _,by have:=HL.out;omega,fun hp=>by have:=HP.out _ hp;omega,by rw[hM],by rw[<- hM];exact HR.out⟩,HK.out⟩
theorem chRead_map(h:SInv w P d p X)(hf:FsAt w bf p){W:World}(hb:Below w.heap.size w W){bc n:Nat}{x F:List Int}{fv:Value}(hc:ChAt W bc bf n x fv){m:Nat}(hm:num x 13=(m:Int))(hm0:m≠0)(hml:m<X.cur.length)(ho:OutJ m)(hF:F.length=128/\locS F=true)(hG:X.cur.getD m []=mapS F)(hbc:w.heap.size<=bc):
 Calls Tryz.prog 117 #[.pointer (some ⟨bc,0,none⟩)] W fun e w'=>e=.returned (.int .i64 0)/\∃ fv bg,ChAt w' bc bf n x fv/\FarA w' W.heap.size bc P fv F bg/\KeptG W w' bc:=by
 obtain⟨h1,h2,h3⟩:=mapS_has hF;have hlt:=h.lt;have hc0:=hc.c0;have hcm:=hc.cm;rw[hm] at hcm;have hmz:((m:Int)==0)=false:=by simp;omega
 have cb:=(hf.low hb).cell;have hbd:Below W.heap.size W W.drew:=(Below.refl _ _).drew;have KG:=hid (sGet_cur h hml ho hG (hb.trans (hbd.mono hb.size)));have KD:Hid (∀ (V:World) (v:Value),BSl V v (mapS F)->Calls Tryz.prog 156 #[v] V fun e w'=>e=.returned (.tuple #[.slice (some ⟨V.heap.size,0,none⟩) 128 128,.int .i64 0])/\w'.heap[V.heap.size]? =some (iO F 3)/\Below V.heap.size V w'):=hid fun V v hv=>(iDecM_row hv h3).mono fun e w' ho=>by
  rcases ho with⟨_,a,b,c⟩| ⟨a,_⟩
  . rw[h2] at b;exact⟨a,b,c⟩
  . exact absurd h1 a
 have HC:Hid (∀ V,Below W.heap.size W V->ChAt V bc bf n x fv):=hid fun V hv=>hc.low hv
 have HL:=hid hc.lt;have HP:Hid (∀ k,P k->k<W.heap.size):=hid fun k hk=>Nat.lt_of_lt_of_le (hlt k hk) hb.size
 have HF:=hid hF.1;have d0:W.drew.cell? ⟨bc,0,none⟩=some (.pointer (some ⟨bf,0,none⟩)):=hc0;have d15:W.drew.cell? ⟨bc,15,none⟩=some (.int .i64 (m:Nat)):=hcm;have db:W.drew.cell? ⟨bf,0,none⟩=some p:=cb;have HS2:Hid (∀ V,Below W.heap.size W V->V.cell? ⟨bc,0,none⟩=some (.pointer (some ⟨bf,0,none⟩))/\V.cell? ⟨bc,15,none⟩=some (.int .i64 (m:Nat))/\V.cell? ⟨bf,0,none⟩=some p):=hid fun V hv=>⟨(hc.low hv).c0,by rw[(hc.low hv).cm,hm],(hf.low (hb.trans (hv.mono hb.size))).cell⟩
 clear h hf hb hc hm hm0 hml ho hF hG hbc h1 h2 h3 hlt hbd;go_enter Tryz.func117,Tryz.ntmps117;go_wp2
 go_region_held3 (fun V=>V.cell? ⟨bc,0,none⟩=some (.pointer (some ⟨bf,0,none⟩))/\V.cell? ⟨bc,15,none⟩=some (.int .i64 (m:Nat))/\V.cell? ⟨bf,0,none⟩=some p) (first|exact⟨d0,d15,db⟩|exact s2) (first
  |(go_at_call 61;(with_reducible refine KG.out.mono ?_);rintro e w2 ⟨v,rfl,hv,hb2⟩
    have hb02:Below W.heap.size W w2:=((Below.refl _ _).drew).trans (hb2.mono (Nat.le_refl _));have s2:=HS2.out _ hb02))
 all_goals
  go_wp2_with (first
   |(go_at_call 156;(with_reducible refine(KD.out _ _ hv).mono ?_);rintro e w3 ⟨rfl,hr3,hb3⟩
     have hb03:=hb02.trans (hb3.mono hb02.size);have hc3:=HC.out _ hb03;have c16:=hc3.cf;have f16:=hc3.free 16;have hw4:=Wrote.setCell w3 bc 16 (.slice (some ⟨w2.heap.size,0,none⟩) 128 128);have HC4:=hid (hc3.setF (.slice (some ⟨w2.heap.size,0,none⟩) 128 128) rfl);have HR4:=hid hr3;have HW4:=hid hw4;have HB3:=hid hb03;clear hc3 hw4 hr3))
  go_ret;have hl:=HL.out;have h2s:=hb02.size;refine⟨rfl,_,w2.heap.size,HC4.out,⟨HF.out,h2s,by omega,fun hp=>by have:=HP.out _ hp;omega,rfl,(HW4.out.2.2.2.2 _ (by omega)).trans HR4.out⟩,((KeptG.refl W bc).then HB3.out).wrote HW4.out⟩
end
end Go.Proofs.YtedabomlfcghoaaGreat
