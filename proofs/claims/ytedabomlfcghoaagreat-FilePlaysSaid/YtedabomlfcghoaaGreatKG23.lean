/- What the law rests on: part 23. -/
import Derived.Test.YtedabomlfcghoaaGreatKG22
set_option linter.unusedVariables false
namespace Go.Proofs.YtedabomlfcghoaaGreat
set_option maxRecDepth 100000
open Go.RowKit BM
def DropO(w0:World)(P0:Nat->Prop)(d p:Value)(X:XSt)(S:List Int)(N:List (List Int))(O:List (Int × Int))(kk:Nat)(F:Nat->List Int)(bf n bc:Nat)(fv:Value)(Q:List Int)(R:List Int->List Int->Prop)(w':World):Prop:=
 ∃ P' X' N' O' F',Chs w0 P0 w' P' d p X' S N' O' kk F' bf n 10 bc fv/\Cst S kk X.call N O F n X'.call N' O' F'/\Onw X X'/\PutS X' Q/\R (N'.getD n []) (F' n)
section
variable {w0 w:World}{P0 P:Nat->Prop}{d p:Value}{X:XSt}{S:List Int}{N:List (List Int)}{O:List (Int × Int)}{kk:Nat}{F:Nat->List Int}{bf n i bc:Nat}{fv:Value}{Q:List Int}
theorem Chs.give(h:Chs w0 P0 w P d p X S N O kk F bf n 10 bc fv)(h1:1<=n)(h48:n<48)(hi:i<139){m:Nat}(hm:locX (N.getD n []) (F n) i=(m:Int))(hm0:m≠0)(hq:PutS X Q)(hQ:Q.length<=35)(hB:∀ g,g<kk->(dscN g:Int)∈Q/\(dscN g:Int)+1∈Q){V:World}(hV:Below w.heap.size w V):
 Calls Tryz.prog 118 #[.pointer (some ⟨bf,0,none⟩),.int .i64 m] V fun e w'=>e=.returned (.int .i64 0)/\∃ P',SInv w' P' d p (putX X (m / 64) (grO (O.set m (0,0)) (m / 64)))/\Chg P P' V w':=by
 obtain⟨t1,t2,t3,t4,_⟩:=h.md.pl.give h1 h48 hi hm hm0;exact fsGive_yes (h.md.inv.low hV) h.md.wi (by have:=hq.le;omega) h.md.pl.has h.md.pl.ok (h.md.fs.low hV) t4 t3 t2
theorem Chs.drop(h:Chs w0 P0 w P d p X S N O kk F bf n 10 bc fv)(h1:1<=n)(h48:n<48)(hk:Zbf N n≠0)(hi:i<138)(hq:PutS X Q)(hQ:Q.length<=35)(hB:Base Q S kk n (num (N.getD n []) 13)):
 Calls Tryz.prog 69 #[.pointer (some ⟨bc,0,none⟩),.int .i64 i] w fun e w'=>e=.returned (.int .i64 0)/\
  DropO w0 P0 d p X S N O kk F bf n bc fv Q (fun y F'=>(∀ b,b<138->locX y F' b=if b=i then 0 else locX (N.getD n []) (F n) b)/\num y 13=num (N.getD n []) 13) w':=by
 obtain⟨bg,hbg⟩:=h.far (Nat.le_refl _);have hfar:10<=i->∃ bg,FarA w w0.heap.size bc P fv (F n) bg:=fun _=>⟨bg,hbg⟩
 by_cases h0:locX (N.getD n []) (F n) i=0
 . refine(chDrop_hole h.ch hfar hi h0).mono ?_
   rintro e w' ⟨he,rfl⟩;refine⟨he,P,X,N,O,F,h,Cst.refl h.md.pl n,Onw.refl X,hq,fun b _=>?_,rfl⟩;split
   . next e=>rw[e];exact h0
   . rfl
 . have hbd:=locX_bd (h.md.pl.tab.n.frm n h48) (h.md.pl.fi.fl n) (i:=i) (by omega)
   obtain⟨m,hm⟩:∃ m:Nat,locX (N.getD n []) (F n) i=(m:Int):=⟨(locX (N.getD n []) (F n) i).toNat,by omega⟩;have hm0:m≠0:=by omega
   have hx:=h.md.pl.tab.n.get h48;have hn:n<N.length:=by rw[h.md.pl.tab.n.len];exact h48
   obtain⟨t1,t2,t3,t4,_⟩:=h.md.pl.give h1 h48 (i:=i) (by omega) hm hm0;have p1:PutS (putX X (m / 64) (grO (O.set m (0,0)) (m / 64))) Q:=hq.adds (hB.g (m / 64) (by omega)).2 (hB.g (m / 64) (by omega)).1 rfl;have p1l:=p1.le;have hG:=h.give h1 h48 (i:=i) (by omega) hm hm0 hq hQ hB.g (Below.refl _ w);by_cases h10:i<10
   . obtain⟨hst,hfx⟩:=h.md.pl.dropNear h1 h48 hk h10 hm hm0
     refine(chDrop_yes (R1:=fun V=>∃ P',SInv V P' d p (putX X (m / 64) (grO (O.set m (0,0)) (m / 64)))/\Chg P P' w V) (R:=DropO w0 P0 d p X S N O kk F bf n bc fv Q (fun y F'=>(∀ b,b<138->locX y F' b=if b=i then 0 else locX (N.getD n []) (F n) b)/\num y 13=num (N.getD n []) 13)) h.ch hfar hi hm hm0 hG ?_);rintro V ⟨P1,hi1,hg1⟩;obtain⟨hfs1,hnb1⟩:=h.md.fs.chg hg1 h.md.nb;obtain⟨hch1,hnc1⟩:=h.ch.chg hg1 h.nc;refine(chSet_near hi1 h.md.wi (by omega) hfs1 t1.tab h1 h48 hch1 hnc1 h10 hfx).mono ?_;rintro e w' ⟨he,P',hi2,hch,hg,hnc⟩;obtain⟨hfs,hnb⟩:=hfs1.chg hg (fun hx=>hx.elim hnb1 fun e=>hfs1.ne_ch hch1 e);have hy:(N.set n ((N.getD n []).set (3+i) 0)).getD n []=(N.getD n []).set (3+i) 0:=by rw[Zcm hn,if_pos rfl]
     refine⟨he,P',_,_,_,_,⟨⟨hi2,h.md.wi,hst.pl,h.md.st,hfs,fun e=>hnb (.inl e)⟩,by rw[hy];exact hch,hnc,h.bb,fun _=>?_,Chg.inner2 (h.cg.trans hg1) hg fun k hk=>by rw[hk];exact h.bb⟩,hst,⟨rfl,rfl⟩,p1.add hB.t rfl,?_,?_⟩
     . obtain⟨f1,f2,f3,f4,f5,f6⟩:=hbg.chg hg1
       have:=hg.keep bg (Array.getElem?_eq_some_iff.1 f6).1 fun hx=>hx.elim f4 f3
       exact⟨bg,f1,f2,f3,fun e=>this.2 (.inl e),f5,this.1.trans f6⟩
     . intro b _;rw[hy,Zjz hx h10]
     . rw[hy,Zav (by omega),if_neg (by omega)]
   . have hmz:num (N.getD n []) 13≠0:=fun e=>by
      have:=h.md.pl.fi.m0 n h1 h48 e;have e2:locX (N.getD n []) (F n) i=num (F n) (i-10):=by unfold locX;rw[if_neg h10,if_neg (by omega)]
      rw[e2,this] at h0;apply h0;unfold num;rw[List.getD_eq_getElem?_getD,List.getElem?_replicate];split <;> rfl
     have ho:=h.md.pl.fi.map h1 h48 id hmz;obtain⟨k,hkm⟩:∃ k:Nat,num (N.getD n []) 13=(k:Int):=⟨(num (N.getD n []) 13).toNat,by have:=ho.1;omega⟩;rw[hkm] at ho;have hko:=ho.1;have h12:=h.md.pl.ok.k12;have hoj:=ho.outJ h12;rw[Int.toNat_natCast] at hoj;have hkQ:=hB.m hmz;rw[hkm] at hkQ;obtain⟨hst,hL⟩:=h.md.pl.dropFar h1 h48 (by omega) hi hm hm0 hkm (by omega);refine(chDrop_yes (R1:=fun V=>∃ P',SInv V P' d p (putX X (m / 64) (grO (O.set m (0,0)) (m / 64)))/\Chg P P' w V) (R:=DropO w0 P0 d p X S N O kk F bf n bc fv Q (fun y F'=>(∀ b,b<138->locX y F' b=if b=i then 0 else locX (N.getD n []) (F n) b)/\num y 13=num (N.getD n []) 13)) h.ch hfar hi hm hm0 hG ?_);rintro V ⟨P1,hi1,hg1⟩;obtain⟨hfs1,hnb1⟩:=h.md.fs.chg hg1 h.md.nb;obtain⟨hch1,hnc1⟩:=h.ch.chg hg1 h.nc;have hbg1:=hbg.chg hg1;obtain⟨f1,f2,f3,f4,f5,f6⟩:=hbg1;refine(chSet_far hi1 h.md.wi (by omega) hfs1 hch1 hnc1 ⟨f1,f2,f3,f4,f5,f6⟩ (by omega) hi hL hkm (by show k<X.is.length;rw[h.md.isl];omega) (by omega) hoj).mono ?_;rintro e w' ⟨he,P',hi2,hch,hfa,hg,hnc⟩;obtain⟨hfs,hnb⟩:=hfs1.chg hg (fun hx=>hx.elim hnb1 fun e=>hfs1.ne_io f6 f1 e);refine⟨he,P',_,_,_,_,⟨⟨hi2,h.md.wi,hst.pl,h.md.st,hfs,fun e=>hnb (.inl e)⟩,hch,hnc,h.bb,fun _=>⟨bg,by rw[Zja];exact hfa⟩,Chg.inner2 (h.cg.trans hg1) hg fun k hk=>by rw[hk];exact f2⟩,hst,⟨rfl,rfl⟩,p1.add hkQ rfl,?_,rfl⟩;intro b _;rw[Zja,Zkb (h.md.pl.fi.fl n).1 (by omega) hi]
theorem Chs.dropMap(h:Chs w0 P0 w P d p X S N O kk F bf n 10 bc fv)(h1:1<=n)(h48:n<48)(hk:Zbf N n≠0)(hq:PutS X Q)(hQ:Q.length<=35)(hB:Base Q S kk n (num (N.getD n []) 13)):
 Calls Tryz.prog 70 #[.pointer (some ⟨bc,0,none⟩)] w fun e w'=>e=.returned (.int .i64 0)/\∃ P' X' N' O' F',Fmd w' P' d p X' S N' O' kk F' bf/\Cst S kk X.call N O F n X'.call N' O' F'/\Onw X X'/\PutS X' Q/\Chg P0 P' w0 w'/\
  (∀ b,b<138->locX (N'.getD n []) (F' n) b=locX (N.getD n []) (F n) b)/\(num (N'.getD n []) 13≠0 ↔ num (N.getD n []) 13≠0/\anyN (F n)=true)/\(num (N'.getD n []) 13≠0->num (N'.getD n []) 13=num (N.getD n []) 13):=by
 obtain⟨bg,hbg⟩:=h.far (Nat.le_refl _);by_cases h0:num (N.getD n []) 13=0
 . refine(chDropMap_none h.ch h0).mono ?_
   rintro e w' ⟨he,rfl⟩;exact⟨he,P,X,N,O,F,h.md,Cst.refl h.md.pl n,Onw.refl X,hq,h.cg,fun b _=>rfl,⟨fun e=>absurd h0 e,fun e=>e.1⟩,fun _=>rfl⟩
 . cases hz:anyN (F n)
   . have ho:=h.md.pl.fi.map h1 h48 id h0
     obtain⟨m,hm⟩:∃ m:Nat,num (N.getD n []) 13=(m:Int):=⟨(num (N.getD n []) 13).toNat,by have:=ho.1;omega⟩;have hm0:m≠0:=by omega
     have hx:=h.md.pl.tab.n.get h48;have hn:n<N.length:=by rw[h.md.pl.tab.n.len];exact h48
     obtain⟨t1,t2,t3,t4,_⟩:=h.md.pl.give h1 h48 (i:=138) (by omega) (f:=m) hm hm0;obtain⟨hst,hfx⟩:=h.md.pl.dropMap h1 h48 hk hm hm0 hz;have p1:PutS (putX X (m / 64) (grO (O.set m (0,0)) (m / 64))) Q:=hq.adds (hB.g (m / 64) (by omega)).2 (hB.g (m / 64) (by omega)).1 rfl;have p1l:=p1.le;have hd:Below w.heap.size w w.drew:=(Below.refl _ _).drew;have hG:=h.give h1 h48 (i:=138) (by omega) (m:=m) hm hm0 hq hQ hB.g hd;refine(chDropMap_yes (X:=putX X (m / 64) (grO (O.set m (0,0)) (m / 64))) hbg hz hm hm0 (hG.mono fun e w' ⟨he,P',hi,hg⟩=>⟨he,P',hi,(Chg.of_below hd).trans hg⟩) h.md.wi (by omega) h.md.fs h.md.nb t1.tab h1 h48 h.ch h.nc hfx).mono ?_;rintro e w' ⟨he,P',hi,hg,hnc⟩;obtain⟨hfs,hnb⟩:=h.md.fs.chg hg (fun hx=>hx.elim h.md.nb fun e=>h.md.fs.ne_ch h.ch e);have hy:(N.set n ((N.getD n []).set 13 0)).getD n []=(N.getD n []).set 13 0:=by rw[Zcm hn,if_pos rfl]
     refine⟨he,P',_,_,_,_,⟨hi,h.md.wi,hst.pl,h.md.st,hfs,fun e=>hnb (.inl e)⟩,hst,⟨rfl,rfl⟩,p1.add hB.t rfl,Chg.inner2 h.cg hg fun k hk=>by rw[hk];exact h.bb,fun b hb=>?_,?_,fun e=>absurd ?_ e⟩
     . rw[hy,Zka hx,if_neg (by omega)]
     . rw[hy,Zav (by omega),if_pos rfl]
       exact⟨fun e=>absurd rfl e,fun e=>by cases e.2⟩
     . rw[hy,Zav (by omega),if_pos rfl]
   . refine(chDropMap_keep h.ch h0 hbg hz).mono ?_
     rintro e w' ⟨he,rfl⟩;exact⟨he,P,X,N,O,F,h.md,Cst.refl h.md.pl n,Onw.refl X,hq,h.cg,fun b _=>rfl,⟨fun e=>⟨e,rfl⟩,fun e=>e.1⟩,fun _=>rfl⟩
end
structure CutR (X:XSt) (S:List Int) (N:List (List Int)) (O:List (Int × Int)) (kk:Nat) (F:Nat->List Int) (n a:Nat) (Q:List Int) (X':XSt) (N':List (List Int)) (O':List (Int × Int)) (F':Nat->List Int):Prop where
 st:Cst S kk X.call N O F n X'.call N' O' F'
 loc:∀ b,b<138->locX (N'.getD n []) (F' n) b=if a<=b then 0 else locX (N.getD n []) (F n) b
 mp:num (N'.getD n []) 13≠0 ↔ (num (N.getD n []) 13≠0/\∃ b,10<=b/\b<138/\locX (N'.getD n []) (F' n) b≠0)
 on:Onw X X'
 pt:PutS X' Q
 mq:num (N'.getD n []) 13≠0->num (N'.getD n []) 13=num (N.getD n []) 13
def CutK(w:World)(P:Nat->Prop)(d p:Value)(X:XSt)(S:List Int)(N:List (List Int))(O:List (Int × Int))(kk:Nat)(F:Nat->List Int)(bf n a k bc:Nat)(fv:Value)(Q:List Int)(wr:World):Prop:=
 ∃ P1 X1 N1 O1 F1,Chs w P wr P1 d p X1 S N1 O1 kk F1 bf n 10 bc fv/\Cst S kk X.call N O F n X1.call N1 O1 F1/\Onw X X1/\PutS X1 Q/\(∀ b,b<138->locX (N1.getD n []) (F1 n) b=if a<=b/\b<k then 0 else locX (N.getD n []) (F n) b)/\num (N1.getD n []) 13=num (N.getD n []) 13
section
variable {w:World}{P:Nat->Prop}{d p:Value}{X:XSt}{S:List Int}{N:List (List Int)}{O:List (Int × Int)}{kk:Nat}{F:Nat->List Int}{bf n:Nat}{Q:List Int}
theorem Chs.openAll(h:Fmd w P d p X S N O kk F bf)(h1:1<=n)(h48:n<48)(hk:Zbf N n≠0):
 Calls Tryz.prog 68 #[.pointer (some ⟨bf,0,none⟩),.int .i64 n] w fun e w'=>∃ bc,e=.returned (.tuple #[.pointer (some ⟨bc,0,none⟩),.int .i64 0])/\∃ fv,Chs w P w' P d p X S N O kk F bf n 10 bc fv:=by
 have hc:=h.cur;refine(fmOpenAll_yes (F:=F) h.inv h.fs (by rw[hc];exact h.pl.tab) (by rw[hc];exact h.pl.fi) h.pl.ok.k12 (by rw[hc];exact h.pl.has.len) h1 h48 hk (Below.refl _ _)).mono ?_;rintro e w' ⟨bc,fv,he,hbc,hch,hfa,hb⟩;exact⟨bc,he,fv,h.low hb,hch,fun hp=>by have:=h.inv.lt _ hp;omega,hbc,hfa,Chg.of_below hb⟩
theorem Zcj(N:List (List Int))(n:Nat):Zbf N n=num (N.getD n []) 0:=rfl
theorem CutK.step{a k bc:Nat}{fv:Value}{wr:World}(h:CutK w P d p X S N O kk F bf n a k bc fv Q wr)(h1:1<=n)(h48:n<48)(hk:Zbf N n≠0)(hak:a<=k)(hi:k<138)(hQ:Q.length<=35)(hB:Base Q S kk n (num (N.getD n []) 13)):
 Calls Tryz.prog 69 #[.pointer (some ⟨bc,0,none⟩),.int .i64 k] wr fun e w'=>e=.returned (.int .i64 0)/\CutK w P d p X S N O kk F bf n a (k+1) bc fv Q w':=by
 obtain⟨P1,X1,N1,O1,F1,hc,hs,ho,hq,hl,hm⟩:=h;refine(hc.drop h1 h48 (by rw[Zcj,hs.hd 0 (by decide),<- Zcj];exact hk) hi hq hQ (by rw[hm];exact hB)).mono ?_;rintro e w' ⟨he,P2,X2,N2,O2,F2,hc2,hs2,ho2,hq2,hl2,hm2⟩;refine⟨he,P2,X2,N2,O2,F2,hc2,hs.trans hs2,ho.trans ho2,hq2,fun b hb=>?_,hm2.trans hm⟩;rw[hl2 b hb,hl b hb];by_cases e:b=k
 . rw[if_pos e,if_pos (by omega)]
 . rw[if_neg e]
   by_cases c:a<=b/\b<k
   . rw[if_pos c,if_pos (by omega)]
   . rw[if_neg c,if_neg (by omega)]
theorem anyN_loc{x F:List Int}(hF:F.length=128):anyN F=true ↔ ∃ b,10<=b/\b<138/\locX x F b≠0:=by
 have e:∀ b,10<=b->b<138->locX x F b=F.getD (b-10) 0:=fun b h1 h2=>by unfold locX num;rw[if_neg (by omega),if_neg (by omega)]
 constructor
 . intro h
   apply Classical.byContradiction;intro hn;have:anyN F=false:=anyN_no.2 fun j hj=>by
    apply Classical.byContradiction;intro h2;exact hn ⟨j+10,by omega,by omega,by rw[e _ (by omega) (by omega),show j+10-10=j by omega];exact h2⟩
   rw[h] at this;cases this
 . rintro⟨b,h1,h2,h3⟩
   rw[e b h1 h2] at h3;exact anyN_yes (by omega) h3
theorem CutK.last{a k bc:Nat}{fv:Value}{wr:World}(h:CutK w P d p X S N O kk F bf n a k bc fv Q wr)(h1:1<=n)(h48:n<48)(hk:Zbf N n≠0)(hi:138<=k)(hQ:Q.length<=35)(hB:Base Q S kk n (num (N.getD n []) 13)):
 Calls Tryz.prog 70 #[.pointer (some ⟨bc,0,none⟩)] wr fun e w'=>e=.returned (.int .i64 0)/\∃ P' X' N' O' F',Fmd w' P' d p X' S N' O' kk F' bf/\CutR X S N O kk F n a Q X' N' O' F'/\Chg P P' w w':=by
 obtain⟨P1,X1,N1,O1,F1,hc,hs,ho,hq,hl,hm⟩:=h;refine(hc.dropMap h1 h48 (by rw[Zcj,hs.hd 0 (by decide),<- Zcj];exact hk) hq hQ (by rw[hm];exact hB)).mono ?_;rintro e w' ⟨he,P2,X2,N2,O2,F2,hc2,hs2,ho2,hq2,hg,hl2,hm2,hm3⟩;have hF1:=(hc.md.pl.fi.fl n).1;refine⟨he,P2,X2,N2,O2,F2,hc2,⟨hs.trans hs2,fun b hb=>?_,?_,ho.trans ho2,hq2,fun e=>(hm3 e).trans hm⟩,hg⟩
 . rw[hl2 b hb,hl b hb]
   by_cases c:a<=b
   . rw[if_pos ⟨c,by omega⟩,if_pos c]
   . rw[if_neg (fun e=>c e.1),if_neg c]
 . rw[hm2,hm,anyN_loc (x:=N1.getD n []) hF1]
   constructor
   . rintro⟨a1,b,b1,b2,b3⟩;exact⟨a1,b,b1,b2,by rw[hl2 b b2];exact b3⟩
   . rintro⟨a1,b,b1,b2,b3⟩;exact⟨a1,b,b1,b2,by rw[hl2 b b2] at b3;exact b3⟩
theorem fmCut_of(h:Fmd w P d p X S N O kk F bf)(h1:1<=n)(h48:n<48)(hk:Zbf N n≠0){a:Nat}(ha:(a:Int)<=9223372036854775807)(hq:PutS X Q)(hQ:Q.length<=35)(hB:Base Q S kk n (num (N.getD n []) 13)):
 Calls Tryz.prog 40 #[.pointer (some ⟨bf,0,none⟩),.int .i64 n,.int .i64 a] w fun e w'=>e=.returned (.int .i64 0)/\∃ P' X' N' O' F',Fmd w' P' d p X' S N' O' kk F' bf/\CutR X S N O kk F n a Q X' N' O' F'/\Chg P P' w w':=by
 have K:=hid (Chs.openAll h h1 h48 hk);have HPL:=hid h.pl;have KS:=hid (fun(k bc:Nat) (fv:Value) (wr:World) (h:CutK w P d p X S N O kk F bf n a k bc fv Q wr) (hak:a<=k) (hi:k<138)=>h.step h1 h48 hk hak hi hQ hB);have KL:=hid (fun(k bc:Nat) (fv:Value) (wr:World) (h:CutK w P d p X S N O kk F bf n a k bc fv Q wr) (hi:138<=k)=>h.last h1 h48 hk hi hQ hB);have HQ:=hid hq;clear h hk hq hQ hB;have ha0:¬ (a:Int)<0:=by omega
 go_enter Tryz.func40,Tryz.ntmps40;go_wp2_with (go_at_call 68;refine K.out.mono ?_;rintro e w2 ⟨bc,rfl,fv,h2⟩)
 have HC0:Hid (CutK w P d p X S N O kk F bf n a a bc fv Q w2):=hid ⟨P,X,N,O,F,h2,Cst.refl HPL.out n,Onw.refl X,HQ.out,fun b _=>by rw[if_neg (by omega)],rfl⟩;clear h2;go_loopw [9] (fun i wr=>∃ k:Nat,(a<=k/\(k:Int)<=9223372036854775807)/\i=.int .i64 k/\Hid (CutK w P d p X S N O kk F bf n a k bc fv Q wr)) (fun i _=>138-(intOf i).toNat)
 case atStart=>exact⟨a,⟨Nat.le_refl _,ha⟩,rfl,HC0⟩
 case round=>
  obtain⟨k,⟨hak,hk⟩,rfl,HC⟩:=hrel;clear HC0;by_cases hlt:k<138
  . have KS1:=hid (KS.out k bc fv wr HC.out hak hlt)
    have ek:(k:Int)<138:=by omega
    go_wp2_with (go_at_call 69;refine KS1.out.mono ?_;rintro e w3 ⟨rfl,h3⟩)
    go_roundw
    case rel=>exact⟨k+1,⟨by omega,by omega⟩,by go_num,hid h3⟩
    case measure=>simp[intOf];omega
  . have KL1:=hid (KL.out k bc fv wr HC.out (by omega))
    have ek:¬ (k:Int)<138:=by omega
    go_wp2_with (go_at_call 70;refine KL1.out.mono ?_;rintro e w3 ⟨rfl,h3⟩)
    go_ret;exact⟨rfl,h3⟩
end
section
variable {w:World}{P:Nat->Prop}{d p:Value}{X:XSt}{S:List Int}{N:List (List Int)}{O:List (Int × Int)}{kk:Nat}{F:Nat->List Int}{bf:Nat}
structure Frd (w:World) (P:Nat->Prop) (d p:Value) (X:XSt) (S:List Int) (N:List (List Int)) (O:List (Int × Int)) (kk:Nat) (F:Nat->List Int) (bf:Nat):Prop where
 inv:SInv w P d p X
 fs:FsAt w bf p
 tab:Tab X.cur S N
 fi:Fils noEx X.cur S N O kk F
 k12:kk<=12
 len:X.cur.length=64*kk
theorem Frd.low(h:Frd w P d p X S N O kk F bf){w':World}(hb:Below w.heap.size w w'):Frd w' P d p X S N O kk F bf:={ h with inv:=h.inv.low hb,fs:=h.fs.low hb }
theorem fmAt_of(h:Frd w P d p X S N O kk F bf){n i:Nat}(h1:1<=n)(h48:n<48)(hk:Zbf N n≠0)(hi:i<138):
 Calls Tryz.prog 60 #[.pointer (some ⟨bf,0,none⟩),.int .i64 n,.int .i64 i] w fun e w'=>e=.returned (.tuple #[.int .i64 (locX (N.getD n []) (F n) i),.int .i64 0])/\Below w.heap.size w w':=by
 have KO:=hid (fmOpenAt_yes h.inv h.fs h.tab h.fi h.k12 h.len h1 h48 hk hi (Below.refl _ _));have KA:Hid (∀ (V:World) (bc:Nat) (fv:Value),ChAt V bc bf n (N.getD n []) fv->(10<=i->∃ bg,FarA V w.heap.size bc P fv (F n) bg)->Calls Tryz.prog 103 #[.pointer (some ⟨bc,0,none⟩),.int .i64 i] V fun e w'=>e=.returned (.int .i64 (locX (N.getD n []) (F n) i))/\V=w'):=hid fun V bc fv hc hF=>chAt_of hc hF hi
 clear h hk;go_enter Tryz.func60,Tryz.ntmps60
 go_wp2_with (first
  |(go_at_call 102;refine KO.out.mono ?_;rintro e w2 ⟨bc,fv,rfl,hbc,hc,hfa,hb2⟩)
  |(go_at_call 103;refine(KA.out _ _ _ hc hfa).mono ?_;rintro e w' ⟨rfl,rfl⟩))
 go_ret2;exact⟨rfl,hb2⟩
end
end Go.Proofs.YtedabomlfcghoaaGreat
namespace Go.Proofs.YtedabomlfcghoaaGreat
set_option maxRecDepth 100000
open Go.RowKit Go.ChangeShapes Go.WideShapes
structure O12 where
 k:Int
 b:Int
 l:Int
 g:Int
 n:Int
 i:Int
 a:Int
instance:Inhabited O12:=⟨⟨0,0,0,0,0,0,0⟩⟩
def in64(x:Int):Prop:= -9223372036854775808<=x/\x<=9223372036854775807
theorem intCells12:Tryz.prog.cellsOf 3=1:=by kernel_rfl
section
variable {H:Type}{enc:TypeId × Value->H}{W:World}{base:Nat}{spare:Nat->Bool}{held:Bool}
end
end Go.Proofs.YtedabomlfcghoaaGreat
namespace Go.Proofs.YtedabomlfcghoaaGreat
set_option maxRecDepth 100000
open Go.RowKit
def Near(G G':List (List Int)):Prop:=G'=G\/∃ g D,g<12/\G'=putG G g D
structure Both (O O2:List (Int × Int)) (kk:Nat) (F Fr:FuncId) (xs:List Value) (e:Ending):Prop where
 land:∀ {w0 w P M d p r X n},Mid w0 w P M d p r (callX X) n O O kk->RSp w M r n O->Calls Tryz.prog F (p :: xs).toArray w fun e' w'=>e'=e/\∃ P' X',Mid w0 w' P' M d p r X' n O O2 kk/\RSp w' M r n O/\Chg (PM P M) (PM P' M) w w'/\Near X.is X'.call/\X'.is=X.is
 refe:∀ {w0 w P M d p r X n},Mid w0 w P M d p r X n O O2 kk->RSp w M r n O->Calls Tryz.prog Fr (r :: xs).toArray w fun e' w'=>e'=e/\Mid w0 w' P M d p r X n O O2 kk/\RSp w' M r n O2/\Chg (PM P M) (PM P M) w w'
section
variable {O:List (Int × Int)}{kk:Nat}
end
structure Tsd (w0 w:World) (P:Nat->Prop) (d p:Value) (X:XSt) (S:List Int) (N:List (List Int)) (O:List (Int × Int)) (kk bf:Nat):Prop where
 inv:SInv w P d p X
 wi:X.wi=false
 fu:X.ds.fu=false
 has:Has X.is O kk
 ok:OOk O kk
 tab:Tab X.is S N
 fs:FsAt w bf p
 nb:¬ P bf
 bN:w0.heap.size<=bf
 pN:∀ x,P x->w0.heap.size<=x
 be:Below w0.heap.size w0 w
theorem fsNew_of(bs:Nat)(w:World):Calls Tryz.prog 22 #[.pointer (some ⟨bs,0,none⟩)] w fun e w'=>e=.returned (.pointer (some ⟨w.heap.size,0,none⟩))/\FsAt w' w.heap.size (.pointer (some ⟨bs,0,none⟩))/\Below w.heap.size w w':=by
 have hb:=Zaa w (.cells #[.pointer (some ⟨bs,0,none⟩)] 39);have hr:=heap_alloc_new w (.cells #[.pointer (some ⟨bs,0,none⟩)] 39);go_enter Tryz.func22,Tryz.ntmps22;go_wp2;go_ret;exact⟨rfl,hr,hb⟩
section
variable {w0 w:World}{P:Nat->Prop}{d p:Value}{X:XSt}{S S2:List Int}{N N2:List (List Int)}{O O2:List (Int × Int)}{kk bf:Nat}
end
theorem start13{kk:Nat}(h1:1<=kk)(h2:kk<=12)(w0:World):∀ {w:World},Below w0.heap.size w0 w->Calls Tryz.prog 23 #[.int .i64 (64*(kk:Int)),.int .i64 (64*(kk:Int))] w fun e w'=>∃ b,e=.returned (.pointer (some ⟨b,0,none⟩))/\Below w0.heap.size w0 w'/\
 Calls Tryz.prog 22 #[.pointer (some ⟨b,0,none⟩)] w' fun e w''=>∃ bf P d X,e=.returned (.pointer (some ⟨bf,0,none⟩))/\Tsd w0 w'' P d (.pointer (some ⟨b,0,none⟩)) X (newS kk) newN (newO kk) kk bf/\bf<w''.heap.size:=fun {w} hb=>by
 refine(laid12_tab h1 h2 w).mono fun e w' ⟨b,P,d,G,ds,he,hI,hfu,hH,hT,hP,hb1⟩=>⟨b,he,hb.trans (hb1.mono hb.size),?_⟩
 refine(fsNew_of b w').mono fun e w'' ⟨he2,hfs,hb2⟩=>?_
 have hs:=hb.size;have hs1:=hb1.size;have hlt:=hI.lt;refine⟨w'.heap.size,P,d,_,he2,⟨hI.low hb2,rfl,hfu,hH,newO_ok h1 h2,hT,hfs,fun hp=>by have:=hlt _ hp;omega,by omega,fun x hx=>by have:=hP x hx;omega,?_⟩,(Array.getElem?_eq_some_iff.1 hfs).1⟩;exact(hb.trans (hb1.mono hs)).trans (hb2.mono (by omega))
end Go.Proofs.YtedabomlfcghoaaGreat
namespace Go.Proofs.YtedabomlfcghoaaGreat
set_option maxRecDepth 100000
open Go.RowKit BM
structure Fsd (w0 w:World) (P:Nat->Prop) (d p:Value) (X:XSt) (S:List Int) (N:List (List Int)) (O:List (Int × Int)) (kk:Nat) (F:Nat->List Int) (bf:Nat):Prop where
 inv:SInv w P d p X
 wi:X.wi=false
 fu:X.ds.fu=false
 pl:Pl noEx X.is S N O kk F
 st:Stil S kk
 fs:FsAt w bf p
 nb:¬ P bf
 bN:w0.heap.size<=bf
 pN:∀ x,P x->w0.heap.size<=x
 be:Below w0.heap.size w0 w
structure Fsm (w0 w:World) (P:Nat->Prop) (d p:Value) (X:XSt) (S:List Int) (N:List (List Int)) (O:List (Int × Int)) (kk:Nat) (F:Nat->List Int) (bf:Nat):Prop where
 inv:SInv w P d p X
 wi:X.wi=true
 fu:X.ds.fu=false
 pl:Pl noEx X.is S N O kk F
 st:Stil S kk
 fs:FsAt w bf p
 nb:¬ P bf
 bN:w0.heap.size<=bf
 pN:∀ x,P x->w0.heap.size<=x
 sz:w0.heap.size<=w.heap.size
 be:Below w0.heap.size w0 w
section
variable {w0 w:World}{P:Nat->Prop}{d p:Value}{X:XSt}{S:List Int}{N:List (List Int)}{O:List (Int × Int)}{kk:Nat}{F:Nat->List Int}{bf:Nat}
theorem Fsd.low(h:Fsd w0 w P d p X S N O kk F bf){w':World}(hb:Below w.heap.size w w'):Fsd w0 w' P d p X S N O kk F bf:=
 { h with inv:=h.inv.low hb,fs:=h.fs.low hb,be:=h.be.trans (hb.mono h.be.size) }
theorem Fsd.far(h:Fsd w0 w P d p X S N O kk F bf){M M':Nat->Prop}{w':World}(hc:Chg M M' w w')(hM:∀ x,M x->w0.heap.size<=x)(hP:∀ x,P x->¬ M x)(hf:¬ M bf):Fsd w0 w' P d p X S N O kk F bf:=
 { h with inv:=h.inv.keep hc.size fun x hx=>(hc.keep x (h.inv.lt x hx) (hP x hx)).1,fs:=((hc.keep bf (Array.getElem?_eq_some_iff.1 h.fs).1 hf).1).trans h.fs,
          be:=h.be.trans (hc.below fun x hx=>⟨Nat.lt_of_lt_of_le hx h.be.size,fun hm=>by have:=hM x hm;omega⟩) }
theorem Fsm.far(h:Fsm w0 w P d p X S N O kk F bf){M M':Nat->Prop}{w':World}(hc:Chg M M' w w')(hM:∀ x,M x->w0.heap.size<=x)(hP:∀ x,P x->¬ M x)(hf:¬ M bf):Fsm w0 w' P d p X S N O kk F bf:=
 { h with inv:=h.inv.keep hc.size fun x hx=>(hc.keep x (h.inv.lt x hx) (hP x hx)).1,fs:=((hc.keep bf (Array.getElem?_eq_some_iff.1 h.fs).1 hf).1).trans h.fs,sz:=Nat.le_trans h.sz hc.size,
          be:=h.be.trans (hc.below fun x hx=>⟨Nat.lt_of_lt_of_le hx h.sz,fun hm=>by have:=hM x hm;omega⟩) }
theorem Fmd.farM(h:Fmd w P d p X S N O kk F bf){M M':Nat->Prop}{w':World}(hc:Chg M M' w w')(hP:∀ x,P x->¬ M x)(hf:¬ M bf):Fmd w' P d p X S N O kk F bf:=
 { h with inv:=h.inv.keep hc.size fun x hx=>(hc.keep x (h.inv.lt x hx) (hP x hx)).1,fs:=((hc.keep bf (Array.getElem?_eq_some_iff.1 h.fs).1 hf).1).trans h.fs }
theorem Fsd.begin(h:Fsd w0 w P d p X S N O kk F bf):Calls Tryz.prog 18 #[p] w fun e w'=>e=.returned (.int .i64 0)/\∃ P',Fsm w0 w' P' d p (callX X) S N O kk F bf/\Fmd w' P' d p (callX X) S N O kk F bf/\Chg P P' w w':=by
 refine(landed.begin h.inv).mono fun e w' ⟨he,P',hi,hc⟩=>?_
 have e1:xBegin X=(0,callX X):=by unfold xBegin;rw[if_neg (by rw[h.wi];decide)];rfl
 rw[e1] at he hi;obtain⟨hf,hn⟩:=h.fs.chg hc h.nb;obtain⟨hb,hp⟩:=chg_base h.be h.pN hc;exact⟨he,P',⟨hi,rfl,h.fu,h.pl,h.st,hf,hn,h.bN,hp,hb.size,hb⟩,⟨hi,rfl,h.pl,h.st,hf,hn⟩,hc⟩
theorem Fsm.next(h:Fsm w0 w P d p X S N O kk F bf){w':World}{P':Nat->Prop}{X':XSt}(hi:SInv w' P' d p X')(hw:X'.wi=true)(ho:Onw X X')(hc:Chg P P' w w'):Fsm w0 w' P' d p X' S N O kk F bf:=by
 obtain⟨hf,hn⟩:=h.fs.chg hc h.nb;obtain⟨hb,hp⟩:=chg_base h.be h.pN hc;exact⟨hi,hw,by rw[ho.2];exact h.fu,by rw[ho.1];exact h.pl,h.st,hf,hn,h.bN,hp,hb.size,hb⟩
theorem Fsm.keep(h:Fsm w0 w P d p X S N O kk F bf){N2:List (List Int)}{O2:List (Int × Int)}{F2:Nat->List Int}(hm:Fmd w P d p X S N2 O2 kk F2 bf):
 Calls Tryz.prog 21 #[p,.bool true] w fun e w'=>e=.returned (.int .i64 0)/\∃ P' X',Fsd w0 w' P' d p X' S N2 O2 kk F2 bf/\X'.is=X.call/\Chg P P' w w':=by
 refine(landed.endKeep h.inv h.wi).mono fun e w' he=>?_
 rcases he with⟨B,dt,ds',_,hfu,he,P',hi,hc⟩| ⟨hf,_⟩
 . obtain⟨hf,hn⟩:=h.fs.chg hc h.nb
   obtain⟨hb,hp⟩:=chg_base h.be h.pN hc;exact⟨he,P',_,⟨hi,rfl,by show ds'.fu=false;rw[hfu];exact h.fu,hm.pl,h.st,hf,hn,h.bN,hp,hb⟩,rfl,hc⟩
 . rw[h.fu] at hf;cases hf
theorem Fsm.undo(h:Fsm w0 w P d p X S N O kk F bf):Calls Tryz.prog 21 #[p,.bool false] w fun e w'=>e=.returned (.int .i64 0)/\∃ P' X',Fsd w0 w' P' d p X' S N O kk F bf/\X'.is=X.is/\Chg P P' w w':=by
 refine(landed.endUndo h.inv h.wi).mono fun e w' ⟨he,P',hi,hc⟩=>?_
 obtain⟨hf,hn⟩:=h.fs.chg hc h.nb;obtain⟨hb,hp⟩:=chg_base h.be h.pN hc;exact⟨he,P',_,⟨hi,rfl,h.fu,h.pl,h.st,hf,hn,h.bN,hp,hb⟩,rfl,hc⟩
theorem Fsd.rd(h:Fsd w0 w P d p X S N O kk F bf):Frd w P d p X S N O kk F bf:=by
 have hc:X.cur=X.is:=by unfold XSt.cur;rw[h.wi];rfl
 exact⟨h.inv,h.fs,by rw[hc];exact h.pl.tab,by rw[hc];exact h.pl.fi,h.pl.ok.k12,by rw[hc];exact h.pl.has.len⟩
theorem Pl.make(h:Pl noEx X.call S N O kk F){n:Nat}(h1:1<=n)(h48:n<48)(hF:F n=List.replicate 128 0){k:Int}(hk:1<=k/\k<=3):Pl noEx (putI X S N n (Zlk k)).call S (N.set n (Zlk k)) O kk F:=by
 have hz:∀ i,i<139->locX (Zlk k) (List.replicate 128 0) i=0:=fun i hi=>by
  unfold locX num;split
  . next h10=>
    have:∀ j,j<10->(Zlk k).getD (3+j) 0=0:=fun j hj=>by
     have hj2:j=0\/j=1\/j=2\/j=3\/j=4\/j=5\/j=6\/j=7\/j=8\/j=9:=by omega
     rcases hj2 with rfl|rfl|rfl|rfl|rfl|rfl|rfl|rfl|rfl|rfl <;> rfl
    exact this i h10
  . split
    . rfl
    . rw[List.getD_eq_getElem?_getD,List.getElem?_replicate];split <;> rfl
 exact(h.node h1 h48 (y:=Zlk k) rfl (kindI_frm hk) (fun a b e=>e.elim) (fun _=>hF) (fun e=>absurd rfl e) (fun i hi hne=>by rw[hF] at hne;exact absurd (hz i hi) hne)).1
end
def N14:Nat->List (List Int)
 |0=>newN
 |c+1=>(N14 c).set (2+c) (Zlk 1)
def F14:Nat->List Int:=fun _=>List.replicate 128 0
theorem n14_len:∀ c,(N14 c).length=48
 |0=>rfl
 |c+1=>by rw[N14,List.length_set];exact n14_len c
theorem n14_get:∀ c m,c<=4->(N14 c).getD m []=if 2<=m/\m<2+c then Zlk 1 else newN.getD m []
 |0,m,_=>by rw[if_neg (by omega)];rfl
 |c+1,m,h=>by
  rw[N14,Zcm (by rw[n14_len];omega),n14_get c m (by omega)];by_cases e:m=2+c
  . rw[if_pos e,if_pos (by omega)]
  . rw[if_neg e]
    by_cases c2:2<=m/\m<2+c
    . rw[if_pos c2,if_pos (by omega)]
    . rw[if_neg c2,if_neg (by omega)]
theorem newN_kind:∀ m,m<48->(newN.getD m []).getD 0 0=if m=1 then 2 else 0:=by decide
theorem Zjx:∀ m,m<48->∀ j,j<11->(newN.getD m []).getD (3+j) 0=0:=by decide
theorem n14_kind{c m:Nat}(hc:c<=4)(hm:m<48):Zbf (N14 c) m=if m=1 then 2 else if 2<=m/\m<2+c then 1 else 0:=by
 unfold Zbf;rw[n14_get c m hc];by_cases h:2<=m/\m<2+c
 . rw[if_pos h,if_neg (by omega),if_pos h];rfl
 . rw[if_neg h,newN_kind m hm,if_neg h]
theorem n14_free{c:Nat}(hc:c<4):FreeAt (N14 c) (2+c):=by
 refine⟨by omega,by omega,by rw[n14_kind (by omega) (by omega),if_neg (by omega),if_neg (by omega)],fun m h1 h2=>?_⟩;rw[n14_kind (by omega) (by omega)];split
 . decide
 . rw[if_pos (by omega)];decide
theorem new_fils{kk:Nat}(h1:1<=kk)(G:List (List Int)):Fils noEx G (newS kk) newN (newO kk) kk F14:=by
 have hz:∀ n i,n<48->i<139->locX (newN.getD n []) (F14 n) i=0:=fun n i hn hi=>by
  unfold locX num;split
  . next h10=>exact Zjx n hn i (by omega)
  . split
    . exact Zjx n hn 10 (by decide)
    . show(List.replicate 128 (0:Int)).getD (i-10) 0=0
      rw[List.getD_eq_getElem?_getD,List.getElem?_replicate];split <;> rfl
 refine⟨fun n=>⟨rfl,(by decide:locS (List.replicate 128 0)=true)⟩,fun _ _ _ _=>rfl,fun n _ hn hm=>absurd (Zjx n hn 10 (by decide)) hm,fun n i _ hn hi _ hl=>absurd (hz n i hn hi) hl,fun t ht=>?_⟩;have e:Zbq (newS kk) t=43+t:=by
  have hi2:t=0\/t=1\/t=2\/t=3\/t=4\/t=5:=by omega
  rcases hi2 with rfl|rfl|rfl|rfl|rfl|rfl <;> rfl
 rw[e];unfold newO;rw[Zdz _ _ _ (by omega)];unfold tabJ;rw[if_neg (by rw[(fix_tab (j:=43+t)).2 (by omega) (by omega)];decide),if_pos (by omega)];exact Prod.ext rfl (by simp only;omega)
theorem new_stil{kk:Nat}(h1:1<=kk)(h2:kk<=12):Stil (newS kk) kk:=by
 refine⟨fun i=>?_,rfl,?_⟩
 . by_cases hi:i<12
   . have hi2:i=0\/i=1\/i=2\/i=3\/i=4\/i=5\/i=6\/i=7\/i=8\/i=9\/i=10\/i=11:=by omega
     have e0:num (newS kk) 0=64*(kk:Int):=rfl;rcases hi2 with rfl|rfl|rfl|rfl|rfl|rfl|rfl|rfl|rfl|rfl|rfl|rfl
     . rw[e0];omega
     all_goals first
      |exact(by decide:(0:Int)<=9223372036854775807)
      |exact(by decide:(43:Int)<=9223372036854775807)
      |exact(by decide:(44:Int)<=9223372036854775807)
      |exact(by decide:(45:Int)<=9223372036854775807)
      |exact(by decide:(46:Int)<=9223372036854775807)
      |exact(by decide:(47:Int)<=9223372036854775807)
      |exact(by decide:(48:Int)<=9223372036854775807)
   . unfold num
     rw[List.getD_eq_getElem?_getD,List.getElem?_eq_none (by show 12<=i;omega)];decide
 . unfold limS
   rw[if_pos (newS_frm h1 h2),if_neg (by show ¬ (0:Int)=2;decide)];rfl
section
variable {kk:Nat}
end
theorem kindI_loc(k:Int){i:Nat}(hi:i<139):locX (Zlk k) (List.replicate 128 0) i=0:=by
 unfold locX num;split
 . next h10=>
   have:∀ j,j<10->(Zlk k).getD (3+j) 0=0:=fun j hj=>by
    have hj2:j=0\/j=1\/j=2\/j=3\/j=4\/j=5\/j=6\/j=7\/j=8\/j=9:=by omega
    rcases hj2 with rfl|rfl|rfl|rfl|rfl|rfl|rfl|rfl|rfl|rfl <;> rfl
   exact this i h10
 . split
   . rfl
   . rw[List.getD_eq_getElem?_getD,List.getElem?_replicate];split <;> rfl
theorem n14_loc{c m:Nat}(hc:c<=4)(hm:m<48){i:Nat}(hi:i<139):locX ((N14 c).getD m []) (F14 m) i=0:=by
 rw[n14_get c m hc];split
 . exact kindI_loc 1 hi
 . unfold locX num
   split
   . next h10=>exact Zjx m hm i (by omega)
   . split
     . exact Zjx m hm 10 (by decide)
     . show(List.replicate 128 (0:Int)).getD (i-10) 0=0
       rw[List.getD_eq_getElem?_getD,List.getElem?_replicate];split <;> rfl
def baseQ(S:List Int)(kk n:Nat)(mp:Int):List Int:=(List.range kk).flatMap (fun g=>[(dscN g:Int),(dscN g:Int)+1]) ++ [((Zbq S (n / 8):Nat):Int),mp]
theorem baseQ_len(S:List Int)(kk n:Nat)(mp:Int):(baseQ S kk n mp).length=2*kk+2:=by
 unfold baseQ;rw[List.length_append];have:∀ l:List Nat,(l.flatMap fun g=>[(dscN g:Int),(dscN g:Int)+1]).length=2*l.length:=fun l=>by
  induction l with
  |nil=>rfl
  |cons a l ih=>rw[List.flatMap_cons,List.length_append,ih];simp;omega
 rw[this,List.length_range];rfl
theorem baseQ_ok(S:List Int)(kk n:Nat)(mp:Int):Base (baseQ S kk n mp) S kk n mp:=by
 refine⟨fun g hg=>?_,List.mem_append_right _ (by simp),fun _=>List.mem_append_right _ (by simp)⟩;have:∀ a∈[(dscN g:Int),(dscN g:Int)+1],a∈baseQ S kk n mp:=fun a ha=>List.mem_append_left _ (List.mem_flatMap.2 ⟨g,List.mem_range.2 hg,ha⟩)
 exact⟨this _ (by simp),this _ (by simp)⟩
theorem put_none(X:XSt)(Q:List Int):PutS (callX X) Q:=⟨List.nodup_nil,fun a ha=>absurd ha List.not_mem_nil⟩
section
variable {w:World}{P:Nat->Prop}{d p:Value}{X:XSt}{S:List Int}{N:List (List Int)}{kk:Nat}{F:Nat->List Int}{bf k:Nat}
end
section
variable {w:World}{P:Nat->Prop}{d p:Value}{X:XSt}{G:List (List Int)}{S:List Int}{N:List (List Int)}{O:List (Int × Int)}{kk:Nat}{F:Nat->List Int}{bf:Nat}{Q:List Int}
theorem Pl.data(h:Pl noEx G S N O kk F){v:Nat}{n i:Nat}(h1:1<=n)(h48:n<48)(hi:i<138)(ho:OwAt O kk v ((n:Int),(i:Int)))(l:List Int):Pl noEx (G.set v l) S N O kk F:=by
 have hne:=Zeu ho.2.1;refine⟨h.has.other h.ok.k12 (.inr (.inr ho.2.1)) _,h.ok,h.tab.same (by rw[List.length_set]) fun a ha=>Zaf _ _ _ ?_,h.fi.data (fun m k1 k48 hm e=>?_) _⟩
 . rcases ha with rfl|rfl| ⟨t,ht,rfl⟩
   . exact Ne.symm hne.1
   . exact Ne.symm hne.2
   . intro e
     have h2:=h.fi.tb t ht;have h3:=ho.2.2;rw[Int.toNat_natCast,<- e,h2] at h3;have:=(Prod.mk.inj h3).1;omega
 . have hm2:=h.fi.map k1 k48 id hm
   refine hm2.ne ho (fun e3=>?_) (by have:=hm2.1;omega);have:=(Prod.mk.inj e3).2;omega
theorem Fmd.data(h:Fmd w P d p X S N O kk F bf){v:Nat}{n i:Nat}(h1:1<=n)(h48:n<48)(hi:i<138)(ho:OwAt O kk v ((n:Int),(i:Int))){l:List Int}(hl:l.length=256){u:Value}(hu:BSl w u l)(hp:X.put.length<37):
 Calls Tryz.prog 67 #[p,.int .i64 v,u] w fun e w'=>e=.returned (.int .i64 0)/\∃ P',Fmd w' P' d p (putB X v l) S N O kk F bf/\Chg P P' w w':=by
 have hb:=ho.1;have h12:=h.pl.ok.k12;have hoj:=ho.outJ h12;rw[Int.toNat_natCast] at hoj;refine(sPut_b h.inv h.wi hp (m:=v) (by rw[h.isl];omega) (by omega) hoj hl hu).mono ?_;rintro e w' ⟨he,P',hi2,hg⟩;obtain⟨hfs,hnb⟩:=h.fs.chg hg h.nb;exact⟨he,P',⟨hi2,h.wi,h.pl.data h1 h48 hi ho l,h.st,hfs,hnb⟩,hg⟩
theorem Zij{n i:Nat}(hi:i<138){v:Int}(ho:OwAt O kk v ((n:Int),atX i)):OwAt O kk (v.toNat:Nat) ((n:Int),(i:Int)):=by
 have hb:=ho.1;have e:((v.toNat:Nat):Int)=v:=by omega
 rw[e];have:atX i=(i:Int):=by unfold atX;rw[if_neg (by omega)]
 rwa [<- this]
end
structure Fat (G N:List (List Int)) (F:Nat->List Int) (n sz:Nat) (M:Nat->Option (List Int)):Prop where
 kd:Zbf N n=1\/Zbf N n=2
 zs:num (N.getD n []) 2=(sz:Int)
 sb:sz<=35328
 dt:∀ i,i<138->M i=if locX (N.getD n []) (F n) i=0 then none else some (G.getD (locX (N.getD n []) (F n) i).toNat [])
 hi:∀ i,138<=i->M i=none
 mp:num (N.getD n []) 13≠0 ↔ ∃ b,10<=b/\b<138/\locX (N.getD n []) (F n) b≠0
 ok:OkB M
section
variable {G G':List (List Int)}{S:List Int}{N N':List (List Int)}{O O':List (Int × Int)}{kk:Nat}{F F':Nat->List Int}{n sz:Nat}{M:Nat->Option (List Int)}{X X':XSt}{Q:List Int}
theorem Fat.k0(h:Fat G N F n sz M):Zbf N n≠0:=by rcases h.kd with e|e <;> rw[e] <;> decide
theorem Fat.none(h:Fat G N F n sz M){i:Nat}(hi:i<138)(h0:locX (N.getD n []) (F n) i=0):M i=.none:=by rw[h.dt i hi,if_pos h0]
theorem Fat.some(h:Fat G N F n sz M){i:Nat}(hi:i<138)(h0:locX (N.getD n []) (F n) i≠0):M i=.some (G.getD (locX (N.getD n []) (F n) i).toNat []):=by rw[h.dt i hi,if_neg h0]
theorem Fat.iff(h:Fat G N F n sz M){i:Nat}(hi:i<138):(M i).isSome=true ↔ locX (N.getD n []) (F n) i≠0:=by
 by_cases h0:locX (N.getD n []) (F n) i=0
 . rw[h.none hi h0];exact⟨fun e=>absurd e (by decide),fun e=>absurd h0 e⟩
 . rw[h.some hi h0];exact⟨fun _=>h0,fun _=>rfl⟩
theorem Fat.used(h:Fat G N F n sz M):Zjo (N.getD n []) (F n)=Zar M:=by
 unfold Zjo Zar;rw[cntX,Zgp (f:=locX (N.getD n []) (F n)) (g:=keyB M) 138 fun i hi=>by rw[keyB_ne,h.iff hi],locX_map];congr 1;by_cases hf:∃ b:Nat,10<=b/\b<138/\(M b).isSome=true
 . rw[Zfk 138 hf]
   obtain⟨b,a1,a2,a3⟩:=hf;rw[if_pos (h.mp.2 ⟨b,a1,a2,(h.iff a2).1 a3⟩)]
 . rw[Zgo 138 hf,if_neg fun e=>?_]
   obtain⟨b,a1,a2,a3⟩:=h.mp.1 e;exact hf ⟨b,a1,a2,(h.iff a2).2 a3⟩
theorem Zkm(hp:Pl noEx G S N O kk F)(hp':Pl noEx G' S N' O' kk F')(hd:DataK O O' G G')(h1:1<=n)(h48:n<48){i:Nat}(hi:i<138)(e:locX (N'.getD n []) (F' n) i=locX (N.getD n []) (F n) i)(h0:locX (N.getD n []) (F n) i≠0):
 G'.getD (locX (N.getD n []) (F n) i).toNat []=G.getD (locX (N.getD n []) (F n) i).toNat []:=by
 have a:=(Zij hi (hp.fi.ow n i h1 h48 (by omega) id h0)).2.2;have b:=(Zij hi (hp'.fi.ow n i h1 h48 (by omega) id (by rw[e];exact h0))).2.2;rw[e] at b;rw[Int.toNat_natCast] at a b;exact hd _ (by rw[b];simp only;omega) (by rw[b];simp only;omega) (by rw[b];simp only;omega) (by rw[a,b])
theorem Fat.other(h:Fat G N F n sz M)(hp:Pl noEx G S N O kk F)(hp':Pl noEx G' S N' O' kk F')(hd:DataK O O' G G')(h1:1<=n)(h48:n<48)(e1:N'.getD n []=N.getD n [])(e2:F' n=F n):Fat G' N' F' n sz M:=by
 refine⟨by rw[Zcj,e1,<- Zcj];exact h.kd,by rw[e1];exact h.zs,h.sb,fun i hi=>?_,h.hi,by rw[e1,e2];exact h.mp,h.ok⟩;rw[e1,e2];by_cases h0:locX (N.getD n []) (F n) i=0
 . rw[if_pos h0];exact h.none hi h0
 . rw[if_neg h0,Zkm hp hp' hd h1 h48 hi (by rw[e1,e2]) h0];exact h.some hi h0
structure Fst (S:List Int) (kk:Nat) (X:XSt) (N:List (List Int)) (O:List (Int × Int)) (F:Nat->List Int) (n:Nat) (X':XSt) (N':List (List Int)) (O':List (Int × Int)) (F':Nat->List Int):Prop where
 ot:∀ m sz M,m≠n->1<=m->m<48->Fat X.call N F m sz M->Fat X'.call N' F' m sz M
 on:Onw X X'
 cn:cntU O' (64*kk)+Zjo (N.getD n []) (F n)=cntU O (64*kk)+Zjo (N'.getD n []) (F' n)
theorem Fst.refl(S:List Int)(kk:Nat)(X:XSt)(N:List (List Int))(O:List (Int × Int))(F:Nat->List Int)(n:Nat):Fst S kk X N O F n X N O F:=⟨fun _ _ _ _ _ _ h=>h,Onw.refl X,rfl⟩
theorem Fst.trans{X1 X2:XSt}{N1 N2:List (List Int)}{O1 O2:List (Int × Int)}{F1 F2:Nat->List Int}(h:Fst S kk X N O F n X1 N1 O1 F1)(k:Fst S kk X1 N1 O1 F1 n X2 N2 O2 F2):Fst S kk X N O F n X2 N2 O2 F2:=
 ⟨fun m sz M a b c d=>k.ot m sz M a b c (h.ot m sz M a b c d),h.on.trans k.on,by have:=h.cn;have:=k.cn;omega⟩
theorem Stp.fst(h:Stp S kk X.call N O F n X'.call N' O' F')(hp:Pl noEx X.call S N O kk F)(ho:Onw X X'):Fst S kk X N O F n X' N' O' F':=
 ⟨fun m sz M a b c d=>d.other hp h.pl h.dat b c (h.oth m a).1 (h.oth m a).2,ho,h.cnt⟩
theorem Cst.fst(h:Cst S kk X.call N O F n X'.call N' O' F')(hp:Pl noEx X.call S N O kk F)(ho:Onw X X'):Fst S kk X N O F n X' N' O' F':=
 ⟨fun m sz M a b c d=>d.other hp h.pl h.dat b c (h.oth m a).1 (h.oth m a).2,ho,h.cnt⟩
theorem Fat.map(h:Fat X.call N F n sz M)(hp:Pl noEx X.call S N O kk F){i:Nat}{v:Int}(hr:MapR X S N O kk F n i Q v X' N' O' F')(h1:1<=n)(h48:n<48)(hi:i<138):Fat X'.call N' F' n sz (updB M i z256):=by
 have hv:=hr.v0;refine⟨by rw[Zcj,hr.st.hd 0 (by decide),<- Zcj];exact h.kd,by rw[hr.st.hd 2 (by decide)];exact h.zs,h.sb,fun b hb=>?_,fun b hb=>by rw[Zbu _ (by omega)];exact h.hi b hb,?_,h.ok.upd _ z256_len z256_byt⟩
 . rw[hr.loc b hb]
   by_cases e:b=i
   . subst e
     rw[if_pos rfl,if_neg (by omega),Zcn,hr.zer]
   . rw[if_neg e,Zbu _ e]
     by_cases h0:locX (N.getD n []) (F n) b=0
     . rw[if_pos h0];exact h.none hb h0
     . rw[if_neg h0,Zkm hp hr.st.pl hr.st.dat h1 h48 hb (by rw[hr.loc b hb,if_neg e]) h0];exact h.some hb h0
 . rw[hr.mp,h.mp]
   constructor
   . rintro(⟨b,a1,a2,a3⟩|e)
     . refine⟨b,a1,a2,?_⟩
       rw[hr.loc b a2];split
       . omega
       . exact a3
     . exact⟨i,e,hi,by rw[hr.loc i hi,if_pos rfl];omega⟩
   . rintro⟨b,a1,a2,a3⟩
     rw[hr.loc b a2] at a3;by_cases e:b=i
     . exact .inr (by omega)
     . rw[if_neg e] at a3
       exact .inl ⟨b,a1,a2,a3⟩
theorem Fat.put(h:Fat G N F n sz M)(hp:Pl noEx G S N O kk F)(h1:1<=n)(h48:n<48){i:Nat}(hi:i<138){v:Nat}(hv:locX (N.getD n []) (F n) i=(v:Int))(h0:v≠0){l:List Int}(hl:l.length=256)(hb:Byt l):Fat (G.set v l) N F n sz (updB M i l):=by
 have ho:=Zij hi (hp.fi.ow n i h1 h48 (by omega) id (by rw[hv];omega));rw[hv,Int.toNat_natCast] at ho;have hlt:v<G.length:=by rw[hp.has.len];have:=ho.1;omega
 refine⟨h.kd,h.zs,h.sb,fun b hb2=>?_,fun b hb2=>by rw[Zbu _ (by omega)];exact h.hi b hb2,h.mp,h.ok.upd _ hl hb⟩;by_cases e:b=i
 . subst e
   rw[hv,if_neg (by omega),Zcn,Int.toNat_natCast,getD_set _ _ _ _ _ hlt,if_pos rfl]
 . rw[Zbu _ e]
   by_cases hz:locX (N.getD n []) (F n) b=0
   . rw[if_pos hz];exact h.none hb2 hz
   . have ho2:=Zij hb2 (hp.fi.ow n b h1 h48 (by omega) id hz)
     have hne:=ho2.ne ho (fun e2=>e (by have:=(Prod.mk.inj e2).2;omega));rw[if_neg hz,Zaf _ _ _ (by omega)];exact h.some hb2 hz
theorem Fat.putOther(h:Fat G N F n sz M)(hp:Pl noEx G S N O kk F)(h1:1<=n)(h48:n<48){m i:Nat}(hm:m≠n){v:Nat}(ho:OwAt O kk v ((m:Int),(i:Int)))(l:List Int):Fat (G.set v l) N F n sz M:=by
 refine⟨h.kd,h.zs,h.sb,fun b hb2=>?_,h.hi,h.mp,h.ok⟩;by_cases hz:locX (N.getD n []) (F n) b=0
 . rw[if_pos hz];exact h.none hb2 hz
 . have ho2:=Zij hb2 (hp.fi.ow n b h1 h48 (by omega) id hz)
   have hne:=ho2.ne ho (fun e2=>hm (by have:=(Prod.mk.inj e2).1;omega));rw[if_neg hz,Zaf _ _ _ (by omega)];exact h.some hb2 hz
theorem num2_loc{x F:List Int}(hx:x.length=14)(v:Int){i:Nat}:locX (x.set 2 v) F i=locX x F i:=by
 have e:∀ b,b≠2->num (x.set 2 v) b=num x b:=fun b hb=>by rw[Zav (by omega),if_neg hb]
 unfold locX;rw[e (3+i) (by omega),e 13 (by decide)]
theorem frmI_size{x:List Int}(hl:x.length=14)(hx:frmI x=true)(hk:num x 0=1\/num x 0=2){v:Nat}(hv:v<=35328):frmI (x.set 2 (v:Int))=true:=by
 have hn:∀ b,b≠2->(x.set 2 (v:Int)).getD b 0=x.getD b 0:=fun b hb=>by
  have:=Zav (x:=x) (a:=2) (by omega) (v:Int) b;unfold num at this;rw[this,if_neg hb]
 have h2:(x.set 2 (v:Int)).getD 2 0=(v:Int):=by
  have:=Zav (x:=x) (a:=2) (by omega) (v:Int) 2;unfold num at this;rw[this,if_pos rfl]
 unfold num at hk;unfold frmI at hx |-
 rw[if_neg (by rcases hk with e|e <;> rw[e] <;> decide)] at hx;rw[hn 0 (by decide),hn 1 (by decide),h2,hn 13 (by decide),if_neg (by rcases hk with e|e <;> rw[e] <;> decide)];have e:(x.set 2 (v:Int)).drop 3=x.drop 3:=by rw[List.drop_set_of_lt (by decide)]
 rw[e];unfold frmN at hx |-
 simp only[Bool.and_eq_true] at hx |-
 refine⟨hx.1,hx.2.1,?_,hx.2.2.2⟩;rcases hk with hk|hk
 . rw[hk]
   exact decide_eq_true ⟨by omega,by show(v:Int)<=35328;omega⟩
 . rw[hk]
   exact decide_eq_true ⟨by omega,by show(v:Int)<=35328;omega⟩
theorem Fat.size(h:Fat X.call N F n sz M)(hp:Pl noEx X.call S N O kk F)(h1:1<=n)(h48:n<48){v:Nat}(hv:v<=35328):
 Fat (nodG X.call S N n ((N.getD n []).set 2 (v:Int))) (N.set n ((N.getD n []).set 2 (v:Int))) F n v M/\Pl noEx (nodG X.call S N n ((N.getD n []).set 2 (v:Int))) S (N.set n ((N.getD n []).set 2 (v:Int))) O kk F/\
  frmI ((N.getD n []).set 2 (v:Int))=true/\∀ X',X'.call=nodG X.call S N n ((N.getD n []).set 2 (v:Int))->Onw X X'->Fst S kk X N O F n X' (N.set n ((N.getD n []).set 2 (v:Int))) O F:=by
 have hx:=hp.tab.n.get h48;have hfx:=hp.tab.n.frm n h48;have hn:n<N.length:=by rw[hp.tab.n.len];exact h48
 have hfy:=frmI_size hx hfx (by rw[<- Zcj];exact h.kd) hv;have hm:num ((N.getD n []).set 2 (v:Int)) 13=num (N.getD n []) 13:=by rw[Zav (by omega),if_neg (by omega)]
 have hl:∀ i,locX ((N.getD n []).set 2 (v:Int)) (F n) i=locX (N.getD n []) (F n) i:=fun i=>num2_loc hx _
 obtain⟨s1,s2⟩:=hp.node h1 h48 (y:=(N.getD n []).set 2 (v:Int)) (by rw[List.length_set];exact hx) hfy (fun a b e=>e.elim)
  (by rw[hm];exact hp.fi.m0 n h1 h48) (by rw[hm];exact hp.fi.m1 n h1 h48) (fun i hi hz=>by rw[hl] at hz |-;exact hp.fi.ow n i h1 h48 hi id hz)
 have hy:(N.set n ((N.getD n []).set 2 (v:Int))).getD n []=(N.getD n []).set 2 (v:Int):=by rw[Zcm hn,if_pos rfl]
 refine⟨⟨?_,?_,hv,fun i hi=>?_,h.hi,?_,h.ok⟩,s1,hfy,fun X' e ho=>⟨fun m sz M a b c d=>?_,ho,?_⟩⟩
 . rw[Zcj,hy,Zav (by omega),if_neg (by omega),<- Zcj];exact h.kd
 . rw[hy,Zav (by omega),if_pos rfl]
 . rw[hy,hl]
   by_cases h0:locX (N.getD n []) (F n) i=0
   . rw[if_pos h0];exact h.none hi h0
   . rw[if_neg h0,Zkm hp s1 s2 h1 h48 hi (by rw[hy,hl]) h0];exact h.some hi h0
 . rw[hy,hm,h.mp]
   exact⟨fun⟨b,a1,a2,a3⟩=>⟨b,a1,a2,by rw[hl];exact a3⟩,fun⟨b,a1,a2,a3⟩=>⟨b,a1,a2,by rw[hl] at a3;exact a3⟩⟩
 . rw[e];exact d.other hp s1 s2 b c (Zaf _ _ _ a) rfl
 . rw[hy]
   have:Zjo ((N.getD n []).set 2 (v:Int)) (F n)=Zjo (N.getD n []) (F n):=Zgp 139 fun i _=>by rw[hl]
   rw[this]
theorem Fat.cut{a:Nat}(h:Fat X.call N F n sz M)(hp:Pl noEx X.call S N O kk F)(hr:CutR X S N O kk F n a Q X' N' O' F')(h1:1<=n)(h48:n<48):Fat X'.call N' F' n sz (fun i=>if a<=i then .none else M i):=by
 refine⟨by rw[Zcj,hr.st.hd 0 (by decide),<- Zcj];exact h.kd,by rw[hr.st.hd 2 (by decide)];exact h.zs,h.sb,fun b hb=>?_,fun b hb=>?_,?_,⟨fun i l e=>?_,fun i l e=>?_⟩⟩
 . rw[hr.loc b hb]
   show(if a<=b then .none else M b)=_
   by_cases e:a<=b
   . rw[if_pos e,if_pos e,if_pos rfl]
   . rw[if_neg e,if_neg e]
     by_cases h0:locX (N.getD n []) (F n) b=0
     . rw[if_pos h0];exact h.none hb h0
     . rw[if_neg h0,Zkm hp hr.st.pl hr.st.dat h1 h48 hb (by rw[hr.loc b hb,if_neg e]) h0];exact h.some hb h0
 . show(if a<=b then .none else M b)=_
   rw[h.hi b hb];split <;> rfl
 . rw[hr.mp]
   constructor
   . exact fun e=>e.2
   . rintro⟨b,a1,a2,a3⟩
     refine⟨h.mp.2 ⟨b,a1,a2,?_⟩,b,a1,a2,a3⟩;rw[hr.loc b a2] at a3;split at a3
     . exact absurd rfl a3
     . exact a3
 . have e:(if a<=i then .none else M i)=Option.some l:=e
   split at e
   . cases e
   . exact h.ok.len i l e
 . have e:(if a<=i then .none else M i)=Option.some l:=e
   split at e
   . cases e
   . exact h.ok.byt i l e
theorem Fat.need(h:Fat G N F n sz M){i:Nat}(hi:i<138)(h0:M i=.none)(l:List Int):Zar (updB M i l)=Zar M+needM (num (N.getD n []) 13) i:=by
 unfold Zar;have h1:cntX (keyB (updB M i l)) 138=cntX (keyB M) 138+1:=by
  refine Zif (i:=i) ?_ ?_ 138 hi fun j hj hne=>?_
  . unfold keyB;rw[h0];rfl
  . rw[keyB_ne,Zcn];rfl
  . rw[keyB_ne,keyB_ne,Zbu _ hne]
 rw[h1];unfold needM;by_cases hm:num (N.getD n []) 13=0
 . have hz:¬ ∃ b:Nat,10<=b/\b<138/\(M b).isSome=true:=fun⟨b,a1,a2,a3⟩=>h.mp.2 ⟨b,a1,a2,(h.iff a2).1 a3⟩ hm
   rw[Zgo 138 hz];by_cases h10:10<=i
   . rw[if_pos ⟨h10,hm⟩,Zfk 138 ⟨i,h10,hi,by rw[Zcn];rfl⟩]
   . rw[if_neg (fun e=>h10 e.1),Zgo 138 fun⟨b,a1,a2,a3⟩=>hz ⟨b,a1,a2,by rwa [Zbu _ (by omega)] at a3⟩]
 . rw[if_neg (fun e=>hm e.2)]
   obtain⟨b,a1,a2,a3⟩:=h.mp.1 hm;have a4:=(h.iff a2).2 a3;rw[Zfk 138 ⟨b,a1,a2,a4⟩,Zfk 138 ⟨b,a1,a2,by
    by_cases e:b=i
    . rw[e,Zcn];rfl
    . rw[Zbu _ e];exact a4⟩]
end
section
variable {w:World}{P:Nat->Prop}{d p:Value}{X:XSt}{S:List Int}{N:List (List Int)}{O:List (Int × Int)}{kk:Nat}{F:Nat->List Int}{bf:Nat}
theorem Zck(h:Frd w P d p X S N O kk F bf){n:Nat}(h1:1<=n)(h48:n<48)(hk:Zbf N n≠0):
 Calls Tryz.prog 32 #[.pointer (some ⟨bf,0,none⟩),.int .i64 n] w fun e w'=>e=.returned (.tuple #[.agg (iC (N.getD n [])).toArray,.int .i64 0])/\Below w.heap.size w w':=by
 have KG0:=fun V hV=>Zki (W:=V) h.inv h.fs h.tab h1 h48 hV
 have hx:=h.tab.n.get h48;unfold Zbf at hk;generalize N.getD n []=x at KG0 hx hk |-
 obtain⟨kd,ln,sz,d0,d1,d2,d3,d4,d5,d6,d7,d8,d9,mp,rfl⟩:=Zgg hx;have hk0:(kd==0)=false:=by simpa using hk
 have KG:Hid (∀ V,Below w.heap.size w V->Calls Tryz.prog 17 #[.pointer (some ⟨bf,0,none⟩),.int .i64 n] V fun e w'=>e=.returned (.tuple #[.agg #[.int .i64 kd,.int .i64 ln,.int .i64 sz,.int .i64 d0,.int .i64 d1,.int .i64 d2,.int .i64 d3,.int .i64 d4,.int .i64 d5,.int .i64 d6,.int .i64 d7,.int .i64 d8,.int .i64 d9,.int .i64 mp],.int .i64 0])/\Below V.heap.size V w'):=hid KG0;clear KG0 h hx hk h1;have hb1:=Zaa w (iO zeroI 47);have hr1:=heap_alloc_new w (iO zeroI 47);obtain⟨w1,hw1⟩:∃ w1,w1=w.alloc (iO zeroI 47):=⟨_,rfl⟩;rw[<- hw1] at hb1 hr1;have h1:w.alloc (.cells #[.int .i64 0,.int .i64 0,.int .i64 0,.int .i64 0,.int .i64 0,.int .i64 0,.int .i64 0,.int .i64 0,.int .i64 0,.int .i64 0,.int .i64 0,.int .i64 0,.int .i64 0,.int .i64 0] 47)=w1:=by rw[hw1];rfl
 have H1:=hid h1;have HR1:Hid (∀ V,Below w1.heap.size w1 V->V.heap[w.heap.size]? =some (iO zeroI 47)):=hid fun V hv=>Zad hr1 hv
 have HB1:=hid hb1;clear h1 hw1 hr1;go_enter Tryz.func32,Tryz.ntmps32
 go_wp2_with (first
  |(go_at_call 17;rw[H1.out];refine(KG.out _ HB1.out).mono ?_;rintro e w2 ⟨rfl,hb2⟩
    have hb3:=hb2.trans ((Zaa w2 (.cells #[.int .i64 kd,.int .i64 ln,.int .i64 sz,.int .i64 d0,.int .i64 d1,.int .i64 d2,.int .i64 d3,.int .i64 d4,.int .i64 d5,.int .i64 d6,.int .i64 d7,.int .i64 d8,.int .i64 d9,.int .i64 mp] 47)).mono hb2.size);have hr3:=HR1.out _ hb3)
  |(with_reducible refine Zch rfl (.tmp 4) (.tmp 22) rfl w.heap.size rfl [kd,ln,sz,d0,d1,d2,d3,d4,d5,d6,d7,d8,d9,mp] zeroI rfl rfl rfl _ hr3 ?_;intro w9 hw9 hr9))
 refine bodyPost_ret (ret_ino2 rfl _ _ w.heap.size _ [kd,ln,sz,d0,d1,d2,d3,d4,d5,d6,d7,d8,d9,mp] _ rfl rfl hr9 rfl) rfl ⟨rfl,(hb1.trans (hb3.mono hb1.size)).trans (hw9.below (Nat.le_refl _))⟩
theorem Fmd.rd(h:Fmd w P d p X S N O kk F bf):Frd w P d p X S N O kk F bf:=by
 have hc:=h.cur;exact⟨h.inv,h.fs,by rw[hc];exact h.pl.tab,by rw[hc];exact h.pl.fi,h.pl.ok.k12,by rw[hc];exact h.pl.has.len⟩
theorem flSetSize_of(h:Fmd w P d p X S N O kk F bf){n:Nat}(h1:1<=n)(h48:n<48){v:Nat}(hp:X.put.length<37)(hfx:frmI ((N.getD n []).set 2 (v:Int))=true):
 Calls Tryz.prog 39 #[.pointer (some ⟨bf,0,none⟩),.int .i64 n,.int .i64 v] w fun e w'=>e=.returned (.int .i64 0)/\∃ P',SInv w' P' d p (putI X S N n ((N.getD n []).set 2 (v:Int)))/\Chg P P' w w':=by
 have hr:=h.rd;have KG0:=Zki hr.inv hr.fs hr.tab h1 h48 (Below.refl _ w);have hx:=h.pl.tab.n.get h48;have KP0:∀ V,Below w.heap.size w V->Calls Tryz.prog 48 #[.pointer (some ⟨bf,0,none⟩),.int .i64 n,.agg (iC ((N.getD n []).set 2 (v:Int))).toArray] V fun e w'=>e=.returned (.int .i64 0)/\∃ P',SInv w' P' d p (putI X S N n ((N.getD n []).set 2 (v:Int)))/\Chg P P' w w':=fun V hV=>
  (fsPut_yes h.inv h.wi hp h.fs h.pl.tab h1 h48 (by rw[List.length_set];exact hx) hfx hV).mono fun e w' ⟨he,P',hi,hc⟩=>⟨he,P',hi,(Chg.of_below hV).trans hc⟩
 obtain⟨XX,hXX⟩:∃ XX,XX=putI X S N n ((N.getD n []).set 2 (v:Int)):=⟨_,rfl⟩;rw[<- hXX] at KP0 |-
 clear hXX hfx;generalize N.getD n []=x at KG0 KP0 hx;obtain⟨kd,ln,sz,d0,d1,d2,d3,d4,d5,d6,d7,d8,d9,mp,rfl⟩:=Zgg hx;have KG:Hid (Calls Tryz.prog 17 #[.pointer (some ⟨bf,0,none⟩),.int .i64 n] w fun e w'=>e=.returned (.tuple #[.agg #[.int .i64 kd,.int .i64 ln,.int .i64 sz,.int .i64 d0,.int .i64 d1,.int .i64 d2,.int .i64 d3,.int .i64 d4,.int .i64 d5,.int .i64 d6,.int .i64 d7,.int .i64 d8,.int .i64 d9,.int .i64 mp],.int .i64 0])/\Below w.heap.size w w'):=hid KG0;have KP:Hid (∀ V,Below w.heap.size w V->Calls Tryz.prog 48 #[.pointer (some ⟨bf,0,none⟩),.int .i64 n,.agg #[.int .i64 kd,.int .i64 ln,.int .i64 v,.int .i64 d0,.int .i64 d1,.int .i64 d2,.int .i64 d3,.int .i64 d4,.int .i64 d5,.int .i64 d6,.int .i64 d7,.int .i64 d8,.int .i64 d9,.int .i64 mp]] V fun e w'=>e=.returned (.int .i64 0)/\∃ P',SInv w' P' d p XX/\Chg P P' w w'):=hid KP0;clear KG0 KP0 h hr hx hp;go_enter Tryz.func39,Tryz.ntmps39
 go_wp2_with (first
  |(go_at_call 17;refine KG.out.mono ?_;rintro e w2 ⟨rfl,hb2⟩
    have hbx:Hid (∀ o,Below w.heap.size w (w2.alloc o)):=hid fun o=>hb2.trans ((Zaa w2 o).mono hb2.size)
    have hby:Hid (∀ o u,Below w.heap.size w ((w2.alloc o).setCell ⟨w2.heap.size,2,none⟩ u)):=hid fun o u=>(hbx.out o).trans ((Wrote.setCell _ _ _ _).below hb2.size))
  |(go_at_call 48;refine(KP.out _ (by first|exact hby.out _ _|exact hbx.out _)).mono ?_;rintro e w3 ⟨rfl,P3,hi3,hc3⟩))
 go_ret;exact⟨rfl,P3,hi3,hc3⟩
end
end Go.Proofs.YtedabomlfcghoaaGreat
namespace Go.Proofs.YtedabomlfcghoaaGreat
set_option maxRecDepth 100000
open Go.RowKit
theorem foldl_put:∀ (l:List Value) (k:Nat) (cells:List Value),k+l.length<=cells.length->
 (l.zipIdx k).foldl (fun(cs:Array Value) (x:Value × Nat)=>cs.setIfInBounds (0+x.2) x.1) cells.toArray=(splice cells k l).toArray
 |[],k,cells,_=>by simp[splice]
 |v :: l,k,cells,h=>by
  have hl:k+(l.length+1)<=cells.length:=by simpa using h
  rw[List.zipIdx_cons,List.foldl_cons,show cells.toArray.setIfInBounds (0+k) v=(cells.set k v).toArray by simp,
   foldl_put l (k+1) _ (by rw[List.length_set];omega)]
  have e:=list_seg_step cells k v l (by omega);simp only[splice]
  simpa [Nat.add_assoc] using congrArg List.toArray e
theorem fill_whole(cells:Array Value)(size:Nat)(vs:List Value)(hs:vs.length=size)(hl:cells.size=size):
 Instr.fill (fun i=>some (i*size,size)) cells [(0,.agg vs.toArray)]=some vs.toArray:=by
 obtain⟨L,rfl⟩:∃ L:List Value,cells=L.toArray:=⟨cells.toList,by simp⟩;have hL:L.length=size:=by simpa using hl
 have hf:=foldl_put vs 0 L (by omega);rw[Instr.fill];have c1:¬ (vs.toArray.size≠size\/0*size+vs.toArray.size > L.toArray.size):=by simp;omega
 simp only[show(Value.agg vs.toArray).cells=vs.toArray from rfl];rw[if_neg (by simpa using c1)];rw[Zbw L vs (by omega)] at hf;simp only[Instr.fill,Nat.zero_mul];congr 1;refine Eq.trans ?_ hf;simp
end Go.Proofs.YtedabomlfcghoaaGreat
namespace Go.Proofs.YtedabomlfcghoaaGreat
set_option maxRecDepth 100000
open Go.RowKit BM
def spN(a n:Nat):Nat:=if n=0 then 0 else (a%256+n+255) / 256
def dnS(a n k:Nat):Nat:=min n (256*k-a%256)
def spA(a n k:Nat):List Int:=[((a / 256+k:Nat):Int),(((a+dnS a n k)%256:Nat):Int),(((a+dnS a n k)%256+(dnS a n (k+1)-dnS a n k):Nat):Int)]
def spL(a n:Nat):List (List Int):=(List.range (spN a n)).map (spA a n)
theorem dnS_zero(a n:Nat):dnS a n 0=0:=by unfold dnS;omega
theorem dnS_le(a n k:Nat):dnS a n k<=n:=Nat.min_le_left _ _
theorem Zkl{a n k:Nat}(h:k<spN a n):dnS a n k<n/\dnS a n k<dnS a n (k+1)/\dnS a n (k+1)-dnS a n k=min (256-(a+dnS a n k)%256) (n-dnS a n k)/\(a+dnS a n k) / 256=a / 256+k:=by
 unfold spN at h;split at h
 . omega
 . next h0=>
   unfold dnS;obtain⟨o,ho⟩:∃ o,o=a%256:=⟨_,rfl⟩;rw[<- ho] at h |-
   have ha:a=256*(a / 256)+o:=by omega
   have hk:256*k<o+n:=by omega
   have ho2:o<256:=by omega
   obtain⟨b,hb⟩:∃ b,b=a / 256:=⟨_,rfl⟩;rw[<- hb] at ha |-
   subst ha;clear ho h hb;by_cases k0:k=0
   . subst k0
     refine⟨by omega,by omega,by omega,by omega⟩
   . have e:min n (256*k-o)=256*k-o:=by omega
     rw[e];have e2:256*b+o+(256*k-o)=256*(b+k):=by omega
     rw[e2];refine⟨by omega,by omega,by omega,by omega⟩
theorem dnS_end(a n:Nat):dnS a n (spN a n)=n:=by
 unfold dnS spN;split
 . omega
 . omega
theorem Zhu(a n:Nat):(spL a n).length=spN a n:=by unfold spL;rw[List.length_map,List.length_range]
theorem spL_get{a n k:Nat}(h:k<spN a n):(spL a n)[k]'(by rw[Zhu];exact h)=spA a n k:=by unfold spL;rw[List.getElem_map,List.getElem_range]
def Len3(L:List (List Int)):Prop:=∀ x∈L,x.length=3
def SR(w:World)(B:Nat)(v:Value)(O:List (List Int)):Prop:=Len3 O/\w.ownsRow B 78 3 v O.length (nC O)
theorem SR.below{w w':World}{B:Nat}{v:Value}{O:List (List Int)}(h:SR w B v O)(hb:Below w.heap.size w w'):SR w' B v O:=by
 refine⟨h.1,h.2.1,?_⟩;rcases h.2.2 with h| ⟨g,cap,cur,hv,hg,hh,r⟩
 . exact .inl h
 . exact .inr ⟨g,cap,cur,hv,hg,by rw[hb.block g (Array.getElem?_eq_some_iff.1 hh).1];exact hh,r⟩
theorem sr_nil(w:World)(B:Nat):SR w B (.slice none 0 0) []:=⟨fun x hx=>absurd hx List.not_mem_nil,World.ownsRow_nil w B _ _⟩
theorem SR.cells{w:World}{B:Nat}{v:Value}{O:List (List Int)}(h:SR w B v O)(h0:0<O.length):∃ g cap,v=.slice (some ⟨g,0,none⟩) O.length cap/\B<=g/\g<w.heap.size/\O.length<=cap/\∀ k (hk:k<O.length) (j:Nat),j<3->w.cell? ⟨g,k*3+j,none⟩=some (.int .i64 (O[k].getD j 0)):=by
 rcases h.2.2 with⟨_,hl⟩| ⟨g,cap,cur,hv,hg,hh,hnc,hcm,hcs,ht⟩
 . omega
 . refine⟨g,cap,hv,hg,(Array.getElem?_eq_some_iff.1 hh).1,hnc,fun k hk j hj=>?_⟩
   rw[cell_of_row _ _ _ _ _ _ hh];have hl3:O[k].length=3:=h.1 _ (List.getElem_mem hk);have hf:=Zfj (f:=iC) (L:=O) (s:=3) (fun x hx=>by rw[Zao,h.1 x hx]) k hk;have e1:cur[k*3+j]? =(nC O)[k*3+j]? :=by
    rw[<- ht,List.getElem?_take,if_pos (by omega)];exact(Array.getElem?_toList).symm
   rw[e1];have e2:((nC O).drop (k*3)).take 3=iC O[k]:=hf;have e3:(((nC O).drop (k*3)).take 3)[j]? =(iC O[k])[j]? :=by rw[e2]
   rw[List.getElem?_take,if_pos hj,List.getElem?_drop] at e3;rw[e3];unfold iC;rw[List.getElem?_map,List.getElem?_eq_getElem (by omega),List.getD_eq_getElem?_getD,List.getElem?_eq_getElem (by omega)];rfl
theorem infoSpan:(Tryz.prog.info? 78).map (fun i=>(i.zero,i.size,i.bytes))=some (some (.agg #[.int .i64 0,.int .i64 0,.int .i64 0]),3,24):=by kernel_rfl
theorem wpList_slice_sp{w:World}{ops:Array Oper}{rest:List Oper}{o:Oper}{a:Act}{Q:Exit->Act->World->Prop}(hgd:o.guard=none)(y:Operand)(ho:o.op=.buildSlice 75 1 #[(0,y)])
 (x:List Int) (hx:x.length=3) (hy:a.eval y=.agg (iC x).toArray)
 (h:wpList Tryz.prog ops Q rest (a.put o.dst (.slice (some ⟨w.heap.size,0,none⟩) 1 1)) (w.alloc (iO x 78))):wpList Tryz.prog ops Q (o :: rest) a w:=by
 obtain⟨i,h2,h3,h4,h5⟩:=info_parts infoSpan;refine wpList_buildSlice hgd 75 78 1 _ ho (iC x).toArray i _ Tryz.underlying75 h2 h3 (by rw[h4];decide) (by rw[h4];decide) ?_ h;rw[h4];simp only[List.map_toArray,List.map_cons,List.map_nil,hy];exact fill_whole _ 3 (iC x) (by rw[Zao,hx]) (by simp)
theorem wpList_append_sp(w1:World)(x:List Int)(hx3:x.length=3){ops:Array Oper}{rest:List Oper}{o:Oper}{a:Act}{Q:Exit->Act->World->Prop}(hgd:o.guard=none)(s y:Operand)
 (ho:o.op=.call { callee:=.builtin .append,args:=#[s,y],argTypes:=#[75,75] })
 (B:Nat) (v:Value) (O:List (List Int)) (hs:a.eval s=v) (hown:SR w1 B v O) (hO:O.length<=1000000) (hy:a.eval y=.slice (some ⟨w1.heap.size,0,none⟩) 1 1) (hB:B<=w1.heap.size)
 (h:∀ v' w',SR w' B v' (O ++ [x])->Below B w1 w'->wpList Tryz.prog ops Q rest (a.put o.dst v') w'):wpList Tryz.prog ops Q (o :: rest) a (w1.alloc (iO x 78)):=by
 obtain⟨t,h2,h3,h4,h5⟩:=info_parts infoSpan;have hbel:Below w1.heap.size w1 (w1.alloc (iO x 78)):=Zaa _ _;have hnew:(w1.alloc (iO x 78)).heap[w1.heap.size]? =some (iO x 78):=heap_alloc_new w1 _;have hf:=hown.below hbel;refine wpList_append_own _ hgd s y 75 ho B 78 t _ 3 24 Tryz.underlying75 h2 h3 h4 h5 rfl (by decide) v O.length _ hs hf.2 ⟨w1.heap.size,0,none⟩ 1 1 (iC x) hy (by rw[Zao,hx3]) ?_ (iC_one x) (by simp only[maxLen];omega) (by omega) (by simp;omega) fun v' w' h6 h7 _=>?_
 . intro m u hm
   rw[Addr.add_lit,Nat.zero_add];have:=Zel hnew m u hm;rw[Nat.zero_add] at this;exact this
 . refine h v' w' ⟨fun z hz=>?_,?_⟩ ((hbel.mono hB).trans ((Below.refl _ _).grown h7 (by simp;omega) fun k hk=>(World.ownsRow.lt hf.2 k hk).1))
   . rcases List.mem_append.1 hz with hz|hz
     . exact hown.1 z hz
     . simp at hz;subst hz;exact hx3
   . have e:nC (O ++ [x])=nC O ++ iC x:=by simp[nC]
     rw[List.length_append,e];exact h6
end Go.Proofs.YtedabomlfcghoaaGreat
