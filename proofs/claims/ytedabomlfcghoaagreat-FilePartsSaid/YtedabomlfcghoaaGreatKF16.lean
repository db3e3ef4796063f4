/- What the law rests on: part 16. -/
import Derived.Test.YtedabomlfcghoaaGreatKF15
set_option linter.unusedVariables false
namespace Go.Proofs.YtedabomlfcghoaaGreat
set_option maxRecDepth 100000
open Go.RowKit BM
section
variable {w:World}{P:Nat->Prop}{d p:Value}{X:XSt}{O:List (Int × Int)}{k:Nat}
theorem spUsed_yes (h:SInv w P d p X) (hH:Has X.cur O k) (hO:OOk O k) {m:Nat} (hm1:1<=m) (hm:m<=k):
 Calls Tryz.prog 13 #[p,.int .i64 (64*(m:Int))] w fun e w'=>e=.returned (.tuple #[.int .i64 (cntU O (64*m)),.int .i64 0])/\Below w.heap.size w w':=by
 have h12:=hO.k12
 have KU:=Lib.hid (spUB_yes h hH hO hm1 hm)
 have KO:=Lib.hid (fun (W:World)=>gOpen_yes m hm1 (by omega) W)
 obtain ⟨R,hR⟩:∃ R,R=usedK O (64*m):=⟨_,rfl⟩
 have hc:=count_used hO (64*m) (by omega)
 rw[<- hR] at hc KU
 have h1:=cnt_all (64*m)
 have h2:=cntO_mul m hm1 (by omega)
 have KC:Hid (∀ W q r,BRow W q r R->Calls Tryz.prog 31 #[.pointer (some ⟨q,0,none⟩)] W fun e w'=>e=.returned (.int .i64 (countB R))/\∃ m,w'=W.drewN m):=Lib.hid fun W q r hb=>bCount_any hb
 have hcl:=countB_le R
 have hRl:R.length=64*m:=by rw[hR,usedK_length]
 obtain ⟨C,hC⟩:∃ C,C=countB R:=⟨_,rfl⟩
 rw[<- hC] at KC hc hcl
 obtain ⟨U,hU⟩:∃ U,U=cntU O (64*m):=⟨_,rfl⟩
 have HE:Hid ((C:Int)-(64*(m:Int)-(62*(m:Int)-42))=U):=Lib.hid (by omega)
 have hC2:(C:Int)<=768:=by omega
 have hm12:(m:Int)<=12:=by omega
 have hm11:(1:Int)<=m:=by omega
 rw[<- hU]
 clear hR hc h1 h2 hcl hRl hC hU h hH hO hm hm1 h12
 go_enter Tryz.func13,Tryz.ntmps13
 go_wp2_with (first
  |(go_at_call 29;refine KU.out.mono ?_;rintro e w1 ⟨q,r,rfl,hrow,hb1⟩)
  |(go_at_call 30;refine (KO.out _).mono ?_;rintro e w' ⟨rfl,rfl⟩)
  |(go_at_call 31;refine (KC.out _ _ _ hrow).mono ?_;rintro e w2 ⟨rfl,n,rfl⟩))
 go_ret2
 exact ⟨by first|rfl|(rw [HE.out];rfl),below_drewN' hb1 _⟩
theorem spFind_yes (h:SInv w P d p X) (hH:Has X.cur O k) (hO:OOk O k) {m:Nat} (hm1:1<=m) (hm:m<=k) (g:Int):
 Calls Tryz.prog 205 #[p,.int .i64 (64*(m:Int)),.int .i64 g] w fun e w'=>e=.returned (.tuple #[.int .i64 (findS O (64*m) (goalS (64*m) g)),.int .i64 0])/\Below w.heap.size w w':=by
 have KU:=Lib.hid (spUB_yes h hH hO hm1 hm)
 rw[<- find_is (show 0<64*m by omega)]
 obtain ⟨R,hR⟩:∃ R,R=usedK O (64*m):=⟨_,rfl⟩
 rw[<- hR] at KU |-
 have KC:Hid (∀ W q r,BRow W q r R->Calls Tryz.prog 213 #[.pointer (some ⟨q,0,none⟩),.int .i64 g] W fun e w'=>e=.returned (.int .i64 (firstS R g))/\∃ m,w'=W.drewN m):=Lib.hid fun W q r hb=>bFirst_any hb g
 clear hR h hH hO hm hm1
 go_enter Tryz.func205,Tryz.ntmps205
 go_wp2_with (first
  |(go_at_call 29;refine KU.out.mono ?_;rintro e w1 ⟨q,r,rfl,hrow,hb1⟩)
  |(go_at_call 213;refine (KC.out _ _ _ hrow).mono ?_;rintro e w2 ⟨rfl,n,rfl⟩))
 go_ret2
 exact ⟨rfl,below_drewN' hb1 _⟩
theorem sizeOw:(Tryz.prog.info? 109).map (·.size)=some 2:=by kernel_rfl
theorem spOwner_yes (h:SInv w P d p X) (hH:Has X.cur O k) (hO:OOk O k) {n:Nat} (hn:n<64*k):
 Calls Tryz.prog 192 #[p,.int .i64 n] w fun e w'=>e=.returned (.tuple #[.agg #[.int .u16 (O.getD n (0,0)).1,.int .u16 (O.getD n (0,0)).2],.int .i64 0])/\Below w.heap.size w w':=by
 have h12:=hO.k12
 obtain ⟨g,hg⟩:∃ g,g=n / 64:=⟨_,rfl⟩
 obtain ⟨j,hj⟩:∃ j,j=n%64:=⟨_,rfl⟩
 have hgk:g<k:=by omega
 have hj64:j<64:=by omega
 have hnj:n=64*g+j:=by omega
 have KP:=Lib.hid (spPoss_is (n:Int) true (decide_eq_true (by omega)))
 have KG:=Lib.hid (fun (W:World)=>gGroup_any (n:Int) (by omega) W)
 have eg:grpI (n:Int)=g:=by unfold grpI;rw[if_neg (by omega)];omega
 rw[eg] at KG
 have hb1:=below_box w (.cells #[.int .u16 0,.int .u16 0] 109)
 have hr1:=heap_alloc_new w (.cells #[.int .u16 0,.int .u16 0] 109)
 obtain ⟨W1,hW1⟩:∃ W1,W1=w.alloc (.cells #[.int .u16 0,.int .u16 0] 109):=⟨_,rfl⟩
 rw[<- hW1] at hb1 hr1
 have KR:=Lib.hid (spRead_at (h.low hb1) hH hO hgk)
 have hz1:w.heap.size<W1.heap.size:=by rw[hW1];simp
 have e1:=grO_getD O g hj64
 rw[<- hnj] at e1
 have KR2:Hid (Calls Tryz.prog 55 #[p,.int .i64 g] W1 fun e w'=>∃ b cap,e=.returned (.tuple #[.slice (some ⟨b,0,none⟩) 64 cap,.int .i64 0])/\b<w'.heap.size/\
  w'.cell? ⟨b,j*2,none⟩=some (.int .u16 (O.getD n (0,0)).1)/\w'.cell? ⟨b,j*2+1,none⟩=some (.int .u16 (O.getD n (0,0)).2)/\Below W1.heap.size W1 w'):=Lib.hid (KR.out.mono fun e w' ⟨b,cap,h1,h2,h3,_,h4,h5⟩=>⟨b,cap,h1,h3,by rw[<- e1];exact (h4 j hj64).1,by rw[<- e1];exact (h4 j hj64).2,h5⟩)
 obtain ⟨x,hx⟩:∃ x,x=(O.getD n (0,0)).1:=⟨_,rfl⟩
 obtain ⟨y,hy⟩:∃ y,y=(O.getD n (0,0)).2:=⟨_,rfl⟩
 rw[<- hx,<- hy] at KR2 |-
 have H1:=Lib.hid hW1.symm
 have HR1:=Lib.hid hr1
 have HB1:=Lib.hid hb1
 have hrem:(n:Int).tmod 64=j:=by rw[Int.tmod_eq_emod_of_nonneg (by omega)];omega
 have ej:(j:Int)<64:=by omega
 have HM:Hid (w.heap.size<W1.heap.size):=Lib.hid hz1
 clear h hH hO hn h12 hg hj hgk hnj eg KR e1 hx hy hW1 hr1 hb1 hz1
 go_enter Tryz.func192,Tryz.ntmps192
 go_wp2_with (first
  |(go_at_call 206;refine (KP.out _).mono ?_;rintro e w' ⟨rfl,rfl⟩)
  |(go_at_call 180;refine (KG.out _).mono ?_;rintro e w' ⟨rfl,rfl⟩)
  |(go_at_call 55;rw[H1.out];refine KR2.out.mono ?_;rintro e w2 ⟨b,cap,rfl,hbl,c1,c2,hb2⟩;have hr2:=below_hold HR1.out hb2)
  |(with_reducible refine wpList_store2 rfl 109 sizeOw (.tmp 4) (.tmp 27) rfl w.heap.size rfl _ _ _ _ rfl rfl rfl _ hr2 ?_;intro w5 hw5 hr5))
 refine bodyPost_ret (ret_cell2 rfl Tryz.underlying109 sizeOw _ _ w.heap.size _ _ _ _ rfl hr5 rfl) rfl ⟨rfl,(HB1.out.trans (hb2.mono (Nat.le_of_lt HM.out))).trans (hw5.below (Nat.le_refl _))⟩
end
end Go.Proofs.YtedabomlfcghoaaGreat
namespace Go.Proofs.YtedabomlfcghoaaGreat
set_option maxRecDepth 100000
open Go.RowKit Go.Maps
theorem grown_cellS {w w':World}{m b o:Nat} (h:w.grownBy w' (some m)) (hb:b<w.heap.size) (hne:b≠m):w'.cell? ⟨b,o,none⟩=w.cell? ⟨b,o,none⟩:=by
 apply World.cell?_of_block
 exact h.block b hb fun e=>hne (Option.some.inj e)
theorem addS_mem {N:List Int}{n y:Int}:y∈addS N n ↔ y∈N\/y=n:=by
 unfold addS
 split
 · exact ⟨.inl,fun h=>h.elim id fun e=>by rw[e];assumption⟩
 · simp
section
variable {w:World}{P:Nat->Prop}{d p:Value}{X:XSt}
theorem sPut_mem {Pd:Nat->Prop}{b be bp:Nat}{q:Int}{ek:List Int}{eg:Int->Value}{ev:Int->List Int}{pk:List Int}{pg:Int->Value}{pv:Int->List Int}{ds:DS} (h:SMem w Pd b be bp d q ek eg ev pk pg pv true ds)
 {n:Int} {v:Value} {l:List Int} (hv:BSl w v l) (hl:l.length=256) (hn:0<=n/\n<ds.F.length) (h768:ds.F.length<=768) (hpl:pk.length<=37) (hroom:n∈pk\/pk.length<37):
 Calls Tryz.prog 67 #[.pointer (some ⟨b,0,none⟩),.int .i64 n,v] w fun e w'=>e=.returned (.int .i64 0)/\∃ u,SMem w' Pd b be bp d q ek eg ev (addS pk n) (fun y=>if y=n then u else pg y) (fun y=>if y=n then l else pv y) true ds/\
  (∀ g,u.ownBlock=some g->w.heap.size<=g/\g<w'.heap.size)/\w.heap.size<=w'.heap.size/\Ext (fun k=>k=bp) w w':=by
 have hwf:(Lit.int .i64 n).wf=true:=i64wf (by omega)
 have KA:=Lib.hid (sAllows_is h true)
 have KH:=Lib.hid (sHas_is h n)
 rw[decide_eq_true hn] at KH
 have KL:=Lib.hid (sLoggable_is w n)
 rw[decide_eq_true (by omega)] at KL
 have c3:=h.c3
 have hlo:=h.mp.look_ok hwf
 have hlen:=fun ty=>h.mp.len ty
 have KC:=Lib.hid (fun W (hb:Below w.heap.size w W)=>bClone_of (hv.below hb) (by rw[hl];decide))
 have HB:=Lib.hid (fun W (hb:Below w.heap.size w W)=>h.below hb)
 have HW:=Lib.hid hwf
 have HP:=Lib.hid hpl
 have HLL:=Lib.hid hl
 obtain ⟨ao,cap,rfl,_⟩:=hv.shape
 rw[hl] at KC |-
 have HBL:=Lib.hid h.bl
 have HN:Hid (b<w.heap.size/\b≠bp):=Lib.hid ⟨h.bl,fun e=>h.nb.2 e.symm⟩
 refine Calls.mono (R:=fun e w'=>e=.returned (.int .i64 0)/\∃ u w3,OB w3 w.heap.size u l/\Below w.heap.size w w3/\Mp w' bp (addS pk n) (fun y=>if y=n then u else pg y)/\w3.grownBy w' (some bp)/\w'.heap.size=w3.heap.size) ?_ ?_
 · obtain ⟨uu,huu⟩:∃ uu,uu=(if n∈pk then pg n else .slice none 0 0):=⟨_,rfl⟩
   rw[<- huu] at hlo
   obtain ⟨m,hm⟩:∃ m,m=pk.length:=⟨_,rfl⟩
   rw[<- hm] at hlen HP hroom
   have HM:=Lib.hid hm
   by_cases hin:n∈pk
   · rw[decide_eq_true hin] at hlo
     clear h hv hn h768 hroom hpl hwf huu hin hl hm
     go_enter Tryz.func67,Tryz.ntmps67
     go_wp2_with (first
      |(go_at_call 37;(with_reducible refine KA.out.mono ?_);rintro e w' ⟨rfl,rfl⟩)
      |(go_at_call 104;(with_reducible refine KH.out.mono ?_);rintro e w' ⟨rfl,rfl⟩)
      |(go_at_call 115;(with_reducible refine KL.out.mono ?_);rintro e w' ⟨rfl,rfl⟩))
     have KC1:=Lib.hid (KC.out w.drew (below_drewN' (Below.refl _ _) 1))
     have d3:w.drew.cell? ⟨b,3,none⟩=some (.map (some bp)):=c3
     go_region_held3 (fun W=>W.cell? ⟨b,3,none⟩=some (.map (some bp))) (first|exact f3|exact e3|exact d3) (first
      |(go_at_call 106;(with_reducible refine KC1.out.mono ?_);rintro e w3 ⟨u,rfl,hob,hbe⟩
        have e3:=(hbe.cell (p:=⟨b,3,none⟩) HBL.out).trans c3
        have HOB:=Lib.hid hob
        have HBE:=Lib.hid (show Below w.heap.size w w3 from (below_drewN' (Below.refl _ _) 1).trans hbe)
        obtain ⟨dd,hdd⟩:=Blo.hdr (v:=u) ⟨hob.more (Nat.zero_le _),HLL.out⟩
        obtain ⟨w4,hrun4,hm4,hg4,hs4⟩:=(HB.out _ HBE.out).mp.store HW.out hdd (by have:=HP.out;have:=HM.out;omega)
        have f3:w4.cell? ⟨b,3,none⟩=some (.map (some bp)):=(grown_cellS hg4 (Nat.lt_of_lt_of_le HBL.out HBE.out.size) HN.out.2).trans e3
        have HM4:=Lib.hid hm4
        have HG4:=Lib.hid hg4
        have HS4:=Lib.hid hs4
        clear hob hbe hdd hm4 hg4 hs4))
     go_wp2
     go_ret
     exact ⟨rfl,u,w3,HOB.out,HBE.out,HM4.out,HG4.out,HS4.out⟩
   · have hm37:(m:Int)<37:=by have:=hroom.resolve_left hin;omega
     rw[decide_eq_false hin] at hlo
     clear h hv hn h768 hroom hpl hwf huu hin hl hm
     go_enter Tryz.func67,Tryz.ntmps67
     go_wp2_with (first
      |(go_at_call 37;(with_reducible refine KA.out.mono ?_);rintro e w' ⟨rfl,rfl⟩)
      |(go_at_call 104;(with_reducible refine KH.out.mono ?_);rintro e w' ⟨rfl,rfl⟩)
      |(go_at_call 115;(with_reducible refine KL.out.mono ?_);rintro e w' ⟨rfl,rfl⟩))
     have KC1:=Lib.hid (KC.out w.drew (below_drewN' (Below.refl _ _) 1))
     have d3:w.drew.cell? ⟨b,3,none⟩=some (.map (some bp)):=c3
     go_region_held3 (fun W=>W.cell? ⟨b,3,none⟩=some (.map (some bp))) (first|exact f3|exact e3|exact d3) (first
      |(go_at_call 106;(with_reducible refine KC1.out.mono ?_);rintro e w3 ⟨u,rfl,hob,hbe⟩
        have e3:=(hbe.cell (p:=⟨b,3,none⟩) HBL.out).trans c3
        have HOB:=Lib.hid hob
        have HBE:=Lib.hid (show Below w.heap.size w w3 from (below_drewN' (Below.refl _ _) 1).trans hbe)
        obtain ⟨dd,hdd⟩:=Blo.hdr (v:=u) ⟨hob.more (Nat.zero_le _),HLL.out⟩
        obtain ⟨w4,hrun4,hm4,hg4,hs4⟩:=(HB.out _ HBE.out).mp.store HW.out hdd (by have:=HP.out;have:=HM.out;omega)
        have f3:w4.cell? ⟨b,3,none⟩=some (.map (some bp)):=(grown_cellS hg4 (Nat.lt_of_lt_of_le HBL.out HBE.out.size) HN.out.2).trans e3
        have HM4:=Lib.hid hm4
        have HG4:=Lib.hid hg4
        have HS4:=Lib.hid hs4
        clear hob hbe hdd hm4 hg4 hs4))
     go_wp2
     go_ret
     exact ⟨rfl,u,w3,HOB.out,HBE.out,HM4.out,HG4.out,HS4.out⟩
 · rintro e w' ⟨rfl,u,w3,hob,hbe,hmp,hgr,hsz⟩
   have h3:=HB.out w3 hbe
   have hblo:Blo w3 u l:=⟨hob.more (Nat.zero_le _),HLL.out⟩
   have hk:∀ k,k<w3.heap.size->k≠bp->w'.heap[k]? =w3.heap[k]? :=fun k hk hn=>hgr.block k hk fun e=>hn (Option.some.inj e)
   have hext:Ext (fun k=>k=bp) w w':=(Ext.of_below hbe).trans (P2:=fun k=>k=bp) (Ext.of_grown hgr rfl) fun x _ e=>e
   refine ⟨rfl,u,⟨?_,?_,h3.q0,?_,hmp,h3.ne,?_,?_⟩,?_,hext.size,hext⟩
   · rw[hk b h3.bl fun e=>h3.nb.2 e.symm];exact h3.hb
   · exact h3.dk.same fun k hp=>hk k (h3.dk.lt k hp) fun e=>Mp.nd h3.dk h3.mp (e ▸ hp)
   · exact h3.me.keep (hk be h3.me.lt h3.ne)
   · exact fun x hx=>(h3.re x hx).keep fun g hg=>hk g ((h3.re x hx).lt hg) ((h3.re x hx).nm hg h3.mp)
   · intro x hx
     by_cases e:x=n
     · rw[if_pos e,if_pos e]
       exact hblo.keep fun g hg=>hk g (hblo.lt hg) (hblo.nm hg h3.mp)
     · rw[if_neg e,if_neg e]
       have hx':=(addS_mem.1 hx).resolve_right e
       exact (h3.rp x hx').keep fun g hg=>hk g ((h3.rp x hx').lt hg) ((h3.rp x hx').nm hg h3.mp)
   · intro g hg
     have:=World.ownsRow.lt hob.2 g hg
     exact ⟨this.1,by rw[hsz];exact this.2⟩
theorem sPut_of (h:SInv w P d p X) {n:Int}{v:Value}{l:List Int} (hv:BSl w v l) (hn: -9223372036854775808<=n/\n<=9223372036854775807) (hj:OutJ n.toNat):Calls Tryz.prog 67 #[p,.int .i64 n,v] w (XOut SInv w P d p (xPut X n l)):=by
 have h':=h
 obtain ⟨b,be,bp,Pd,q,ek,eg,ev,pk,pg,pv,rfl,hm,hpl,ho,hlt⟩:=h
 have hFl:=hpl.ok.lst.1
 have h768:=hpl.n64.2
 have hwf:(Lit.int .i64 n).wf=true:=i64wf hn
 have same:∀ z:Int,Calls Tryz.prog 67 #[.pointer (some ⟨b,0,none⟩),.int .i64 n,v] w (fun e w'=>e=.returned (.int .i64 z)/\w=w')->Calls Tryz.prog 67 #[.pointer (some ⟨b,0,none⟩),.int .i64 n,v] w (XOut SInv w P d (.pointer (some ⟨b,0,none⟩)) (z,X)):=fun z h=>h.mono fun e w' ⟨he,hw⟩=>by
  subst hw
  exact ⟨he,P,h',Chg.refl _ _⟩
 have KA:=Lib.hid (sAllows_is hm true)
 have KH:=Lib.hid (sHas_is hm n)
 have KL:=Lib.hid (sLoggable_is w n)
 obtain ⟨ao,cap,hvv,_⟩:=hv.shape
 unfold xPut
 cases hw:X.wi
 · rw[if_pos rfl]
   refine same 17 ?_
   rw[hw] at KA
   clear h' hm hpl ho hlt hFl h768 same hv hj hn KH KL hwf
   go_enter Tryz.func67,Tryz.ntmps67
   go_wp2_with (go_at_call 37;(with_reducible refine KA.out.mono ?_);rintro e w' ⟨rfl,rfl⟩)
   go_ret
   exact ⟨rfl,rfl⟩
 · rw[if_neg (by decide)]
   rw[hw] at KA hm
   obtain ⟨hput,hcl,hcv⟩:=hpl.wi1 hw
   by_cases ha:n<0\/(X.is.length:Int)<=n\/l.length≠256
   · rw[if_pos ha]
     refine same 1 ?_
     by_cases hr:0<=n/\n<X.ds.F.length
     · rw[decide_eq_true hr] at KH
       rw[decide_eq_true (by omega)] at KL
       have hl:¬ (l.length:Int)=256:=by omega
       obtain ⟨L,hL⟩:∃ L,L=l.length:=⟨_,rfl⟩
       rw[<- hL] at hvv hl
       subst hvv
       clear h' hm hpl ho hlt hFl h768 same hv hj hn hwf hput hcl hcv ha hr hL
       go_enter Tryz.func67,Tryz.ntmps67
       go_wp2_with (first
        |(go_at_call 37;(with_reducible refine KA.out.mono ?_);rintro e w' ⟨rfl,rfl⟩)
        |(go_at_call 104;(with_reducible refine KH.out.mono ?_);rintro e w' ⟨rfl,rfl⟩)
        |(go_at_call 115;(with_reducible refine KL.out.mono ?_);rintro e w' ⟨rfl,rfl⟩))
       go_ret
       exact ⟨rfl,rfl⟩
     · rw[decide_eq_false hr] at KH
       clear h' hm hpl ho hlt hFl h768 same hv hj hn hwf hput hcl hcv ha hr KL
       go_enter Tryz.func67,Tryz.ntmps67
       go_wp2_with (first
        |(go_at_call 37;(with_reducible refine KA.out.mono ?_);rintro e w' ⟨rfl,rfl⟩)
        |(go_at_call 104;(with_reducible refine KH.out.mono ?_);rintro e w' ⟨rfl,rfl⟩))
       go_ret
       exact ⟨rfl,rfl⟩
   · rw[if_neg ha]
     have hr:0<=n/\n<X.ds.F.length:=by omega
     have hl:l.length=256:=by omega
     by_cases hf:n ∉ X.put/\37<=X.put.length
     · rw[if_pos hf]
       refine same 13 ?_
       rw[hput] at hf
       rw[decide_eq_true hr] at KH
       rw[decide_eq_true (by omega)] at KL
       have c3:=hm.c3
       have hlo:=hm.mp.look_ok hwf
       have hlen:=fun ty=>hm.mp.len ty
       rw[if_neg hf.1,decide_eq_false hf.1] at hlo
       have hm37:37<=(pk.length:Int):=by omega
       obtain ⟨m,hmm⟩:∃ m,m=pk.length:=⟨_,rfl⟩
       rw[<- hmm] at hlen hm37
       rw[hl] at hvv
       subst hvv
       clear h' hm hpl ho hlt hFl h768 same hv hj hn hwf hput hcl hcv ha hr hf hl hmm
       go_enter Tryz.func67,Tryz.ntmps67
       go_wp2_with (first
        |(go_at_call 37;(with_reducible refine KA.out.mono ?_);rintro e w' ⟨rfl,rfl⟩)
        |(go_at_call 104;(with_reducible refine KH.out.mono ?_);rintro e w' ⟨rfl,rfl⟩)
        |(go_at_call 115;(with_reducible refine KL.out.mono ?_);rintro e w' ⟨rfl,rfl⟩))
       go_ret
       exact ⟨rfl,rfl⟩
     · rw[if_neg hf]
       refine (sPut_mem hm hv hl hr (by omega) hpl.pl ?_).mono ?_
       · rw[hput] at hf
         by_cases hin:n∈pk
         · exact .inl hin
         · refine .inr ?_
           have:¬ 37<=pk.length:=fun h=>hf ⟨hin,h⟩
           omega
       · rintro e w' ⟨rfl,u,hm',hu,hsz,hext⟩
         have hP:∀ k,k=bp->P k:=fun k e=>ho k (.inr (.inr (.inr (.inl e))))
         refine ⟨rfl,grP P w w',⟨b,be,bp,Pd,q,ek,eg,ev,addS pk n,_,_,rfl,hm',?_,?_,?_⟩,(hext.sub hP).chg⟩
         · have hnn:((n.toNat:Nat):Int)=n:=Int.toNat_of_nonneg hr.1
           refine { hpl with ok:={ hpl.ok with call:=fun _=>by show (X.call.set _ _).length=_;rw[List.length_set];exact hcl },kp:=?_,pl:=?_,wi0:=fun e=>Bool.noConfusion (show true=false from e),wi1:=fun _=>⟨?_,?_,?_⟩ }
           · intro x hx
             rcases addS_mem.1 hx with hx|rfl
             · exact hpl.kp x hx
             · exact ⟨hr.1,by show x<(X.is.length:Int);omega,hj⟩
           · unfold addS
             split
             · exact hpl.pl
             · rename_i hin
               have:¬ 37<=pk.length:=fun h=>hf (by rw[hput];exact ⟨hin,h⟩)
               rw[List.length_append,List.length_singleton];omega
           · show addS X.put n=addS pk n
             rw[hput]
           · show (X.call.set _ _).length=_
             rw[List.length_set];exact hcl
           · intro i hoi hi
             have hi':i<X.is.length:=hi
             show (X.call.set n.toNat l).getD i []=_
             by_cases e:n.toNat=i
             · subst e
               rw[List.getD_eq_getElem?_getD,List.getElem?_set_self (by omega),if_pos (addS_mem.2 (.inr hnn)),if_pos hnn];rfl
             · have hne:(i:Int)≠n:=fun e'=>e (by omega)
               rw[List.getD_eq_getElem?_getD,List.getElem?_set_ne e,<- List.getD_eq_getElem?_getD,hcv i hoi hi']
               by_cases hin:(i:Int)∈pk
               · rw[if_pos hin,if_pos (addS_mem.2 (.inl hin)),if_neg hne]
               · rw[if_neg hin,if_neg fun h=>hin ((addS_mem.1 h).resolve_right hne)]
         · intro k hk
           rcases hk with hk|rfl|rfl|rfl| ⟨x,hx,hg⟩| ⟨x,hx,hg⟩
           · exact .inl (ho k (.inl hk))
           · exact .inl (ho _ (.inr (.inl rfl)))
           · exact .inl (ho _ (.inr (.inr (.inl rfl))))
           · exact .inl (ho _ (.inr (.inr (.inr (.inl rfl)))))
           · exact .inl (ho k (.inr (.inr (.inr (.inr (.inl ⟨x,hx,hg⟩))))))
           · by_cases e:x=n
             · have hg:(if x=n then u else pg x).ownBlock=some k:=hg
               rw[if_pos e] at hg
               exact .inr (hu k hg)
             · have hg:(if x=n then u else pg x).ownBlock=some k:=hg
               rw[if_neg e] at hg
               exact .inl (ho k (.inr (.inr (.inr (.inr (.inr ⟨x,(addS_mem.1 hx).resolve_right e,hg⟩))))))
         · rintro k (hk|hk)
           · exact Nat.lt_of_lt_of_le (hlt k hk) hsz
           · exact hk.2
end
end Go.Proofs.YtedabomlfcghoaaGreat
namespace Go.Proofs.YtedabomlfcghoaaGreat
set_option maxRecDepth 100000
open Go.RowKit
theorem splice_take {α:Type}{cur vs:List α}{o n:Nat} (h:o+vs.length<=n) (hn:n<=cur.length):(splice cur o vs).take n=splice (cur.take n) o vs:=by
 apply List.ext_getElem?
 intro i
 unfold splice
 by_cases h1:i<n
 · rw[List.getElem?_take,if_pos h1]
   have e1:(List.take o cur).length=o:=by rw[List.length_take];omega
   have e2:(List.take o (List.take n cur)).length=o:=by rw[List.length_take,List.length_take];omega
   rw[List.getElem?_append,List.getElem?_append (l₁:=List.take o (List.take n cur)),e1,e2]
   by_cases h2:i<o
   · rw[if_pos h2,if_pos h2,List.getElem?_take,List.getElem?_take,if_pos h2,if_pos h2,List.getElem?_take,if_pos h1]
   · rw[if_neg h2,if_neg h2,List.getElem?_append,List.getElem?_append]
     by_cases h3:i-o<vs.length
     · rw[if_pos h3,if_pos h3]
     · rw[if_neg h3,if_neg h3,List.getElem?_drop,List.getElem?_drop,List.getElem?_take,if_pos (by omega)]
 · rw[List.getElem?_eq_none (by simp;omega),List.getElem?_eq_none (by simp;omega)]
theorem wpList_store_owp {ops:Array Oper}{rest:List Oper}{op:Oper}{a:Act}{w:World}{Q:Exit->Act->World->Prop} (hgd:op.guard=none) (x y:Operand) (ho:op.op=.store 109 x y)
 (g k:Nat) (O:List (Int × Int)) (cur:Array Value) (i j:Int) (hx:a.eval x=.pointer (some ⟨g,k*2,none⟩)) (hy:a.eval y=.agg #[.int .u16 i,.int .u16 j])
 (hg:w.heap[g]? =some (.cells cur 109 (0,0))) (hc:cur.toList.take (O.length*2)=ownC O) (hs:O.length*2<=cur.size) (hk:k<O.length)
 (h:∀ w' cur',Wrote w w' g->w'.heap[g]? =some (.cells cur' 109 (0,0))->cur'.size=cur.size->cur'.toList.take (O.length*2)=ownC (O.set k (i,j))->wpList Tryz.prog ops Q rest (a.put op.dst undef) w'):wpList Tryz.prog ops Q (op :: rest) a w:=by
 have hz:(Tryz.prog.info? 109).map (·.size)=some 2:=by kernel_rfl
 have hg':w.heap[g]? =some (.cells cur.toList.toArray 109 (0,0)):=by rw[Array.toArray_toList];exact hg
 have hl:k*2+(cO (i,j)).length<=cur.toList.length:=by rw[show (cO (i,j)).length=2 from rfl];simpa using (show k*2+2<=cur.size by omega)
 have h1:∀ v∈cO (i,j),v.oneCell'=true:=fun v hv=>by simp[cO] at hv;rcases hv with rfl|rfl <;> rfl
 refine wpList_store_mid hgd 109 x y ho g (k*2) #[.int .u16 i,.int .u16 j] hx hy (there_row hg' hl) (by rw[hz];rfl) (all_oneCell_toArray (cs:=cO (i,j)) h1) ?_
 have e:=setCells_row hg' hl h1
 rw[show (#[Value.int .u16 i,Value.int .u16 j]:Array Value).toList=cO (i,j) from rfl,e]
 refine h _ (splice cur.toList (k*2) (cO (i,j))).toArray (Wrote.setRow _ _ _) (setRow_heap _ _ _ _ _ _ hg) ?_ ?_
 · simp[splice,cO];omega
 · rw[List.toList_toArray,splice_take (show k*2+2<=_ by omega) (by rw[Array.length_toList];exact hs),hc,ownC,flat_set (f:=cO) (s:=2) (fun x _=>cO_len x) k hk (i,j) (cO_len _)]
   rfl
section
variable {w:World}{M:Nat->Prop}{p:Value}{n:Int}{O:List (Int × Int)}
theorem RSp.row (h:RSp w M p n O) (h0:0<O.length):∃ b g cap cur,p=.pointer (some ⟨b,0,none⟩)/\w.heap[b]? =some (.cells #[.int .i64 n,.slice (some ⟨g,0,none⟩) O.length cap] 135 (0,0))/\w.heap[g]? =some (.cells cur 109 (0,0))/\cur.toList.take (O.length*2)=ownC O/\O.length<=cap/\cap<=maxLen/\cur.size=cap*2/\OwB O/\∀ k,M k ↔ k=b\/k=g:=by
 obtain ⟨b,v,rfl,hb,⟨hB,ho⟩,hM⟩:=h
 rcases ho.2 with ⟨_,e0⟩| ⟨g,cap,cur,rfl,_,hg,hnc,hcm,hcs,ht⟩
 · omega
 · refine ⟨b,g,cap,cur,rfl,hb,hg,ht,hnc,hcm,hcs,hB,fun k=>(hM k).trans ?_⟩
   simp only[Value.ownBlock,Option.some.injEq]
   exact ⟨fun h=>h.imp id Eq.symm,fun h=>h.imp id Eq.symm⟩
theorem RSp.stored {b g cap:Nat}{cur':Array Value} (hb:w.heap[b]? =some (.cells #[.int .i64 n,.slice (some ⟨g,0,none⟩) O.length cap] 135 (0,0))) {cur:Array Value} (hg0:w.heap[g]? =some (.cells cur 109 (0,0))) (hnc:O.length<=cap) (hcm:cap<=maxLen) (hB:OwB O) (hM:∀ k,M k ↔ k=b\/k=g) {w':World} (hw:Wrote w w' g) (hg:w'.heap[g]? =some (.cells cur' 109 (0,0))) (hs:cur'.size=cap*2)
 {k:Nat} {i j:Int} (ht:cur'.toList.take (O.length*2)=ownC (O.set k (i,j))) (hij:(0<=i/\i<=65535)/\(0<=j/\j<=65535)):RSp w' M (.pointer (some ⟨b,0,none⟩)) n (O.set k (i,j))/\Chg M M w w':=by
 have hne:b≠g:=fun e=>by
  rw[e,hg0] at hb
  injection hb with hb
  injection hb with _ hb _
  exact absurd hb (by decide)
 refine ⟨⟨b,.slice (some ⟨g,0,none⟩) O.length cap,rfl,(hw.2.2.2.2 b hne).trans hb,⟨?_,?_⟩,?_⟩,⟨hw.1,hw.2.1,hw.2.2.1,by rw[hw.2.2.2.1];exact Nat.le_refl _,fun x hx hn=>⟨hw.2.2.2.2 x fun e=>hn ((hM x).2 (.inr e)),hn⟩⟩⟩
 · intro x
   rw[List.getD_eq_getElem?_getD,List.getElem?_set]
   by_cases e:k=x
   · rw[if_pos e]
     split
     · exact hij
     · exact ⟨by decide,by decide⟩
   · rw[if_neg e,<- List.getD_eq_getElem?_getD]
     exact hB x
 · rw[List.length_set]
   exact ⟨by rw[ownC_length,List.length_set],.inr ⟨g,cap,cur',rfl,Nat.zero_le _,hg,hnc,hcm,hs,ht⟩⟩
 · intro x
   rw[hM x]
   simp only[Value.ownBlock,Option.some.injEq]
   exact ⟨fun h=>h.imp id Eq.symm,fun h=>h.imp id Eq.symm⟩
end
end Go.Proofs.YtedabomlfcghoaaGreat
namespace Go.Proofs.YtedabomlfcghoaaGreat
set_option maxRecDepth 100000
open Go.RowKit BM
section
variable {w:World}{P:Nat->Prop}{d p:Value}{X:XSt}{O D:List (Int × Int)}{k:Nat}
theorem OB.far {B:Nat}{v:Value}{l:List Int} (h:OB w B v l) (hP:∀ i,P i->i<B):Apt P v:=fun ad n cap e hn hp=>by
 have:=(World.ownsRow.lt h.2 ad.block (by rw[e];rfl)).1
 have:=hP _ hp
 omega
def putX (X:XSt) (g:Nat) (D:List (Int × Int)):XSt:={ X with call:=putG X.call g D,put:=addS (addS X.put ((dscN g:Int)+1)) (dscN g:Int) }
theorem addS_le (S:List Int) (n:Int):(addS S n).length<=S.length+1:=by unfold addS;split <;> simp
theorem xPut_ok {X:XSt}{n:Int}{l:List Int} (hw:X.wi=true) (h0:0<=n) (h1:n<X.is.length) (hl:l.length=256) (hp:X.put.length<37):xPut X n l=(0,{ X with call:=X.call.set n.toNat l,put:=addS X.put n }):=by
 unfold xPut
 rw[if_neg (by rw[hw];decide),if_neg (by omega),if_neg (by omega)]
theorem spWrite_of {v:Value} (h:SInv w P d p X) (hw:X.wi=true) (hp0:X.put.length<=35) (hlen:X.is.length=64*k) (h12:k<=12) {g:Nat} (hg:g<k) (hs:OwSl w v D) (ha:allO D=true):
 Calls Tryz.prog 207 #[p,.int .i64 g,v] w fun e w'=>e=.returned (.int .i64 0)/\∃ P',SInv w' P' d p (putX X g D)/\Chg P P' w w':=by
 have hin:=dscN_in hg
 have hlt:=h.lt
 have KP:=Lib.hid (grPage_yes hs ha)
 have KD:Hid (∀ W:World,Below w.heap.size w W->Calls Tryz.prog 98 #[.int .i64 g,v] W fun e w'=>∃ u,e=.returned (.tuple #[u,.int .i64 0])/\OB w' W.heap.size u (descS g (usedK D 64))/\Below W.heap.size W w'):=Lib.hid fun W hb=>spDesc_is (hs.below hb) (g:Int) (by omega) (by omega) ha
 have KGd:=Lib.hid (fun (W:World)=>gDesc_any (g:Int) W)
 have KGo:=Lib.hid (fun (W:World)=>gOwners_any (g:Int) W)
 rw[dscN_I (show g<12 by omega)] at KGd
 rw[ownN_I (show g<12 by omega)] at KGo
 have hD:=allO_len ha
 have e1:((dscN g:Int)+1).toNat=dscN g+1:=by omega
 have x1:=xPut_ok (X:=X) (n:=(dscN g:Int)+1) (l:=pageS D) hw (by omega) (by omega) (pageS_length hD) (by omega)
 rw[e1] at x1
 have x2:=xPut_ok (X:={ X with call:=X.call.set (dscN g+1) (pageS D),put:=addS X.put ((dscN g:Int)+1) }) (n:=(dscN g:Int)) (l:=descS g (usedK D 64)) hw (by omega) (by show _<(X.is.length:Int);omega) (by rw[descS];exact sealS_length _ (by rw[descC_length _ _ (usedK_length _ _)];decide)) (by show (addS X.put ((dscN g:Int)+1)).length<37;have:=addS_le X.put ((dscN g:Int)+1);omega)
 have KS1:Hid (∀ (W:World) (u:Value),Below w.heap.size w W->BSl W u (pageS D)->Calls Tryz.prog 67 #[p,.int .i64 ((dscN g:Int)+1),u] W fun e w'=>e=.returned (.int .i64 0)/\∃ P',SInv w' P' d p { X with call:=X.call.set (dscN g+1) (pageS D),put:=addS X.put ((dscN g:Int)+1) }/\Chg P P' W w'):=Lib.hid fun W u hb hu=>by
  have:=sPut_of (h.low hb) hu (n:=(dscN g:Int)+1) (by omega) (by rw[e1];exact hin.2.2)
  rw[x1] at this
  exact this
 have KS2:Hid (∀ (W:World) (u:Value) (P2:Nat->Prop),SInv W P2 d p { X with call:=X.call.set (dscN g+1) (pageS D),put:=addS X.put ((dscN g:Int)+1) }->BSl W u (descS g (usedK D 64))->Calls Tryz.prog 67 #[p,.int .i64 (dscN g:Nat),u] W fun e w'=>e=.returned (.int .i64 0)/\∃ P',SInv w' P' d p (putX X g D)/\Chg P2 P' W w'):=Lib.hid fun W u P2 h2 hu=>by
  have:=sPut_of h2 hu (n:=(dscN g:Int)) (by omega) (by rw[Int.toNat_natCast];exact hin.2.1)
  rw[x2] at this
  exact this
 have HLT:=Lib.hid hlt
 clear h hw hp0 hlen h12 hg hs ha hin hlt hD e1 x1 x2
 go_enter Tryz.func207,Tryz.ntmps207
 go_wp2_with (first
  |(go_at_call 214;refine KP.out.mono ?_;rintro e w1 ⟨vp,rfl,hvp,hb1⟩)
  |(go_at_call 98;refine (KD.out _ hb1).mono ?_;rintro e w2 ⟨vd,rfl,hvd,hb2⟩;have hb02:=hb1.trans (hb2.mono hb1.size);have hvp2:=hvp.below hb2;have hfar:=hvd.far (P:=P) (fun i hi=>Nat.lt_of_lt_of_le (HLT.out i hi) hb1.size))
  |(go_at_call 94;refine (KGd.out _).mono ?_;rintro e w' ⟨rfl,rfl⟩)
  |(go_at_call 95;refine (KGo.out _).mono ?_;rintro e w' ⟨rfl,rfl⟩)
  |(go_at_call 67;(with_reducible refine (KS1.out _ _ hb02 hvp2.bsl).mono ?_);rintro e w3 ⟨rfl,P3,hi3,hc3⟩;have hvd3:=(hvd.bsl.chg hfar hc3).1)
  |(go_at_call 67;(with_reducible refine (KS2.out _ _ _ hi3 hvd3).mono ?_);rintro e w4 ⟨rfl,P4,hi4,hc4⟩))
 go_ret
 exact ⟨rfl,P4,hi4,((Chg.of_below hb02).trans hc3).trans hc4⟩
end
section
variable {w:World}{P:Nat->Prop}{d p:Value}{X:XSt}{S:List Int}{N:List (List Int)}{bf:Nat}
def putI (X:XSt) (S:List Int) (N:List (List Int)) (n:Nat) (x:List Int):XSt:={ X with call:=X.call.set (tabAt S (n / 8)) (encT (inT (N.set n x) (n / 8))),put:=addS X.put (tabAt S (n / 8):Nat) }
set_option maxHeartbeats 1000000 in
theorem fsPut_yes (h:SInv w P d p X) (hw:X.wi=true) (hp:X.put.length<37) (hf:FsAt w bf p) (hT:Tab X.call S N) {n:Nat} (h0:1<=n) (h48:n<48) {x:List Int} (hx:x.length=14) (hfx:frmI x=true) {W:World} (hb:Below w.heap.size w W):
 Calls Tryz.prog 48 #[.pointer (some ⟨bf,0,none⟩),.int .i64 n,.agg (iC x).toArray] W fun e w'=>e=.returned (.int .i64 0)/\∃ P',SInv w' P' d p (putI X S N n x)/\Chg P P' W w':=by
 have ht:n / 8<6:=by omega
 have hj:n%8<8:=by omega
 have hcur:X.cur=X.call:=by unfold XSt.cur;rw[if_pos hw]
 have hT':Tab X.cur S N:=by rw[hcur];exact hT
 have hin:=tabAt_in hT.sf ht
 have hlA:tabAt S (n / 8)<X.is.length:=by have:=hT.at ht;rwa [<- hcur,h.xok.curLen] at this
 have hb1:=below_box W (iO x 47)
 have hr1:=heap_alloc_new W (iO x 47)
 obtain ⟨w1,hw1⟩:∃ w1,w1=W.alloc (iO x 47):=⟨_,rfl⟩
 rw[<- hw1] at hb1 hr1
 have h1:W.alloc (.cells (iC x).toArray 47)=w1:=by rw[hw1];rfl
 have hb01:=hb.trans (hb1.mono hb.size)
 have H1:=Lib.hid h1
 have HX:=Lib.hid hx
 have u1:=Tryz.underlying47
 have HR1:Hid (∀ V,Below w1.heap.size w1 V->V.rangeAt W.heap.size 0 (iC x)):=Lib.hid fun V hv=>io_range (below_hold hr1 hv)
 have KF:=Lib.hid (iForm_is hx true hfx)
 have KN:=Lib.hid (fun (V:World) (hv:Below w.heap.size w V)=>fsFind_yes h hf hT' h0 h48 hv)
 have hok2:=hT.n.set n hx hfx
 obtain ⟨h14',hal'⟩:=hok2.all ht
 have h14:=inT_14 hT.n.l14 (n / 8)
 have hl8:=inT_length hT.n.len ht
 have hl8':=inT_length hok2.len ht
 have hset:=inT_set_self N n x
 obtain ⟨X',hX'⟩:∃ X',X'=putI X S N n x:=⟨_,rfl⟩
 have hxp:=xPut_ok (X:=X) (n:=(tabAt S (n / 8):Int)) (l:=encT (inT (N.set n x) (n / 8))) hw (by omega) (by omega) (encT_len _) hp
 rw[Int.toNat_natCast,show ({ X with call:=X.call.set (tabAt S (n / 8)) (encT (inT (N.set n x) (n / 8))),put:=addS X.put (tabAt S (n / 8):Nat) }:XSt)=X' from hX'.symm] at hxp
 rw[<- hX']
 have KP:Hid (∀ (V:World) (u:Value),Below w.heap.size w V->BSl V u (encT (inT (N.set n x) (n / 8)))->Calls Tryz.prog 67 #[p,.int .i64 (tabAt S (n / 8):Nat),u] V fun e w'=>e=.returned (.int .i64 0)/\∃ P',SInv w' P' d p X'/\Chg P P' V w'):=Lib.hid fun V u hv hu=>by
  have:=sPut_of (h.low hv) hu (n:=(tabAt S (n / 8):Int)) (by omega) (by rw[Int.toNat_natCast];exact hin.2.2.2.2.1)
  rw[hxp] at this
  exact this
 have KB:=Lib.hid (fun (V:World) (hv:Below w.heap.size w V)=>fsBlocks_of (hf.low hv))
 have HBW:=Lib.hid hb01
 clear hw hp hf hT hT' hcur hw1 hr1 h1 hb hb01 hok2 hxp hX' h0 h48 h hfx hin hlA hx
 obtain ⟨A,hA⟩:∃ A,A=tabAt S (n / 8):=⟨_,rfl⟩
 obtain ⟨T,hTT⟩:∃ T,T=inT N (n / 8):=⟨_,rfl⟩
 obtain ⟨T2,hT2⟩:∃ T2,T2=inT (N.set n x) (n / 8):=⟨_,rfl⟩
 obtain ⟨j,hjj⟩:∃ j,j=n%8:=⟨_,rfl⟩
 rw[<- hA] at KN KP
 rw[<- hTT] at KN h14 hl8 hset
 rw[<- hT2] at KP hl8' h14' hal' hset
 rw[<- hjj] at KN hj hset
 have ej:(j:Int)<8:=by omega
 have HJ:Hid (j<T.length):=Lib.hid (by omega)
 have H14:Hid (∀ y∈T,(iC y).length=14):=Lib.hid fun y hy=>by rw[iC_length];exact h14 y hy
 have KE:=Lib.hid (fun (V:World) (g:Nat) (hr:V.heap[g]? =some (.cells ((T.set j x).flatMap iC).toArray 47 (0,0)))=>iEnc_yes (row8_sl h14' hl8' (by rw[hset];exact hr)) hal')
 clear hA hTT hT2 hjj ht hj h14 h14' hl8 hl8' hal' hset
 go_enter Tryz.func48,Tryz.ntmps48
 go_upto_region 1 with (fail)
 rw[H1.out]
 have hrg:=HR1.out _ (Below.refl _ _)
 go_upto_region 10 with (first
  |(with_reducible refine wpList_load_nums rfl 47 (.tmp 5) rfl W.heap.size 0 rfl x _ hrg u1 rfl (by rw[sizeIn,HX.out]) ?_)
  |(go_at_call 90;refine (KF.out _).mono ?_;rintro e w2 ⟨rfl,hb2⟩)
  |(go_at_call 36;refine (KN.out _ (HBW.out.trans (hb2.mono HBW.out.size))).mono ?_;rintro e w3 ⟨g,rfl,hg3,hr3,hb3⟩
    have hb34:=below_box w3 (.cells #[.int .i64 A,.slice (some ⟨g,0,none⟩) 8 8,.int .i64 j] 84)
    have hr4:(w3.alloc (.cells #[.int .i64 A,.slice (some ⟨g,0,none⟩) 8 8,.int .i64 j] 84)).heap[g]? =some (.cells (T.flatMap iC).toArray 47 (0,0)):=below_hold hr3 hb34
    have hb14:=(hb2.trans (hb3.mono hb2.size)).trans (hb34.mono (Nat.le_trans hb2.size hb3.size))
    have hrg4:=HR1.out _ hb14
    have hn4:=heap_alloc_new w3 (.cells #[.int .i64 A,.slice (some ⟨g,0,none⟩) 8 8,.int .i64 j] 84)
    have hg1:=Nat.le_trans hb2.size hg3
    have hg3l:=(Array.getElem?_eq_some_iff.1 hr3).1)
  |(with_reducible refine wpList_load_nums rfl 47 (.tmp 5) rfl W.heap.size 0 rfl x _ hrg4 u1 rfl (by rw[sizeIn,HX.out]) ?_)
  |(with_reducible refine wpList_store_flat (f:=iC) (s:=14) rfl 47 (.tmp 27) (.tmp 26) rfl sizeIn g j T x 47 rfl rfl hr4 HJ.out H14.out (by rw[iC_length,HX.out]) (iC_one _) ?_;intro w5 hw5 hr5
    have hb15:=hb14.trans (hw5.below hg1)
    have hn5:=(hw5.2.2.2.2 w3.heap.size (by omega)).trans hn4
    have c50:=cell_of_row _ _ 0 _ _ _ hn5
    have c51:=cell_of_row _ _ 1 _ _ _ hn5
    have c52:=cell_of_row _ _ 2 _ _ _ hn5)
  |(go_at_call 91;refine (KE.out _ _ hr5).mono ?_;rintro e w6 ⟨u,rfl,hu6,hb6⟩
    have hb16:=hb15.trans (hb6.mono hb15.size)
    have hn6:=below_hold hn5 hb6
    have c60:w6.drew.cell? ⟨w3.heap.size,0,none⟩=some (.int .i64 A):=by rw[show w6.drew.cell? ⟨w3.heap.size,0,none⟩=w6.cell? ⟨w3.heap.size,0,none⟩ from rfl,cell_of_row _ _ 0 _ _ _ hn6];rfl))
 have hbd:Below w6.heap.size w6 w6.drew:=(Below.refl _ _).drew
 have hb17:=hb16.trans (hbd.mono hb16.size)
 have hu7:=hu6.bsl.below hbd
 have KB7:Hid (Calls Tryz.prog 92 #[.pointer (some ⟨bf,0,none⟩)] w6.drew fun e w'=>e=Ending.returned p/\w'=w6.drew):=Lib.hid ((KB.out _ (HBW.out.trans (hb17.mono HBW.out.size))).mono fun e w' ⟨h1,h2⟩=>⟨h1,h2.symm⟩)
 have KP7:=Lib.hid (KP.out _ _ (HBW.out.trans (hb17.mono HBW.out.size)) hu7)
 have HB7:=Lib.hid (hb1.trans (hb17.mono hb1.size))
 clear hrg hrg4 hr3 hr4 hr5 hn4 hn5 hn6 c50 c51 c52
 refine wp_region_still_tail 5 (by kernel_rfl) (by kernel_rfl) ?_
 simp only[List.take_succ_cons,List.take_zero,List.drop_succ_cons,List.drop_zero]
 repeat still_step
 still_call KB7.out
 repeat still_step
 refine wpStill_nil ?_
 change wpList _ _ _ _ _ w6.drew
 go_wp2_with (go_at_call 67;refine KP7.out.mono ?_;rintro e w8 ⟨rfl,P8,hi8,hc8⟩)
 go_ret
 exact ⟨rfl,P8,hi8,(Chg.of_below HB7.out).trans hc8⟩
end
def kindN (N:List (List Int)) (m:Nat):Int:=(N.getD m []).getD 0 0
def FreeAt (N:List (List Int)) (f:Nat):Prop:=1<=f/\f<48/\kindN N f=0/\∀ m,1<=m->m<f->kindN N m≠0
def FullN (N:List (List Int)):Prop:=∀ m,1<=m->m<48->kindN N m≠0
theorem FreeAt.one {N:List (List Int)}{f g:Nat} (h:FreeAt N f) (h':FreeAt N g):f=g:=by
 rcases Nat.lt_trichotomy f g with e|e|e
 · exact absurd h.2.2.1 (h'.2.2.2 f h.1 e)
 · exact e
 · exact absurd h'.2.2.1 (h.2.2.2 g h'.1 e)
theorem idx_a6 {L:List Int} (hL:L.length=6) (W:World) (t:Nat) (ht:t<6):(Instr.index 116 (.agg (iC L).toArray) (.int .i64 (t:Int))).run Tryz.prog W=.ok (.int .i64 (L.getD t 0)) W:=by
 match L,hL with
 |[t0,t1,t2,t3,t4,t5],_=>
  have:t=0\/t=1\/t=2\/t=3\/t=4\/t=5:=by omega
  rcases this with rfl|rfl|rfl|rfl|rfl|rfl <;> simp[Instr.index,run_underlying Tryz.underlying116,asIntOf,go_sem,iC]
theorem infoA6:(Tryz.prog.info? 116).map (·.size)=some 6:=by kernel_rfl
section
variable {w:World}{P:Nat->Prop}{d p:Value}{X:XSt}{S:List Int}{N:List (List Int)}{bf:Nat}
set_option maxHeartbeats 1000000 in
theorem fsFree_any (h:SInv w P d p X) (hf:FsAt w bf p) (hT:Tab X.cur S N) {W:World} (hb:Below w.heap.size w W):
 Calls Tryz.prog 47 #[.pointer (some ⟨bf,0,none⟩)] W fun e w'=>((∃ f,FreeAt N f/\e=.returned (.tuple #[.int .i64 (f:Nat),.int .i64 0]))\/(FullN N/\e=.returned (.tuple #[.int .i64 0,.int .i64 13])))/\Below W.heap.size W w':=by
 have KS:=Lib.hid (fsSuper_of h hf hT hb)
 have KI:=Lib.hid (fun (t:Nat) (ht:t<6) (V:World) (hv:Below w.heap.size w V)=>fsInodes_of h hf hT ht hv)
 have HBW:=Lib.hid hb
 have h12:=hT.s12
 have hd6:(S.drop 6).length=6:=by rw[List.length_drop,h12]
 obtain ⟨A6,hA6⟩:∃ A6,A6=Value.agg (iC (S.drop 6)).toArray:=⟨_,rfl⟩
 have HA6:=Lib.hid hA6.symm
 have HIX:Hid (∀ (V:World) (t:Nat),t<6->(Instr.index 116 A6 (.int .i64 (t:Int))).run Tryz.prog V=.ok (.int .i64 (tabAt S t:Nat)) V):=Lib.hid fun V t ht=>by
  rw[hA6,idx_a6 hd6 V t ht]
  have:=(tabAt_in hT.sf ht).1
  unfold num at this
  rw[<- this,List.getD_eq_getElem?_getD,List.getD_eq_getElem?_getD,List.getElem?_drop]
 have HRG:Hid (∀ (V:World) (g:Nat),V.heap[g]? =some (supO S 118)->V.rangeAt g 6 (iC (S.drop 6))):=Lib.hid fun V g hr=>range_row (cur:=S.map (Value.int .i64)) hr (by
  rw[iC_length,hd6,List.take_of_length_le (by rw[List.length_drop,List.length_map,h12];decide),iC,List.map_drop])
 have H14:Hid (∀ t,Len14 (inT N t)):=Lib.hid fun t=>inT_14 hT.n.l14 t
 have H8:Hid (∀ t,t<6->(inT N t).length=8):=Lib.hid fun t ht=>inT_length hT.n.len ht
 have u6:=Tryz.underlying116
 have u1:=Tryz.underlying47
 have HD6:=Lib.hid hd6
 clear h hf hT hb hA6 hd6
 go_enter Tryz.func47,Tryz.ntmps47
 go_wp2_with (first
  |(go_at_call 63;refine KS.out.mono ?_;rintro e w2 ⟨rfl,hb2⟩)
  |(with_reducible refine wpList_storeS rfl (.tmp 4) (.tmp 16) rfl w2.heap.size rfl S zeroS rfl h12 rfl _ (heap_alloc_new w2 _) ?_
    intro w3 hw3 hr3
    have hb3:=hb2.trans ((below_box w2 (supO zeroS 118)).mono hb2.size)
    have hb13:Below W.heap.size W w3:=hb3.trans (hw3.below (Nat.le_trans hb2.size (Nat.le_refl _)))
    have hrg3:=HRG.out _ _ hr3)
  |(with_reducible refine wpList_load_nums rfl 116 (.tmp 21) rfl w2.heap.size 6 rfl (S.drop 6) _ hrg3 u6 rfl (by rw[infoA6,HD6.out]) ?_;rw[HA6.out]))
 have HB3:=Lib.hid hb13
 clear hb2 hw3 hr3 hb3 hrg3 hb13
 go_loopw [6,23] (fun ino i wr=>∃ t:Nat,t<=6/\i=.int .i64 t/\ino=.int .i64 ((8*t:Nat):Int)/\Hid (∀ m,1<=m->m<8*t->kindN N m≠0)/\Hid (Below W.heap.size W wr)) (fun _ i _=>6-(intOf i).toNat)
 case atStart=>exact ⟨0,by omega,rfl,rfl,Lib.hid fun m h1 h2=>absurd h2 (Nat.not_lt_zero _),HB3⟩
 case round=>
  obtain ⟨t,ht,rfl,rfl,HS,HB⟩:=hrel
  clear HB3
  by_cases hlt:t<6
  · have hix:=HIX.out wr t hlt
    have elt:(t:Int)<6:=by omega
    have KI1:=Lib.hid (KI.out t hlt wr (HBW.out.trans (HB.out.mono HBW.out.size)))
    have h14:=Lib.hid (H14.out t)
    have h8:=Lib.hid (H8.out t hlt)
    have HE:Hid (∀ j,j<8->((inT N t).getD j []).getD 0 0=kindN N (8*t+j)):=Lib.hid fun j hj=>by unfold kindN;rw[inT_getD N t hj]
    obtain ⟨T,hTT⟩:∃ T,T=inT N t:=⟨_,rfl⟩
    rw[<- hTT] at KI1 h14 h8 HE
    obtain ⟨A,hA⟩:∃ A,A=tabAt S t:=⟨_,rfl⟩
    rw[<- hA] at KI1 hix
    clear hTT hA
    obtain ⟨M8,hM8⟩:∃ M8:Nat,M8=8:=⟨_,rfl⟩
    have HM8:=Lib.hid hM8
    go_wp2_with (go_at_call 64;refine KI1.out.mono ?_;rintro e w4 ⟨g,rfl,hg4,hr4,hb4⟩)
    have HR4:Hid (w4.heap[g]? =some (.cells (T.flatMap iC).toArray 47 (0,0))):=Lib.hid hr4
    have HB4:=Lib.hid (HB.out.trans (hb4.mono HB.out.size))
    clear hix hr4 hb4 hg4 hM8
    go_loopw [6,37] (fun ino i wr=>∃ j:Nat,j<=8/\i=.int .i64 j/\ino=.int .i64 ((8*t+j:Nat):Int)/\Hid (∀ m,1<=m->m<8*t+j->kindN N m≠0)/\Hid (Below w4.heap.size w4 wr)) (fun _ i _=>8-(intOf i).toNat)
    case atStart=>exact ⟨0,by omega,rfl,rfl,HS,Lib.hid (Below.refl _ _)⟩
    case round=>
     obtain ⟨j,hj,rfl,rfl,HS2,HB2⟩:=hrel
     by_cases hlj:j<8
     · have elj:(j:Int)<8:=by omega
       have hr:=below_hold HR4.out HB2.out
       obtain ⟨x,hx⟩:∃ x,x=T.getD j []:=⟨_,rfl⟩
       have hrg:wr.rangeAt g (j*14) (iC x):=by
        have hjl:j<T.length:=by rw[h8.out];exact hlj
        have:=flat_range (f:=iC) (s:=14) (k:=j) hr (fun y hy=>by rw[iC_length];exact h14.out y hy) hjl
        rw[hx,List.getD_eq_getElem?_getD,List.getElem?_eq_getElem hjl]
        exact this
       have hx14:x.length=14:=by rw[hx];exact len14_get h14.out j (by rw[h8.out];exact hlj)
       have HX14:=Lib.hid hx14
       have hkd:=HE.out j hlj
       rw[<- hx] at hkd
       obtain ⟨kd,hkk⟩:∃ kd,kd=kindN N (8*t+j):=⟨_,rfl⟩
       rw[<- hkk] at hkd
       have HKD:=Lib.hid hkd
       have HKK:=Lib.hid hkk
       obtain ⟨i,hi⟩:∃ i:Nat,i=8*t+j:=⟨_,rfl⟩
       have hi48:i<48:=by omega
       have HI:=Lib.hid hi
       rw[<- hi] at HKK HS2 |-
       clear hx hr hkd hkk hi hx14
       by_cases h0:i=0
       · subst h0
         go_wp2_with (first
          |(with_reducible refine wpList_load_nums rfl 47 (.tmp 39) rfl g (j*14) rfl x _ hrg u1 rfl (by rw[sizeIn,HX14.out]) ?_)
          |(with_reducible refine wpList_storeI rfl (.tmp 12) (.tmp 40) rfl wr.heap.size rfl x zeroI rfl HX14.out rfl _ (heap_alloc_new wr _) ?_
            intro w5 hw5 hr5
            have hb5:=HB2.out.trans (((below_box wr (iO zeroI 47)).trans (hw5.below (Nat.le_refl _))).mono HB2.out.size)))
         go_roundw
         case rel=>exact ⟨j+1,by omega,by go_num,by have:=HI.out;rw[show 8*t+(j+1)=0+1 by omega];go_num,Lib.hid fun m h1 h2=>by have:=HI.out;omega,Lib.hid hb5⟩
         case measure=>simp[intOf];omega
       · have ei:(0:Int)<(i:Int):=by omega
         rcases hkb:(kd==0) with _|_
         · go_wp2_with (first
            |(with_reducible refine wpList_load_nums rfl 47 (.tmp 39) rfl g (j*14) rfl x _ hrg u1 rfl (by rw[sizeIn,HX14.out]) ?_)
            |(with_reducible refine wpList_storeI rfl (.tmp 12) (.tmp 40) rfl wr.heap.size rfl x zeroI rfl HX14.out rfl _ (heap_alloc_new wr _) ?_
              intro w5 hw5 hr5
              have hb5:=HB2.out.trans (((below_box wr (iO zeroI 47)).trans (hw5.below (Nat.le_refl _))).mono HB2.out.size)
              have c0:=io_cell hr5 0 (by rw[HX14.out];decide)
              rw[HKD.out] at c0))
           go_roundw
           case rel=>exact ⟨j+1,by omega,by go_num,by have:=HI.out;rw[show 8*t+(j+1)=i+1 by omega];go_num,Lib.hid fun m h1 h2=>by
            by_cases e:m=i
            · rw[e,<- HKK.out];simpa using hkb
            · exact HS2.out m h1 (by have:=HI.out;omega),Lib.hid hb5⟩
           case measure=>simp[intOf];omega
         · go_wp2_with (first
            |(with_reducible refine wpList_load_nums rfl 47 (.tmp 39) rfl g (j*14) rfl x _ hrg u1 rfl (by rw[sizeIn,HX14.out]) ?_)
            |(with_reducible refine wpList_storeI rfl (.tmp 12) (.tmp 40) rfl wr.heap.size rfl x zeroI rfl HX14.out rfl _ (heap_alloc_new wr _) ?_
              intro w5 hw5 hr5
              have hb5:=HB2.out.trans (((below_box wr (iO zeroI 47)).trans (hw5.below (Nat.le_refl _))).mono HB2.out.size)
              have c0:=io_cell hr5 0 (by rw[HX14.out];decide)
              rw[HKD.out] at c0))
           go_ret2
           refine ⟨.inl ⟨i,⟨by omega,hi48,by rw[<- HKK.out];simpa using hkb,HS2.out⟩,rfl⟩,HB4.out.trans (hb5.mono HB4.out.size)⟩
     · obtain rfl:j=8:=by omega
       have HB5:=Lib.hid (HB4.out.trans (HB2.out.mono HB4.out.size))
       go_wp2
       go_roundw
       case rel=>exact ⟨t+1,by omega,by go_num,rfl,HS2,HB5⟩
       case measure=>simp[intOf];omega
  · obtain rfl:t=6:=by omega
    go_wp2
    go_ret2
    exact ⟨.inr ⟨HS.out,rfl⟩,HB.out⟩
end
end Go.Proofs.YtedabomlfcghoaaGreat
namespace Go.Proofs.YtedabomlfcghoaaGreat
set_option maxRecDepth 100000
open Go.RowKit
theorem sLimit_of {L:List Int} (hL:L.length=12) (hT:Top L) (w:World):
 Calls Tryz.prog 190 #[supV L] w fun e w'=>e=.returned (.int .i64 (limS L))/\Below w.heap.size w w':=by
 have h0:frmS L=false\/frmS L=true:=by cases frmS L <;> simp
 have KF:∀ B,frmS L=B->_:=fun B h=>sFormed_is hL hT B h
 have hr:limS L=if frmS L=true then (if num L 1=2 then num L 2 else num L 0) else 0:=rfl
 have hob:=below_box w (supO L 118)
 have hh:=heap_alloc_new w (supO L 118)
 obtain ⟨W1,hW1⟩:∃ W1,W1=w.alloc (supO L 118):=⟨_,rfl⟩
 rw[<- hW1] at hob hh
 match L,hL with
 |[b,st,tg,cu,io,ba,t0,t1,t2,t3,t4,t5],_=>
  have hW2:w.alloc (.cells #[.int .i64 b,.int .i64 st,.int .i64 tg,.int .i64 cu,.int .i64 io,.int .i64 ba,.int .i64 t0,.int .i64 t1,.int .i64 t2,.int .i64 t3,.int .i64 t4,.int .i64 t5] 118)=W1:=by rw[hW1];rfl
  have H2:=Lib.hid hW2
  have HH:=Lib.hid hh
  change limS [b,st,tg,cu,io,ba,t0,t1,t2,t3,t4,t5]=if frmS [b,st,tg,cu,io,ba,t0,t1,t2,t3,t4,t5]=true then (if st=2 then tg else b) else 0 at hr
  show Calls Tryz.prog 190 #[.agg #[.int .i64 b,.int .i64 st,.int .i64 tg,.int .i64 cu,.int .i64 io,.int .i64 ba,.int .i64 t0,.int .i64 t1,.int .i64 t2,.int .i64 t3,.int .i64 t4,.int .i64 t5]] w fun e w'=>e=.returned (.int .i64 (limS _))/\Below w.heap.size w w'
  rw[hr]
  rcases h0 with h0|h0
  · rw[h0]
    have K0:Hid (∀ w,Calls Tryz.prog 188 #[.agg #[.int .i64 b,.int .i64 st,.int .i64 tg,.int .i64 cu,.int .i64 io,.int .i64 ba,.int .i64 t0,.int .i64 t1,.int .i64 t2,.int .i64 t3,.int .i64 t4,.int .i64 t5]] w fun e w'=>e=.returned (.bool false)/\Below w.heap.size w w'):=Lib.hid (KF _ h0)
    clear KF hr h0 hW1 hW2 hT hh
    go_enter Tryz.func190,Tryz.ntmps190
    go_wp2_with (first|(go_at_call 188;rw[H2.out];refine (K0.out _).mono ?_;rintro e w2 ⟨rfl,hb2⟩))
    go_ret
    exact ⟨rfl,hob.trans (hb2.mono hob.size)⟩
  · rw[h0]
    have K0:Hid (∀ w,Calls Tryz.prog 188 #[.agg #[.int .i64 b,.int .i64 st,.int .i64 tg,.int .i64 cu,.int .i64 io,.int .i64 ba,.int .i64 t0,.int .i64 t1,.int .i64 t2,.int .i64 t3,.int .i64 t4,.int .i64 t5]] w fun e w'=>e=.returned (.bool true)/\Below w.heap.size w w'):=Lib.hid (KF _ h0)
    clear KF hr h0 hW1 hW2 hT hh
    by_cases h2:st=2
    · rw[if_pos rfl,if_pos h2]
      have h2':(st==2)=true:=by simp[h2]
      clear h2
      go_enter Tryz.func190,Tryz.ntmps190
      go_wp2_with (first|(go_at_call 188;rw[H2.out];refine (K0.out _).mono ?_;rintro e w2 ⟨rfl,hb2⟩;have hc:=sup_cells ((hb2.block _ (Array.getElem?_eq_some_iff.1 HH.out).1).trans HH.out)))
      go_ret
      exact ⟨rfl,hob.trans (hb2.mono hob.size)⟩
    · rw[if_pos rfl,if_neg h2]
      have h2':(st==2)=false:=by simp[h2]
      clear h2
      go_enter Tryz.func190,Tryz.ntmps190
      go_wp2_with (first|(go_at_call 188;rw[H2.out];refine (K0.out _).mono ?_;rintro e w2 ⟨rfl,hb2⟩;have hc:=sup_cells ((hb2.block _ (Array.getElem?_eq_some_iff.1 HH.out).1).trans HH.out)))
      go_ret
      exact ⟨rfl,hob.trans (hb2.mono hob.size)⟩
end Go.Proofs.YtedabomlfcghoaaGreat
namespace Go.Proofs.YtedabomlfcghoaaGreat
set_option maxRecDepth 100000
open Go.RowKit BM
def kindI (k:Int):List Int:=[k,0,0,0,0,0,0,0,0,0,0,0,0,0]
theorem kindI_frm {k:Int} (h:1<=k/\k<=3):frmI (kindI k)=true:=by
 have:k=1\/k=2\/k=3:=by omega
 rcases this with rfl|rfl|rfl <;> decide
theorem fsGive_any {W:World}{bf:Nat}{p:Value}{n:Int}{R:Int->World->Prop} (hf:FsAt W bf p) (hK:Calls Tryz.prog 157 #[p,.int .i64 n] W fun e w'=>∃ E:Int,e=.returned (.int .i64 E)/\R E w'):
 Calls Tryz.prog 118 #[.pointer (some ⟨bf,0,none⟩),.int .i64 n] W fun e w'=>∃ E:Int,e=.returned (.int .i64 E)/\R E w':=by
 have KB:=Lib.hid (fsBlocks_of hf)
 have KG:=Lib.hid hK
 clear hf hK
 go_enter Tryz.func118,Tryz.ntmps118
 go_wp2_with (first
  |(go_at_call 92;refine KB.out.mono ?_;rintro e w' ⟨rfl,rfl⟩)
  |(go_at_call 157;refine KG.out.mono ?_;rintro e w2 ⟨E,rfl,hr⟩))
 go_ret
 exact ⟨E,rfl,hr⟩
section
variable {w:World}{P:Nat->Prop}{d p:Value}{X:XSt}{S:List Int}{N:List (List Int)}{bf:Nat}
theorem fsMake_full (h:SInv w P d p X) (hf:FsAt w bf p) (hT:Tab X.cur S N) (hN:FullN N) {k:Int} (hk:1<=k/\k<=3) {W:World} (hb:Below w.heap.size w W):
 Calls Tryz.prog 24 #[.pointer (some ⟨bf,0,none⟩),.int .i64 k] W fun e w'=>e=.returned (.tuple #[.int .i64 0,.int .i64 13])/\Below W.heap.size W w':=by
 have KF:=Lib.hid ((fsFree_any h hf hT hb).mono fun e w' ⟨ho,hb⟩=>show e=Ending.returned (.tuple #[.int .i64 0,.int .i64 13])/\Below W.heap.size W w' from ⟨ho.elim (fun ⟨f,h1,_⟩=>absurd h1.2.2.1 (hN f h1.1 h1.2.1)) fun h2=>h2.2,hb⟩)
 clear h hf hT hN hb
 have:k=1\/k=2\/k=3:=by omega
 rcases this with rfl|rfl|rfl
 all_goals
  clear hk
  go_enter Tryz.func24,Tryz.ntmps24
  go_wp2_with (go_at_call 47;refine KF.out.mono ?_;rintro e w2 ⟨rfl,hb2⟩)
  go_ret2
  exact ⟨rfl,hb2⟩
theorem fsMake_yes (h:SInv w P d p X) (hw:X.wi=true) (hp:X.put.length<37) (hf:FsAt w bf p) (hT:Tab X.call S N) {f:Nat} (hN:FreeAt N f) {k:Int} (hk:1<=k/\k<=3) {W:World} (hb:Below w.heap.size w W):
 Calls Tryz.prog 24 #[.pointer (some ⟨bf,0,none⟩),.int .i64 k] W fun e w'=>e=.returned (.tuple #[.int .i64 (f:Nat),.int .i64 0])/\∃ P',SInv w' P' d p (putI X S N f (kindI k))/\Chg P P' W w':=by
 have hT':Tab X.cur S N:=by unfold XSt.cur;rw[if_pos hw];exact hT
 have KF:=Lib.hid ((fsFree_any h hf hT' hb).mono fun e w' ⟨ho,hb⟩=>show e=Ending.returned (.tuple #[.int .i64 (f:Nat),.int .i64 0])/\Below W.heap.size W w' from ⟨ho.elim (fun ⟨g,h1,h2⟩=>by rw[h2,h1.one hN]) fun h2=>absurd hN.2.2.1 (h2.1 f hN.1 hN.2.1),hb⟩)
 obtain ⟨X',hX'⟩:∃ X',X'=putI X S N f (kindI k):=⟨_,rfl⟩
 have KP:Hid (∀ V:World,Below w.heap.size w V->Calls Tryz.prog 48 #[.pointer (some ⟨bf,0,none⟩),.int .i64 (f:Nat),.agg #[.int .i64 k,.int .i64 0,.int .i64 0,.int .i64 0,.int .i64 0,.int .i64 0,.int .i64 0,.int .i64 0,.int .i64 0,.int .i64 0,.int .i64 0,.int .i64 0,.int .i64 0,.int .i64 0]] V fun e w'=>e=.returned (.int .i64 0)/\∃ P',SInv w' P' d p X'/\Chg P P' V w'):=Lib.hid fun V hv=>by
  rw[hX'];exact fsPut_yes h hw hp hf hT hN.1 hN.2.1 (x:=kindI k) rfl (kindI_frm hk) hv
 rw[<- hX']
 have HB:=Lib.hid hb
 clear h hf hT hT' hN hb hw hp hX'
 have:k=1\/k=2\/k=3:=by omega
 rcases this with rfl|rfl|rfl
 all_goals
  clear hk
  go_enter Tryz.func24,Tryz.ntmps24
  go_wp2_with (first
   |(go_at_call 47;refine KF.out.mono ?_;rintro e w2 ⟨rfl,hb2⟩)
   |(go_at_call 48;refine (KP.out _ (HB.out.trans (hb2.mono HB.out.size))).mono ?_;rintro e w3 ⟨rfl,P3,hi3,hc3⟩))
  go_ret2
  exact ⟨rfl,P3,hi3,(Chg.of_below hb2).trans hc3⟩
theorem list12_ex {L:List Int} (h:L.length=12):∃ b  st  tg  cu  io  ba  t0  t1  t2  t3  t4  t5:Int,L=[b,st,tg,cu,io,ba,t0,t1,t2,t3,t4,t5]:=by
 match L,h with
 |[b,st,tg,cu,io,ba,t0,t1,t2,t3,t4,t5],_=>exact ⟨b,st,tg,cu,io,ba,t0,t1,t2,t3,t4,t5,rfl⟩
set_option maxHeartbeats 4000000 in
theorem fsTake_any (h:SInv w P d p X) (hf:FsAt w bf p) (hT:Tab X.cur S N) (hTop:Top S) {goal i j:Int}{W:World} (hb:Below w.heap.size w W) {R:Int->Int->World->World->Prop}
 (hR:∀ x E V w' b,W.heap.size<=b->b<V.heap.size->R x E V w'->w'.heap[b]? =V.heap[b]?)
 (hK:∀ V,Below W.heap.size W V->Calls Tryz.prog 189 #[p,.int .i64 (num S 0),.int .i64 (limS S),.int .i64 goal,.agg #[.int .u16 i,.int .u16 j]] V fun e w'=>∃ x E:Int,e=.returned (.tuple #[.int .i64 x,.int .i64 E])/\R x E V w'):
 Calls Tryz.prog 154 #[.pointer (some ⟨bf,0,none⟩),.int .i64 goal,.agg #[.int .u16 i,.int .u16 j]] W fun e w'=>∃ (x E:Int) (V:World),e=.returned (.tuple #[.int .i64 x,.int .i64 E])/\Below W.heap.size W V/\R x E V w':=by
 obtain ⟨o,ho⟩:∃ o,o=W.heap.size:=⟨_,rfl⟩
 have hb1:=below_box W (.cells #[.int .u16 i,.int .u16 j] 109)
 have hr1:=heap_alloc_new W (.cells #[.int .u16 i,.int .u16 j] 109)
 obtain ⟨w1,hw1⟩:∃ w1,w1=W.alloc (.cells #[.int .u16 i,.int .u16 j] 109):=⟨_,rfl⟩
 rw[<- hw1] at hb1 hr1
 have H1:=Lib.hid hw1.symm
 have hb01:=hb.trans (hb1.mono hb.size)
 have KS:=Lib.hid (fsSuper_of h hf hT hb01)
 have KB:=Lib.hid (fun (V:World) (hv:Below w.heap.size w V)=>fsBlocks_of (hf.low hv))
 have KL:=Lib.hid (sLimit_of hT.s12 hTop)
 have h12:=hT.s12
 have HBW:=Lib.hid hb01
 have HRR:=Lib.hid hR
 clear h hf hT hTop hb hb01 hw1
 obtain ⟨b,st,tg,cu,io,ba,t0,t1,t2,t3,t4,t5,rfl⟩:=list12_ex h12
 obtain ⟨l,hll⟩:∃ l,l=limS [b,st,tg,cu,io,ba,t0,t1,t2,t3,t4,t5]:=⟨_,rfl⟩
 rw[<- hll] at hK KL
 have KT:Hid (∀ V,Below W.heap.size W V->Calls Tryz.prog 189 #[p,.int .i64 b,.int .i64 l,.int .i64 goal,.agg #[.int .u16 i,.int .u16 j]] V fun e w'=>∃ x E:Int,e=.returned (.tuple #[.int .i64 x,.int .i64 E])/\R x E V w'):=Lib.hid hK
 clear hll hK hR
 have KL2:Hid (∀ V:World,Calls Tryz.prog 190 #[.agg #[.int .i64 b,.int .i64 st,.int .i64 tg,.int .i64 cu,.int .i64 io,.int .i64 ba,.int .i64 t0,.int .i64 t1,.int .i64 t2,.int .i64 t3,.int .i64 t4,.int .i64 t5]] V fun e w'=>e=.returned (.int .i64 l)/\Below V.heap.size V w'):=KL
 have KS2:Hid (Calls Tryz.prog 63 #[.pointer (some ⟨bf,0,none⟩)] w1 fun e w'=>e=Ending.returned (.tuple #[.agg #[.int .i64 b,.int .i64 st,.int .i64 tg,.int .i64 cu,.int .i64 io,.int .i64 ba,.int .i64 t0,.int .i64 t1,.int .i64 t2,.int .i64 t3,.int .i64 t4,.int .i64 t5],.int .i64 0])/\Below w1.heap.size w1 w'):=KS
 go_enter Tryz.func154,Tryz.ntmps154
 go_upto_region 4 with (go_at_call 63;rw[H1.out];refine KS2.out.mono ?_;rintro e w2 ⟨rfl,hb2⟩)
 have hb23:=below_box w2 (supO [b,st,tg,cu,io,ba,t0,t1,t2,t3,t4,t5] 118)
 have hr3:=heap_alloc_new w2 (supO [b,st,tg,cu,io,ba,t0,t1,t2,t3,t4,t5] 118)
 obtain ⟨w3,hw3⟩:∃ w3,w3=w2.alloc (supO [b,st,tg,cu,io,ba,t0,t1,t2,t3,t4,t5] 118):=⟨_,rfl⟩
 rw[<- hw3] at hb23 hr3
 rw[show w2.alloc (.cells #[.int .i64 b,.int .i64 st,.int .i64 tg,.int .i64 cu,.int .i64 io,.int .i64 ba,.int .i64 t0,.int .i64 t1,.int .i64 t2,.int .i64 t3,.int .i64 t4,.int .i64 t5] 118)=w3 from hw3.symm,<- ho]
 have hq0:=Nat.le_trans hb1.size hb2.size
 obtain ⟨q,hq⟩:∃ q,q=w2.heap.size:=⟨_,rfl⟩
 rw[<- hq] at hr3 hq0 |-
 have hb13:=hb2.trans (hb23.mono hb2.size)
 have hqo:W.heap.size<=q/\q<w3.heap.size:=⟨hq0,(Array.getElem?_eq_some_iff.1 hr3).1⟩
 have hol:W.heap.size<w3.heap.size:=Nat.lt_of_le_of_lt hqo.1 hqo.2
 have HFACT:Hid (∀ V:World,V.heap[q]? =w3.heap[q]? ->V.heap[o]? =w3.heap[o]? ->((V.cell? ⟨q,0,none⟩=some (.int .i64 b)/\V.cell? ⟨q,1,none⟩=some (.int .i64 st)/\V.cell? ⟨q,2,none⟩=some (.int .i64 tg)/\V.cell? ⟨q,3,none⟩=some (.int .i64 cu))/\(V.cell? ⟨q,4,none⟩=some (.int .i64 io)/\V.cell? ⟨q,5,none⟩=some (.int .i64 ba)/\V.cell? ⟨q,6,none⟩=some (.int .i64 t0)/\V.cell? ⟨q,7,none⟩=some (.int .i64 t1))/\V.cell? ⟨q,8,none⟩=some (.int .i64 t2)/\V.cell? ⟨q,9,none⟩=some (.int .i64 t3)/\V.cell? ⟨q,10,none⟩=some (.int .i64 t4)/\V.cell? ⟨q,11,none⟩=some (.int .i64 t5))/\V.cell? ⟨o,0,none⟩=some (.int .u16 i)/\V.cell? ⟨o,1,none⟩=some (.int .u16 j)):=Lib.hid fun V e1 e2=>by
  have ho3:V.heap[o]? =some (.cells #[.int .u16 i,.int .u16 j] 109 (0,0)):=by rw[e2,ho,hb13.block _ (Array.getElem?_eq_some_iff.1 hr1).1];exact hr1
  exact ⟨sup_cells (e1.trans hr3),cell_of_row _ _ _ _ _ _ ho3,cell_of_row _ _ _ _ _ _ ho3⟩
 have HQ:Hid (W.heap.size<=q/\q<w3.heap.size/\o=W.heap.size/\o<w3.heap.size):=Lib.hid ⟨hqo.1,hqo.2,ho,by rw[ho];exact hol⟩
 have HW3:Hid (Below W.heap.size W w3):=Lib.hid (hb1.trans (hb13.mono hb1.size))
 have HB3:Hid (Below w.heap.size w w3):=Lib.hid (HBW.out.trans (hb13.mono HBW.out.size))
 have STEP:Hid (∀ V V':World,Below w3.heap.size w3 V->Below V.heap.size V V'->Below w3.heap.size w3 V'/\((V'.cell? ⟨q,0,none⟩=some (.int .i64 b)/\V'.cell? ⟨q,1,none⟩=some (.int .i64 st)/\V'.cell? ⟨q,2,none⟩=some (.int .i64 tg)/\V'.cell? ⟨q,3,none⟩=some (.int .i64 cu))/\(V'.cell? ⟨q,4,none⟩=some (.int .i64 io)/\V'.cell? ⟨q,5,none⟩=some (.int .i64 ba)/\V'.cell? ⟨q,6,none⟩=some (.int .i64 t0)/\V'.cell? ⟨q,7,none⟩=some (.int .i64 t1))/\V'.cell? ⟨q,8,none⟩=some (.int .i64 t2)/\V'.cell? ⟨q,9,none⟩=some (.int .i64 t3)/\V'.cell? ⟨q,10,none⟩=some (.int .i64 t4)/\V'.cell? ⟨q,11,none⟩=some (.int .i64 t5))/\V'.cell? ⟨o,0,none⟩=some (.int .u16 i)/\V'.cell? ⟨o,1,none⟩=some (.int .u16 j)):=Lib.hid fun V V' h1 h2=>by
  have h3:=h1.trans (h2.mono h1.size)
  exact ⟨h3,HFACT.out _ (h3.block _ HQ.out.2.1) (h3.block _ HQ.out.2.2.2)⟩
 have hd0:Below w3.heap.size w3 w3.drew:=(Below.refl _ _).drew
 have s0:=(STEP.out _ _ (Below.refl _ _) hd0).2
 clear hr1 hb2 hb23 hr3 hw3 hb13 hqo hol hq0 hq ho KL KS KS2 hb1
 go_region_held3 (fun V=>((V.cell? ⟨q,0,none⟩=some (.int .i64 b)/\V.cell? ⟨q,1,none⟩=some (.int .i64 st)/\V.cell? ⟨q,2,none⟩=some (.int .i64 tg)/\V.cell? ⟨q,3,none⟩=some (.int .i64 cu))/\(V.cell? ⟨q,4,none⟩=some (.int .i64 io)/\V.cell? ⟨q,5,none⟩=some (.int .i64 ba)/\V.cell? ⟨q,6,none⟩=some (.int .i64 t0)/\V.cell? ⟨q,7,none⟩=some (.int .i64 t1))/\V.cell? ⟨q,8,none⟩=some (.int .i64 t2)/\V.cell? ⟨q,9,none⟩=some (.int .i64 t3)/\V.cell? ⟨q,10,none⟩=some (.int .i64 t4)/\V.cell? ⟨q,11,none⟩=some (.int .i64 t5))/\V.cell? ⟨o,0,none⟩=some (.int .u16 i)/\V.cell? ⟨o,1,none⟩=some (.int .u16 j)) (first|exact s0|exact s5|exact s8) (first
  |(go_at_call 92;(with_reducible refine (KB.out _ (HB3.out.trans (hd0.mono HB3.out.size))).mono ?_);rintro e w' ⟨rfl,rfl⟩)
  |(go_at_call 190;refine (KL2.out _).mono ?_;rintro e w5 ⟨rfl,hu5⟩;obtain ⟨hb5,s5⟩:=STEP.out _ _ hd0 hu5;clear hu5)
  |(go_at_call 92;(with_reducible refine (KB.out _ (HB3.out.trans (hb5.mono HB3.out.size))).mono ?_);rintro e w' ⟨rfl,rfl⟩)
  |(go_at_call 189;(with_reducible refine (KT.out _ (HW3.out.trans (hb5.mono HW3.out.size))).mono ?_);rintro e w8 ⟨x,E,rfl,hr8⟩
    have s8:=HFACT.out w8 ((HRR.out _ _ _ _ _ HQ.out.1 (Nat.lt_of_lt_of_le HQ.out.2.1 hb5.size) hr8).trans (hb5.block _ HQ.out.2.1)) ((HRR.out _ _ _ _ _ (Nat.le_of_eq HQ.out.2.2.1.symm) (Nat.lt_of_lt_of_le HQ.out.2.2.2 hb5.size) hr8).trans (hb5.block _ HQ.out.2.2.2))))
 all_goals (go_wp2_with fail;go_ret2;exact ⟨x,E,w5,rfl,HW3.out.trans (hb5.mono HW3.out.size),hr8⟩)
end
end Go.Proofs.YtedabomlfcghoaaGreat
