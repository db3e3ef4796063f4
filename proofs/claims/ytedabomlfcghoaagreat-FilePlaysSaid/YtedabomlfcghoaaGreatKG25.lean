/- What the law rests on: part 25. -/
import Derived.Test.YtedabomlfcghoaaGreatKG24
set_option linter.unusedVariables false
namespace Go.Proofs.YtedabomlfcghoaaGreat
set_option maxRecDepth 100000
open Go.RowKit BM
section
variable {w:World}{P:Nat->Prop}{d p:Value}{X:XSt}{S:List Int}{N:List (List Int)}{O:List (Int × Int)}{kk:Nat}{F:Nat->List Int}{bf n sz:Nat}{M:Nat->Option (List Int)}{Q:List Int}
def WrK(w3:World)(P:Nat->Prop)(d p:Value)(X:XSt)(S:List Int)(N:List (List Int))(O:List (Int × Int))(kk:Nat)(F:Nat->List Int)(bf n sz:Nat)(M:Nat->Option (List Int))(Q:List Int)(a C:Nat)(l:List Int)(k:Nat)(wr:World):Prop:=
 FlO w3 P d p X S N O kk F bf n Q sz (wrL M a (l.take (dnS a C k))) (2*k) noR wr
theorem fits_last{O1:List (Int × Int)}{M1 M2 M3:Nat->Option (List Int)}(hc:cntU O1 (64*kk)+Zar M=cntU O (64*kk)+Zar M1)(hm:Zar M2<=Zar M3)(hn:¬ Zgn O1 kk M1 M2):¬ Zgn O kk M M3:=by
 unfold Zgn at hn |-
 omega
theorem WrK.step{w3 wr V:World}{a C k:Nat}{l:List Int}(h3:Flt w3 P d p X S N O kk F bf n sz M Q)(h:WrK w3 P d p X S N O kk F bf n sz M Q a C l k wr)(h1:1<=n)(h48:n<48)(hV:Below wr.heap.size wr V)(hk:k<spN a C)(hQ:Q.length+2*spN a C<=34)(hC:C<=l.length)(hx:a+C<=35328)
 (hby:Byt l) {u:Value} (hu:BSl w3 u ((l.drop (dnS a C k)).take (C-dnS a C k))) (hap:Apt P u):
 (Calls Tryz.prog 38 #[.pointer (some ⟨bf,0,none⟩),.int .i64 n,.agg #[.int .i64 ((a / 256+k:Nat):Int),.int .i64 (((a+dnS a C k)%256:Nat):Int),.int .i64 (((a+dnS a C k)%256+(dnS a C (k+1)-dnS a C k):Nat):Int)],u] V fun e w'=>e=.returned (.int .i64 0)/\WrK w3 P d p X S N O kk F bf n sz M Q a C l (k+1) w'/\∀ b,wr.heap.size<=b->b<V.heap.size->w'.heap[b]? =V.heap[b]?)\/
 (Calls Tryz.prog 38 #[.pointer (some ⟨bf,0,none⟩),.int .i64 n,.agg #[.int .i64 ((a / 256+k:Nat):Int),.int .i64 (((a+dnS a C k)%256:Nat):Int),.int .i64 (((a+dnS a C k)%256+(dnS a C (k+1)-dnS a C k):Nat):Int)],u] V fun e w'=>e=.returned (.int .i64 13)/\¬ Zgn O kk M (wrL M a (l.take C))/\FlE w3 P d p X S kk bf w'):=by
 obtain⟨P1,X1,N1,O1,F1,Q1,a1',b1,c1,d1,f1',_⟩:=h;have hlt1:=a1'.md.inv.lt;have a1:=a1'.low hV;have f1:=f1'.trans (Chg.of_below (P:=P1) hV);obtain⟨s1,s2,s3,s4⟩:=Zkl hk;have hle:=dnS_le a C (k+1);have hlt:=hu.chg hap f1;obtain⟨D,hD⟩:∃ D,D=dnS a C k:=⟨_,rfl⟩;obtain⟨E,hE⟩:∃ E,E=dnS a C (k+1):=⟨_,rfl⟩;rw[<- hD] at s1 s2 s3 s4 a1 hu hlt |-
 rw[<- hE] at s2 s3 hle |-
 unfold WrK;rw[<- hE];have hlen:((l.drop D).take (C-D)).length=C-D:=by rw[List.length_take,List.length_drop];omega
 have htk:((l.drop D).take (C-D)).take (E-D)=(l.drop D).take (E-D):=by rw[List.take_take,Nat.min_eq_left (by omega)]
 have hl1:(l.take D).length=D:=by rw[List.length_take];omega
 have hM:updB (wrL M a (l.take D)) (a / 256+k) (splice (bkB (wrL M a (l.take D)) (a / 256+k)) ((a+D)%256) ((l.drop D).take (E-D)))=wrL M a (l.take E):=by
  have e1:l.take E=l.take D ++ (l.drop D).take (E-D):=by
   rw[show E=D+(E-D) by omega,List.take_add,show D+(E-D)-D=E-D by omega]
  have e2:((l.drop D).take (E-D)).length=E-D:=by rw[List.length_take,List.length_drop];omega
  rw[e1,Zih,hl1,wrL_block _ _ (a+D) (a / 256+k) ((a+D)%256) (by omega) (by omega) (by omega) a1.ft.ok (Zbs (Zkr hby D) _)]
 by_cases hf:Zgn O1 kk (wrL M a (l.take D)) (updB (wrL M a (l.take D)) (a / 256+k) z256)
 . refine .inl ((flWriteSpan_ok a1 h1 h48 (by omega) (i:=a / 256+k) (o:=(a+D)%256) (m:=E-D) (by omega) (by omega) (by omega) hlt.1 hlt.2 (by rw[hlen];omega) hf).mono ?_)
   rintro e w' ⟨he,ho⟩;rw[htk,hM] at ho;obtain⟨P',X',N',O',F',Q',a2,b2,c2,d2,f2,g2⟩:=ho;exact⟨he,⟨P',X',N',O',F',Q',a2,b1.trans b2,fun x hx=>c2 x (c1 x hx),by omega,f1.trans f2,g2⟩,fun b hb1 hb2=>(f2.keep b hb2 fun hp=>by have:=hlt1 b hp;omega).1⟩
 . refine .inr ((flWriteSpan_no a1 h1 h48 (by omega) (i:=a / 256+k) (by omega) hf).mono ?_)
   rintro e w' ⟨he,P',X',N',O',F',hm,hon,hg⟩;refine⟨he,fits_last (h3.cnt a1.ft b1) ?_ hf,P',X',N',O',F',hm,b1.on.trans hon,f1.trans hg⟩;rw[usedB_upd _ _ z256 (splice (bkB (wrL M a (l.take D)) (a / 256+k)) ((a+D)%256) ((l.drop D).take (E-D))),hM];have e3:l.take C=l.take E ++ (l.drop E).take (C-E):=by
    rw[show C=E+(C-E) by omega,List.take_add,show E+(C-E)-E=C-E by omega]
   rw[e3,Zih];exact Zft fun i _ h=>some_wrL _ _ _ i h
def WrO(w:World)(P:Nat->Prop)(d p:Value)(X:XSt)(S:List Int)(N:List (List Int))(O:List (Int × Int))(kk:Nat)(F:Nat->List Int)(bf n sz:Nat)(M:Nat->Option (List Int))(Q:List Int)(a C:Nat)(l:List Int)(e:Ending)(w':World):Prop:=
 (e=.returned (.tuple #[.int .i64 C,.int .i64 0])/\Zgn O kk M (wrL M a (l.take C))/\FlO w P d p X S N O kk F bf n Q (if C=0 then sz else max sz (a+C)) (wrL M a (l.take C)) (2*spN a C) noR w')\/
 (e=.returned (.tuple #[.int .i64 0,.int .i64 13])/\¬ Zgn O kk M (wrL M a (l.take C))/\FlE w P d p X S kk bf w')
theorem WrK.last{w3:World}{a C:Nat}{l:List Int}(h3:Flt w3 P d p X S N O kk F bf n sz M Q){wr:World}(h:WrK w3 P d p X S N O kk F bf n sz M Q a C l (spN a C) wr)(h1:1<=n)(h48:n<48)(hQ:Q.length+2*spN a C<=34)(hx:a+C<=35328):
 Zgn O kk M (wrL M a (l.take C))/\(¬ (0<C/\sz<a+C)->FlO w3 P d p X S N O kk F bf n Q (if C=0 then sz else max sz (a+C)) (wrL M a (l.take C)) (2*spN a C) noR wr)/\
 (0<C/\sz<a+C->Calls Tryz.prog 39 #[.pointer (some ⟨bf,0,none⟩),.int .i64 n,.int .i64 ((a+C:Nat):Int)] wr fun e w'=>e=.returned (.int .i64 0)/\FlO w3 P d p X S N O kk F bf n Q (if C=0 then sz else max sz (a+C)) (wrL M a (l.take C)) (2*spN a C) noR w'):=by
 unfold WrK at h;rw[dnS_end] at h;refine⟨?_,fun hn=>?_,fun hy=>?_⟩
 . obtain⟨P1,X1,N1,O1,F1,Q1,a1,b1,_⟩:=h
   have h4:=h3.cnt a1.ft b1;have h5:=a1.rm;unfold Zgn;omega
 . have e:(if C=0 then sz else max sz (a+C))=sz:=by split <;> omega
   rw[e];exact h
 . obtain⟨P1,X1,N1,O1,F1,Q1,a1,b1,c1,d1,f1,_⟩:=h
   refine(a1.size h1 h48 (by omega) hx).mono ?_;rintro e w' ⟨he,ho⟩;have e2:(if C=0 then sz else max sz (a+C))=a+C:=by rw[if_neg (by omega)];omega
   rw[e2];exact⟨he,FlO.then (k:=0) b1 c1 d1 f1 ho⟩
set_option maxHeartbeats 4000000 in
theorem flWrite_of(h:Flt w P d p X S N O kk F bf n sz M Q)(h1:1<=n)(h48:n<48){v:Value}{l:List Int}(hv:BSl w v l)(hap:Apt P v){a C:Nat}(hC:C=min l.length 1024)(hl:l.length<=9223372036854775807)(hQ:Q.length+2*spN a C<=34)(hx:a+C<=35328):
 Calls Tryz.prog 19 #[.pointer (some ⟨bf,0,none⟩),.int .i64 n,.int .i64 a,v] w (WrO w P d p X S N O kk F bf n sz M Q a C l):=by
 have KF0:=Zck h.md.rd h1 h48 h.ft.k0;have hx14:=h.md.pl.tab.n.get h48;have hsz:=h.ft.zs;have hsb:=h.ft.sb;have HN:Hid (∀ (w3:World),Below w.heap.size w w3->Flt w3 P d p X S N O kk F bf n sz M Q/\BSl w3 v l/\∀ k,P k->k<w.heap.size):=hid fun w3 hb=>⟨h.low hb,hv.below hb,h.md.inv.lt⟩
 have HBY:=hid hv.1;obtain⟨ao,cap,rfl,hcap⟩:=hv.shape;have HSL:Hid (0<C->∃ ub uo,ao=some ⟨ub,uo,none⟩):=hid fun h0=>by
  obtain⟨ub,uo,uc,e,_⟩:=hv.open' (by omega);exact⟨ub,uo,(Value.slice.inj e).1⟩
 have HAP:=hid hap;obtain⟨x,hxx⟩:∃ x,x=N.getD n []:=⟨_,rfl⟩;rw[<- hxx] at KF0 hx14 hsz;obtain⟨kd,ln,sz',d0,d1,d2,d3,d4,d5,d6,d7,d8,d9,mp,rfl⟩:=Zgg hx14;have hsz2:sz'=(sz:Int):=hsz;subst hsz2;have KF:Hid (Calls Tryz.prog 32 #[.pointer (some ⟨bf,0,none⟩),.int .i64 n] w fun e w'=>e=.returned (.tuple #[.agg #[.int .i64 kd,.int .i64 ln,.int .i64 sz,.int .i64 d0,.int .i64 d1,.int .i64 d2,.int .i64 d3,.int .i64 d4,.int .i64 d5,.int .i64 d6,.int .i64 d7,.int .i64 d8,.int .i64 d9,.int .i64 mp],.int .i64 0])/\Below w.heap.size w w'):=hid KF0;have KS:=hid (fun V=>flSpans_any (a:=a) (K:=C) (Z:=(C:Int)) (.inl rfl) (by omega) (by omega) V);obtain⟨L,hL⟩:∃ L,L=l.length:=⟨_,rfl⟩;have HL:=hid hL;have e1:(0:Int)<=(a:Int):=by omega
 have e2:min (L:Int) 1024=(C:Int):=by omega
 have e3:¬ (35328-(C:Int))<(a:Int):=by omega
 have eC:(C:Int)<=1024:=by omega
 have eL:(L:Int)<=9223372036854775807:=by omega
 have HCL:Hid (C<=l.length/\C<=L/\C<=1024):=hid (by omega);have HX:=hid hx;have HQ:=hid hQ;have hsb2:(sz:Int)<=35328:=by omega
 have HCAP:Hid (L<=cap):=hid (by omega);rw[<- hL];clear h hv hap KF0 hx14 hsz hxx hL hC hx hQ hcap hl;go_enter Tryz.func19,Tryz.ntmps19
 go_wp2_with (first
  |(go_at_call 32;refine KF.out.mono ?_;rintro e w2 ⟨rfl,hb2⟩
    have hr2:=heap_alloc_new w2 (.cells #[.int .i64 kd,.int .i64 ln,.int .i64 sz,.int .i64 d0,.int .i64 d1,.int .i64 d2,.int .i64 d3,.int .i64 d4,.int .i64 d5,.int .i64 d6,.int .i64 d7,.int .i64 d8,.int .i64 d9,.int .i64 mp] 47);have hb3:=hb2.trans ((Zaa w2 (.cells #[.int .i64 kd,.int .i64 ln,.int .i64 sz,.int .i64 d0,.int .i64 d1,.int .i64 d2,.int .i64 d3,.int .i64 d4,.int .i64 d5,.int .i64 d6,.int .i64 d7,.int .i64 d8,.int .i64 d9,.int .i64 mp] 47)).mono hb2.size);have hw2:=hb2.size)
  |(go_at_call 33;refine(KS.out _).mono ?_;rintro e w4 ⟨sv,rfl,hv4,hb4⟩;obtain⟨so,scap,rfl,hcells⟩:=hv4))
 have hb34:=hb3.trans (hb4.mono hb3.size);obtain⟨hf4,hv4,hPl⟩:=HN.out w4 hb34;have hr4:=Zad hr2 hb4;have HNB:Hid (∀ wr P1,Chg P P1 w4 wr->wr.cell? ⟨w2.heap.size,2,none⟩=some (.int .i64 sz)):=hid fun wr P1 hg=>by
  have:=(hg.keep w2.heap.size (Array.getElem?_eq_some_iff.1 hr4).1 fun hp=>by have:=hPl _ hp;omega).1.trans hr4;rw[cell_of_row _ _ _ _ _ _ this];rfl
 have HCE:Hid (∀ wr P1,Chg P P1 w4 wr->0<spN a C->∃ g,so=some ⟨g,0,none⟩/\∀ k,k<spN a C->wr.cell? ⟨g,k*3,none⟩=some (.int .i64 ((a / 256+k:Nat):Int))/\wr.cell? ⟨g,k*3+1,none⟩=some (.int .i64 (((a+dnS a C k)%256:Nat):Int))/\
  wr.cell? ⟨g,k*3+2,none⟩=some (.int .i64 (((a+dnS a C k)%256+(dnS a C (k+1)-dnS a C k):Nat):Int))):=hid fun wr P1 hg h0=>by
  obtain⟨g,e,hgB,hgl,hc⟩:=hcells h0;have hgp:¬ P g:=fun hp=>by have:=hPl _ hp;have:=hb3.size;omega
  refine⟨g,e,fun k hk=>?_⟩;obtain⟨a0,a1,a2⟩:=hc k hk;exact⟨(hg.cell hgl hgp).trans a0,(hg.cell hgl hgp).trans a1,(hg.cell hgl hgp).trans a2⟩
 have H0:Hid (WrK w4 P d p X S N O kk F bf n sz M Q a C l 0 w4):=hid (by
  unfold WrK;rw[dnS_zero,List.take_zero];exact hf4.here trivial)
 have KST:=hid (fun wr V k (h:WrK w4 P d p X S N O kk F bf n sz M Q a C l k wr) (hV:Below wr.heap.size wr V) (hk:k<spN a C) u (hu:BSl w4 u ((l.drop (dnS a C k)).take (C-dnS a C k))) (hap:Apt P u)=>WrK.step hf4 h h1 h48 hV hk HQ.out HCL.out.1 HX.out HBY.out hu hap);have KLA:=hid (fun wr (h:WrK w4 P d p X S N O kk F bf n sz M Q a C l (spN a C) wr)=>WrK.last hf4 h h1 h48 HQ.out HX.out);have HLO:Hid (∀ wr k,WrK w4 P d p X S N O kk F bf n sz M Q a C l k wr->∃ P1,Chg P P1 w4 wr):=hid fun wr k ⟨P1,X1,N1,O1,F1,Q1,a1,b1,c1,d1,f1,_⟩=>⟨P1,f1⟩
 have HLW:Hid (∀ wr wr' k,Below wr.heap.size wr wr'->WrK w4 P d p X S N O kk F bf n sz M Q a C l k wr->WrK w4 P d p X S N O kk F bf n sz M Q a C l k wr'):=hid fun wr wr' k hb ⟨P1,X1,N1,O1,F1,Q1,a1,b1,c1,d1,f1,r1⟩=>⟨P1,X1,N1,O1,F1,Q1,a1.low hb,b1,c1,d1,f1.trans (Chg.of_below hb),r1⟩
 have HW4:Hid (Below w.heap.size w w4):=hid hb34;have HV4:=hid hv4;have HDZ:=hid (dnS_zero a C);have HDS:=hid (fun k (hk:k<spN a C)=>Zkl hk);have HDL:=hid (fun k=>dnS_le a C k);have HSC:Hid (0<spN a C->0<C):=hid fun h=>by
  have:=(Zkl h).1;omega
 obtain⟨c,hc⟩:∃ c,c=spN a C:=⟨_,rfl⟩;rw[<- hc] at HCE KST KLA HDS HSC |-
 have HCC:=hid hc;have HCB:Hid (c<=1000):=hid (by
  rw[hc];unfold spN;have:=HCL.out;split <;> omega)
 clear hb2 hb3 hb4 hb34 hf4 hv4 hPl hr2 hr4 hcells hw2 hc h1 h48;go_loopw [13,40] (fun st i wr=>∃ k:Nat,k<=c/\i=.int .i64 k/\st=.int .i64 ((dnS a C k:Nat):Int)/\Hid (WrK w4 P d p X S N O kk F bf n sz M Q a C l k wr)) (fun _ i _=>c-(intOf i).toNat)
 case atStart=>exact⟨0,Nat.zero_le _,rfl,by rw[HDZ.out];rfl,H0⟩
 case round=>
  obtain⟨k,hk,rfl,rfl,HS⟩:=hrel;clear H0;by_cases hlt:k<c
  . obtain⟨P1,hg1⟩:=HLO.out _ _ HS.out
    obtain⟨g,rfl,hce⟩:=HCE.out _ _ hg1 (by omega);obtain⟨c0,c1,c2⟩:=hce k hlt;obtain⟨s1,s2,s3,s4⟩:=HDS.out k hlt;obtain⟨ub,uo,rfl⟩:=HSL.out (HSC.out (by omega));have hdl:=HDL.out (k+1);have hb5:=Zaa wr (.cells #[.int .i64 ((a / 256+k:Nat):Int),.int .i64 (((a+dnS a C k)%256:Nat):Int),.int .i64 (((a+dnS a C k)%256+(dnS a C (k+1)-dnS a C k):Nat):Int)] 78);have hu:BSl w4 (.slice (some ⟨ub,uo+dnS a C k,none⟩) (C-dnS a C k) (cap-dnS a C k)) ((l.drop (dnS a C k)).take (C-dnS a C k)):=by
     have h1:=HV4.out;exact h1.mid _ _ (by have:=HCL.out;omega)
    have hap:Apt P (.slice (some ⟨ub,uo+dnS a C k,none⟩) (C-dnS a C k) (cap-dnS a C k)):=Apt.new (HAP.out _ _ _ rfl (by have:=HCL.out;omega));have hst:=KST.out wr _ k HS.out (hb5.trans ((Below.refl _ _).drew.mono hb5.size)) hlt _ hu hap;have hr5:=heap_alloc_new wr (.cells #[.int .i64 ((a / 256+k:Nat):Int),.int .i64 (((a+dnS a C k)%256:Nat):Int),.int .i64 (((a+dnS a C k)%256+(dnS a C (k+1)-dnS a C k):Nat):Int)] 78);have HNEXT:Hid (dnS a C (k+1)=dnS a C k+(dnS a C (k+1)-dnS a C k)):=hid (by omega);have hc1024:=HCL.out.2.2;have hcL:=HCL.out.2.1;have hLc:=HCAP.out;have HCC2:=HCC;obtain⟨D,hD⟩:∃ D,D=dnS a C k:=⟨_,rfl⟩;obtain⟨E,hE⟩:∃ E,E=dnS a C (k+1):=⟨_,rfl⟩;rw[<- hD] at c1 c2 s1 s2 s3 hu hst hr5 HNEXT |-
    rw[<- hE] at c2 s2 s3 hdl hst hr5 HNEXT;have HD:=hid hD;have HE:=hid hE;obtain⟨f,hf⟩:∃ f,f=(a+D)%256:=⟨_,rfl⟩;obtain⟨q,hq⟩:∃ q,q=a / 256+k:=⟨_,rfl⟩;rw[<- hf] at c1 c2 hst hr5;rw[<- hq] at c0 hst hr5;obtain⟨t,ht⟩:∃ t,t=f+(E-D):=⟨_,rfl⟩;rw[<- ht] at c2 hst hr5;obtain⟨W5,hW5⟩:∃ W5,W5=wr.alloc (.cells #[.int .i64 q,.int .i64 f,.int .i64 t] 78):=⟨_,rfl⟩;have hsz5:W5.heap.size=wr.heap.size+1:=by rw[hW5];simp
    have HSZ5:=hid hsz5;have H5:=hid hW5.symm;rw[<- hW5] at hst hr5;have HR5:=hid hr5;have y0:W5.cell? ⟨wr.heap.size,0,none⟩=some (.int .i64 q):=by rw[cell_of_row _ _ _ _ _ _ hr5];rfl
    have y1:W5.cell? ⟨wr.heap.size,1,none⟩=some (.int .i64 f):=by rw[cell_of_row _ _ _ _ _ _ hr5];rfl
    have y2:W5.cell? ⟨wr.heap.size,2,none⟩=some (.int .i64 t):=by rw[cell_of_row _ _ _ _ _ _ hr5];rfl
    clear hW5 hsz5;have HT:Hid (t-f=E-D/\f<=t/\t<=256):=hid (by omega);have hsl:∀ W,(Instr.slice 30 (.slice (some ⟨ub,uo,none⟩) L cap) (some (.int .i64 D)) (some (.int .i64 C)) none).run Tryz.prog W=.ok (.slice (some ⟨ub,uo+D,none⟩) (C-D) (cap-D)) W:=fun W=>Zfo W ub uo L cap D C _ (.inr rfl) (by omega) (by omega) (by omega)
    have ek:(k:Int)<(c:Int):=by omega
    have hft:f<=t:=by omega
    have ht2:t<=256:=by omega
    have hD2:D<=1024:=by omega
    clear s1 s2 s3 s4 hdl hu hap hD hE hf hq ht hce hg1 HS hb5 hr5;have hcb2:=HCB.out;rcases hst with hA|hB
    . have HA:=hid hA
      clear hA;go_wp2;rw[H5.out];go_still_tail 7,(by kernel_rfl)
      go_wp2_with (go_at_call 38;refine HA.out.mono ?_;rintro e w6 ⟨rfl,h6,hk6⟩
                   have HS6:=hid h6;have hr6:w6.heap[wr.heap.size]? =some (.cells #[.int .i64 q,.int .i64 f,.int .i64 t] 78 (0,0)):=(hk6 _ (Nat.le_refl _) (by show _<W5.heap.size;have:=HSZ5.out;omega)).trans HR5.out;have x1:w6.cell? ⟨wr.heap.size,1,none⟩=some (.int .i64 f):=by rw[cell_of_row _ _ _ _ _ _ hr6];rfl
                   have x2:w6.cell? ⟨wr.heap.size,2,none⟩=some (.int .i64 t):=by rw[cell_of_row _ _ _ _ _ _ hr6];rfl
                   clear h6 hk6 hr6)
      clear x1 x2;have hk1:k+1<=c:=by omega
      go_roundw
      case rel=>exact⟨k+1,hk1,by go_num,by rw[<- HE.out,HNEXT.out,<- HT.out.1];go_num,HS6⟩
      case measure=>simp[intOf];omega
    . have HB:=hid hB
      clear hB;go_wp2;rw[H5.out];go_still_tail 7,(by kernel_rfl)
      go_wp2_with (go_at_call 38;refine HB.out.mono ?_;rintro e w6 ⟨rfl,hn6,h6⟩)
      go_ret2;exact .inr ⟨rfl,hn6,h6.widen HW4.out⟩
  . obtain rfl:k=c:=by omega
    obtain⟨P1,hg1⟩:=HLO.out _ _ HS.out;have cn:=HNB.out _ _ hg1;obtain⟨hfit,hno,hyes⟩:=KLA.out _ HS.out;have HF:=hid hfit;clear hfit hg1;by_cases hC0:0<C
    . have eC0:(0:Int)<(C:Int):=by omega
      by_cases hgt:sz<a+C
      . have KZ:=hid (hyes ⟨hC0,hgt⟩)
        have e5:(sz:Int)<(a:Int)+(C:Int):=by omega
        have e6:(((a+C:Nat):Nat):Int)=(a:Int)+(C:Int):=by omega
        rw[e6] at KZ;clear hno hyes hC0 hgt e6;go_wp2_with (go_at_call 39;refine KZ.out.mono ?_;rintro e w7 ⟨rfl,h7⟩)
        go_ret2;exact .inl ⟨rfl,HF.out,by have h8:=h7.widen HW4.out;rw[HCC.out] at h8;exact h8⟩
      . have HN7:=hid (hno (fun e=>hgt e.2))
        have e5:¬ (sz:Int)<(a:Int)+(C:Int):=by omega
        clear hno hyes hC0 hgt;go_wp2;go_ret2;exact .inl ⟨rfl,HF.out,by have h8:=HN7.out.widen HW4.out;rw[HCC.out] at h8;exact h8⟩
    . have HN7:=hid (hno (fun e=>hC0 e.1))
      have eC0:¬ (0:Int)<(C:Int):=by omega
      clear hno hyes hC0;go_wp2;go_ret2;exact .inl ⟨rfl,HF.out,by have h8:=HN7.out.widen HW4.out;rw[HCC.out] at h8;exact h8⟩
end
theorem new_fat(G:List (List Int)){n:Nat}(h2:2<=n)(h3:n<=3):Fat G (N14 2) F14 n 0 fun _=>none:=by
 have hz:∀ i,i<139->locX ((N14 2).getD n []) (F14 n) i=0:=fun i hi=>n14_loc (by decide) (by omega) hi
 refine⟨.inl (by rw[n14_kind (by decide) (by omega),if_neg (by omega),if_pos (by omega)]),?_,by omega,fun i hi=>by rw[if_pos (hz i (by omega))],fun _ _=>rfl,?_,⟨fun i l e=>(by cases e),fun i l e=>(by cases e)⟩⟩
 . rw[n14_get 2 n (by decide),if_pos (by omega)];rfl
 . constructor
   . intro e;exact absurd (hz 138 (by decide)) e
   . rintro⟨b,a1,a2,a3⟩;exact absurd (hz b (by omega)) a3
section
variable {kk:Nat}
set_option maxHeartbeats 1000000 in
theorem made15_of(h1:1<=kk)(h2:kk<=12)(w0:World){w:World}(hb:Below w0.heap.size w0 w):
 Calls Tryz.prog 9 #[.int .i64 (64*(kk:Int))] w fun e w'=>∃ bf b P d X,e=.returned (.pointer (some ⟨bf,0,none⟩))/\Fsd w0 w' P d (.pointer (some ⟨b,0,none⟩)) X (newS kk) (N14 2) (newO kk) kk F14 bf:=by
 have KS:=hid (start13 h1 h2 w0 hb);have HB:Hid (∀ (V:World) (P:Nat->Prop) (d:Value) (b bf:Nat) (X:XSt),Tsd w0 V P d (.pointer (some ⟨b,0,none⟩)) X (newS kk) newN (newO kk) kk bf->Fsd w0 V P d (.pointer (some ⟨b,0,none⟩)) X (newS kk) newN (newO kk) kk F14 bf):=hid fun V P d b bf X h=>
  ⟨h.inv,h.wi,h.fu,⟨h.has,h.ok,h.tab,new_fils h1 _⟩,new_stil h1 h2,h.fs,h.nb,h.bN,h.pN,h.be⟩
 have HM:∀ c,c<4->∀ (V:World) (P:Nat->Prop) (d:Value) (b bf:Nat) (X:XSt),Fsm w0 V P d (.pointer (some ⟨b,0,none⟩)) X (newS kk) newN (newO kk) kk F14 bf->Fmd V P d (.pointer (some ⟨b,0,none⟩)) X (newS kk) (N14 c) (newO kk) kk F14 bf->X.put.length<=c->Calls Tryz.prog 24 #[.pointer (some ⟨bf,0,none⟩),.int .i64 1] V fun e w'=>e=.returned (.tuple #[.int .i64 ((2+c:Nat):Int),.int .i64 0])/\
  Hid (∃ P' X',Fsm w0 w' P' d (.pointer (some ⟨b,0,none⟩)) X' (newS kk) newN (newO kk) kk F14 bf/\Fmd w' P' d (.pointer (some ⟨b,0,none⟩)) X' (newS kk) (N14 (c+1)) (newO kk) kk F14 bf/\X'.put.length<=c+1):=fun c hc V P d b bf X hs hm hp=>by
  refine(fsMake_yes hm.inv hm.wi (by omega) hm.fs hm.pl.tab (n14_free hc) (k:=1) (by decide) (Below.refl _ _)).mono ?_;rintro e w' ⟨he,P',hi,hg⟩;obtain⟨hfs,hnb⟩:=hm.fs.chg hg hm.nb;exact⟨he,P',_,hs.next hi hm.wi ⟨rfl,rfl⟩ hg,⟨hi,hm.wi,hm.pl.make (by omega) (by omega) rfl (by decide),hm.st,hfs,hnb⟩,by have:=addS_le X.put ((Zbq (newS kk) ((2+c) / 8):Nat):Int);show(addS X.put _).length<=c+1;omega⟩
 have HM0:=hid (HM 0 (by decide));have HM1:=hid (HM 1 (by decide));clear h1 h2 HM;go_enter Tryz.func9,Tryz.ntmps9
 go_wp2_with (first
  |(go_at_call 23;refine KS.out.mono ?_;rintro e w1 ⟨b,rfl,hb1,KN⟩)
  |(go_at_call 22;refine KN.mono ?_;rintro e w2 ⟨bf,P2,d2,X2,rfl,hsd,_⟩;have hsd2:=HB.out _ _ _ _ _ _ hsd;have c2:=hsd2.fs.cell)
  |(go_at_call 18;refine hsd2.begin.mono ?_;rintro e w3 ⟨rfl,P3,hs3,hm3,_⟩;have KM:=HM0.out _ _ _ _ _ _ hs3 hm3 (Nat.le_refl 0))
  |(go_at_call 24;refine KM.mono ?_;rintro e w4 ⟨rfl,HS4⟩;obtain⟨P4,X4,hs4,hm4,hp4⟩:=HS4.out;have KM2:=hid (HM1.out _ _ _ _ _ _ hs4 hm4 hp4);clear KM)
  |(go_at_call 24;refine KM2.out.mono ?_;rintro e w5 ⟨rfl,HS5⟩;obtain⟨P5,X5,hs5,hm5,hp5⟩:=HS5.out;have cf:=hs5.fs.cell;have KE:=hid (hs5.keep hm5))
  |(go_at_call 21;refine KE.out.mono ?_;rintro e w6 ⟨rfl,P6,X6,hf6,_,_⟩))
 go_ret;exact⟨bf,b,P6,d2,X6,rfl,hf6⟩
end
theorem cnt_wr1{M:Nat->Option (List Int)}(a:Nat)(v:Int):cntX (keyB (wr1 M a v)) 138+(if (M (a / 256)).isSome=true then 1 else 0)<=cntX (keyB M) 138+1:=by
 by_cases h:(M (a / 256)).isSome=true
 . rw[if_pos h]
   have:=Zgp (f:=keyB (wr1 M a v)) (g:=keyB M) 138 fun i _=>by
    rw[keyB_ne,keyB_ne];unfold wr1;by_cases e:i=a / 256
    . subst e;rw[Zcn];exact⟨fun _=>h,fun _=>rfl⟩
    . rw[Zbu _ e]
   omega
 . rw[if_neg h]
   by_cases hb:a / 256<138
   . have:=Zif (f:=keyB M) (g:=keyB (wr1 M a v)) (i:=a / 256) (by unfold keyB;rw[if_neg h]) (by rw[keyB_ne];unfold wr1;rw[Zcn];rfl) 138 hb fun j _ hne=>by
      rw[keyB_ne,keyB_ne];unfold wr1;rw[Zbu _ hne]
     omega
   . have:=Zgp (f:=keyB (wr1 M a v)) (g:=keyB M) 138 fun i hi=>by
      rw[keyB_ne,keyB_ne];unfold wr1;rw[Zbu _ (by omega)]
     omega
theorem cnt_wrL:∀ (l:List Int) (M:Nat->Option (List Int)) (a:Nat),0<l.length->cntX (keyB (wrL M a l)) 138+(if (M (a / 256)).isSome=true then 1 else 0)<=cntX (keyB M) 138+spN a l.length
 |[],_,_,h=>absurd h (Nat.lt_irrefl 0)
 |v :: l,M,a,_=>by
  have h1:=cnt_wr1 (M:=M) a v;have hs:(wr1 M a v (a / 256)).isSome=true:=by unfold wr1;rw[Zcn];rfl
  have hp:spN a (v :: l).length=(a%256+(l.length+1)+255) / 256:=by unfold spN;rw[List.length_cons,if_neg (by omega)]
  rw[hp];show cntX (keyB (wrL (wr1 M a v) (a+1) l)) 138+_<=_
  by_cases h0:0<l.length
  . have ih:=cnt_wrL l (wr1 M a v) (a+1) h0
    have hq:spN (a+1) l.length=((a+1)%256+l.length+255) / 256:=by unfold spN;rw[if_neg (by omega)]
    rw[hq] at ih;by_cases c:a%256=255
    . have e2:(a+1)%256=0:=by omega
      rw[e2] at ih;rw[c];have e3:(255+(l.length+1)+255) / 256=1+(0+l.length+255) / 256:=by omega
      rw[e3];omega
    . have e1:(a+1) / 256=a / 256:=by omega
      rw[e1,if_pos hs] at ih;have e2:(a+1)%256=a%256+1:=by omega
      rw[e2] at ih;have e3:a%256+1+l.length+255=a%256+(l.length+1)+255:=by omega
      rw[e3] at ih;omega
  . obtain rfl:l=[]:=List.eq_nil_of_length_eq_zero (by omega)
    show cntX (keyB (wr1 M a v)) 138+_<=_
    have:(a%256+([]:List Int).length+1+255) / 256=1:=by simp;omega
    simp only[List.length_nil] at this |-
    omega
theorem used_wrL(M:Nat->Option (List Int))(a:Nat)(l:List Int):Zar (wrL M a l)<=Zar M+spN a l.length+1:=by
 unfold Zar;by_cases h0:0<l.length
 . have h1:=cnt_wrL l M a h0
   have h2:=farB_le (wrL M a l) 138;omega
 . obtain rfl:l=[]:=List.eq_nil_of_length_eq_zero (by omega)
   show cntX (keyB M) 138+farB M 138<=_
   omega
theorem spN_le{a n:Nat}(h:n<=1024):spN a n<=5:=by
 unfold spN;split <;> omega
def Wk2(w0:World)(d p:Value)(kk bf n sz:Nat)(M:Nat->Option (List Int))(m sm:Nat)(Mm:Nat->Option (List Int))(q c:Nat)(w:World):Prop:=
 ∃ P X N O F Q,Fsm w0 w P d p X (newS kk) (N14 2) (newO kk) kk F14 bf/\Flt w P d p X (newS kk) N O kk F bf n sz M Q/\Fat X.call N F m sm Mm/\Q.length<=q/\cntU O (64*kk)<=c
section
variable {w0 w:World}{d p:Value}{kk bf n sz m sm q c:Nat}{M Mm:Nat->Option (List Int)}
theorem Wk2.be(h:Wk2 w0 d p kk bf n sz M m sm Mm q c w):Below w0.heap.size w0 w:=by
 obtain⟨P,X,N,O,F,Q,hs,_⟩:=h;exact hs.be
theorem Wk2.next(hne:m≠n)(h1:1<=m)(h48:m<48){P:Nat->Prop}{X:XSt}{N:List (List Int)}{O:List (Int × Int)}{F:Nat->List Int}{Q:List Int}{sz' k:Nat}{M':Nat->Option (List Int)}{w':World}
 (hs:Fsm w0 w P d p X (newS kk) (N14 2) (newO kk) kk F14 bf) (hf:Flt w P d p X (newS kk) N O kk F bf n sz M Q) (hm:Fat X.call N F m sm Mm) (hq:Q.length<=q) (hc:cntU O (64*kk)<=c) (ho:FlO w P d p X (newS kk) N O kk F bf n Q sz' M' k noR w') {c':Nat} (hc':c+Zar M'<=c'+Zar M):Wk2 w0 d p kk bf n sz' M' m sm Mm (q+k) c' w':=by
 obtain⟨P',X',N',O',F',Q',a,b,c1,e,f,_⟩:=ho;have:=hf.cnt a.ft b;exact⟨P',X',N',O',F',Q',hs.next a.md.inv a.md.wi b.on f,a,b.ot m sm Mm hne h1 h48 hm,by omega,by omega⟩
theorem Wk2.write(h:Wk2 w0 d p kk bf n sz M m sm Mm q c w)(hne:m≠n)(hm1:1<=m)(hm48:m<48)(h1:1<=n)(h48:n<48){W:World}(hW:Below w.heap.size w W){v:Value}{l:List Int}(hv:BSl W v l)(hap:∀ P:Nat->Prop,(∀ k,P k->w0.heap.size<=k/\k<w.heap.size)->Apt P v){a:Nat}(hl:l.length<=1024)(hx:a+l.length<=35328)(hQ:q+2*spN a l.length<=34)(hr:c+spN a l.length+1<=62*kk-42):
 Calls Tryz.prog 19 #[.pointer (some ⟨bf,0,none⟩),.int .i64 n,.int .i64 a,v] W fun e w'=>e=.returned (.tuple #[.int .i64 l.length,.int .i64 0])/\
  Wk2 w0 d p kk bf n (if l.length=0 then sz else max sz (a+l.length)) (wrL M a l) m sm Mm (q+2*spN a l.length) (c+spN a l.length+1) w':=by
 obtain⟨P,X,N,O,F,Q,hs,hf,hm,hq,hc⟩:=h;have hu:=used_wrL M a l;have htl:l.take l.length=l:=List.take_length;refine(flWrite_of (hf.low hW) h1 h48 hv (hap P fun k hk=>⟨hs.pN k hk,hs.inv.lt k hk⟩) (a:=a) (C:=l.length) (by omega) (by omega) (by omega) hx).mono ?_;rintro e w' (⟨he,hfit,ho⟩| ⟨_,hn,_⟩)
 . rw[htl] at ho
   refine⟨he,Wk2.next hne hm1 hm48 (hs.next (hs.inv.low hW) hs.wi (Onw.refl _) (Chg.of_below hW)) (hf.low hW) hm hq hc ho (by omega)⟩
 . exfalso
   apply hn;rw[htl];unfold Zgn;have:=hf.rm;omega
theorem Fsd.wk2{P:Nat->Prop}{X:XSt}(h:Fsd w0 w P d p X (newS kk) (N14 2) (newO kk) kk F14 bf)(h1:1<=kk)(h4:kk<5):Calls Tryz.prog 18 #[p] w fun e w'=>e=.returned (.int .i64 0)/\Wk2 w0 d p kk bf 2 0 (fun _=>none) 3 0 (fun _=>none) (2*kk+2) 6 w':=by
 refine h.begin.mono ?_;rintro e w' ⟨he,P',hs,hm,_⟩;have hm0:num ((N14 2).getD 2 []) 13=0:=n14_loc (c:=2) (m:=2) (i:=138) (by decide) (by decide) (by decide);have hc:=cnt_new kk h4 h1;exact⟨he,P',_,N14 2,newO kk,F14,baseQ (newS kk) kk 2 0,hs,⟨hm,new_fat _ (by decide) (by decide),put_none _ _,by rw[hm0];exact baseQ_ok _ _ _ _,by rw[hc];omega⟩,new_fat _ (by decide) (by decide),by rw[baseQ_len];omega,by rw[hc];omega⟩
end
theorem awake15_any(w:World):Calls Tryz.prog 7 #[] w fun e w'=>e=.returned (.bool true)/\Below w.heap.size w w':=by
 have KM:=hid (made15_of (kk:=1) (by decide) (by decide) w (Below.refl _ w));rw[show(64*((1:Nat):Int))=64 from rfl] at KM;have KW:Hid (∀ (V:World) (d p:Value) (bf:Nat),Wk2 w d p 1 bf 2 0 (fun _=>none) 3 0 (fun _=>none) 4 6 V->Calls Tryz.prog 19 #[.pointer (some ⟨bf,0,none⟩),.int .i64 2,.int .i64 0,.slice (some ⟨V.heap.size,0,none⟩) 2 2] (V.alloc (.cells #[.int .u8 97,.int .u8 98] 5 (2,3))) fun e w'=>e=.returned (.tuple #[.int .i64 2,.int .i64 0])/\Below w.heap.size w w'):=hid fun V d p bf h=>by
  have hv:BSl (V.alloc (.cells #[.int .u8 97,.int .u8 98] 5 (2,3))) (.slice (some ⟨V.heap.size,0,none⟩) 2 2) [97,98]:=bsl_lit9 V [97,98] (Zax fun x hx=>by simp at hx;omega) 2 rfl _ rfl _;refine(h.write (by decide) (by decide) (by decide) (by decide) (by decide) (below_boxF V _ _ _) hv (fun P hP=>Apt.new fun hp=>by have:=(hP _ hp).2;omega) (a:=0) (by decide) (by decide) (by decide) (by decide)).mono ?_;rintro e w' ⟨he,h2⟩;exact⟨he,h2.be⟩
 have kc:=fun(w:World) (C:Array Value) (n c:Nat)=>Lib.run_convert_bytes_const (P:=Tryz.prog) w 30 5 C n c Tryz.underlying30 Tryz.underlying5
 go_enter Tryz.func7,Tryz.ntmps7
 go_wp2_with (first
  |(go_at_call 9;refine KM.out.mono ?_;rintro e w1 ⟨bf,b,P,d,X,rfl,hf⟩;have c0:=hf.fs.cell;have KB:=hid (hf.wk2 (by decide) (by decide)))
  |(go_at_call 18;refine KB.out.mono ?_;rintro e w2 ⟨rfl,hk2⟩)
  |(go_at_call 19;refine(KW.out _ _ _ _ hk2).mono ?_;rintro e w3 ⟨rfl,hb3⟩))
 go_ret;exact⟨rfl,hb3⟩
theorem flRead_err{f:Value}{n:Int}{w:World}(hF:Calls Tryz.prog 32 #[f,.int .i64 n] w fun e w'=>e=.returned (.tuple #[.agg #[.int .i64 0,.int .i64 0,.int .i64 0,.int .i64 0,.int .i64 0,.int .i64 0,.int .i64 0,.int .i64 0,.int .i64 0,.int .i64 0,.int .i64 0,.int .i64 0,.int .i64 0,.int .i64 0],.int .i64 1])/\Below w.heap.size w w')(a m:Int):
 Calls Tryz.prog 15 #[f,.int .i64 n,.int .i64 a,.int .i64 m] w fun e w'=>e=.returned (.tuple #[.slice none 0 0,.int .i64 1])/\Below w.heap.size w w':=by
 have KF:=hid hF;clear hF;go_enter Tryz.func15,Tryz.ntmps15
 go_wp2_with (go_at_call 32;refine KF.out.mono ?_;rintro e w2 ⟨rfl,hb2⟩
              have hb3:=hb2.trans ((Zaa w2 (.cells #[.int .i64 0,.int .i64 0,.int .i64 0,.int .i64 0,.int .i64 0,.int .i64 0,.int .i64 0,.int .i64 0,.int .i64 0,.int .i64 0,.int .i64 0,.int .i64 0,.int .i64 0,.int .i64 0] 47)).mono hb2.size))
 go_ret2;exact⟨rfl,hb3⟩
section
variable {w:World}{P:Nat->Prop}{d p:Value}{X:XSt}{S:List Int}{N:List (List Int)}{O:List (Int × Int)}{kk:Nat}{F:Nat->List Int}{bf:Nat}
theorem flRead_neg1(h:Frd w P d p X S N O kk F bf){n:Nat}(h1:1<=n)(h48:n<48)(hk:Zbf N n≠0){a:Int}(ha:a<0)(m:Int):
 Calls Tryz.prog 15 #[.pointer (some ⟨bf,0,none⟩),.int .i64 n,.int .i64 a,.int .i64 m] w fun e w'=>e=.returned (.tuple #[.slice none 0 0,.int .i64 1])/\Below w.heap.size w w':=by
 have KF0:=Zck h h1 h48 hk;have hx:=h.tab.n.get h48;generalize N.getD n []=x at KF0 hx;obtain⟨kd,ln,sz,d0,d1,d2,d3,d4,d5,d6,d7,d8,d9,mp,rfl⟩:=Zgg hx;have KF:Hid (Calls Tryz.prog 32 #[.pointer (some ⟨bf,0,none⟩),.int .i64 n] w fun e w'=>e=.returned (.tuple #[.agg #[.int .i64 kd,.int .i64 ln,.int .i64 sz,.int .i64 d0,.int .i64 d1,.int .i64 d2,.int .i64 d3,.int .i64 d4,.int .i64 d5,.int .i64 d6,.int .i64 d7,.int .i64 d8,.int .i64 d9,.int .i64 mp],.int .i64 0])/\Below w.heap.size w w'):=hid KF0;clear h KF0 hx h1 h48 hk;go_enter Tryz.func15,Tryz.ntmps15
 go_wp2_with (go_at_call 32;refine KF.out.mono ?_;rintro e w2 ⟨rfl,hb2⟩
              have hb3:=hb2.trans ((Zaa w2 (.cells #[.int .i64 kd,.int .i64 ln,.int .i64 sz,.int .i64 d0,.int .i64 d1,.int .i64 d2,.int .i64 d3,.int .i64 d4,.int .i64 d5,.int .i64 d6,.int .i64 d7,.int .i64 d8,.int .i64 d9,.int .i64 mp] 47)).mono hb2.size))
 go_ret2;exact⟨rfl,hb3⟩
theorem flRead_neg2(h:Frd w P d p X S N O kk F bf){n:Nat}(h1:1<=n)(h48:n<48)(hk:Zbf N n≠0){a m:Int}(ha:¬ a<0)(hm:m<0):
 Calls Tryz.prog 15 #[.pointer (some ⟨bf,0,none⟩),.int .i64 n,.int .i64 a,.int .i64 m] w fun e w'=>e=.returned (.tuple #[.slice none 0 0,.int .i64 1])/\Below w.heap.size w w':=by
 have KF0:=Zck h h1 h48 hk;have hx:=h.tab.n.get h48;generalize N.getD n []=x at KF0 hx;obtain⟨kd,ln,sz,d0,d1,d2,d3,d4,d5,d6,d7,d8,d9,mp,rfl⟩:=Zgg hx;have KF:Hid (Calls Tryz.prog 32 #[.pointer (some ⟨bf,0,none⟩),.int .i64 n] w fun e w'=>e=.returned (.tuple #[.agg #[.int .i64 kd,.int .i64 ln,.int .i64 sz,.int .i64 d0,.int .i64 d1,.int .i64 d2,.int .i64 d3,.int .i64 d4,.int .i64 d5,.int .i64 d6,.int .i64 d7,.int .i64 d8,.int .i64 d9,.int .i64 mp],.int .i64 0])/\Below w.heap.size w w'):=hid KF0;have ha2:decide (a<0)=false:=decide_eq_false ha;clear h KF0 hx h1 h48 hk;go_enter Tryz.func15,Tryz.ntmps15
 go_wp2_with (go_at_call 32;refine KF.out.mono ?_;rintro e w2 ⟨rfl,hb2⟩
              have hb3:=hb2.trans ((Zaa w2 (.cells #[.int .i64 kd,.int .i64 ln,.int .i64 sz,.int .i64 d0,.int .i64 d1,.int .i64 d2,.int .i64 d3,.int .i64 d4,.int .i64 d5,.int .i64 d6,.int .i64 d7,.int .i64 d8,.int .i64 d9,.int .i64 mp] 47)).mono hb2.size))
 go_ret2;exact⟨rfl,hb3⟩
theorem flWrite_neg(h:Frd w P d p X S N O kk F bf){n:Nat}(h1:1<=n)(h48:n<48)(hk:Zbf N n≠0){a:Int}(ha:a<0)(v:Value):
 Calls Tryz.prog 19 #[.pointer (some ⟨bf,0,none⟩),.int .i64 n,.int .i64 a,v] w fun e w'=>e=.returned (.tuple #[.int .i64 0,.int .i64 1])/\Below w.heap.size w w':=by
 have KF0:=Zck h h1 h48 hk;have hx:=h.tab.n.get h48;generalize N.getD n []=x at KF0 hx;obtain⟨kd,ln,sz,d0,d1,d2,d3,d4,d5,d6,d7,d8,d9,mp,rfl⟩:=Zgg hx;have KF:Hid (Calls Tryz.prog 32 #[.pointer (some ⟨bf,0,none⟩),.int .i64 n] w fun e w'=>e=.returned (.tuple #[.agg #[.int .i64 kd,.int .i64 ln,.int .i64 sz,.int .i64 d0,.int .i64 d1,.int .i64 d2,.int .i64 d3,.int .i64 d4,.int .i64 d5,.int .i64 d6,.int .i64 d7,.int .i64 d8,.int .i64 d9,.int .i64 mp],.int .i64 0])/\Below w.heap.size w w'):=hid KF0;clear h KF0 hx h1 h48 hk;go_enter Tryz.func19,Tryz.ntmps19
 go_wp2_with (go_at_call 32;refine KF.out.mono ?_;rintro e w2 ⟨rfl,hb2⟩
              have hb3:=hb2.trans ((Zaa w2 (.cells #[.int .i64 kd,.int .i64 ln,.int .i64 sz,.int .i64 d0,.int .i64 d1,.int .i64 d2,.int .i64 d3,.int .i64 d4,.int .i64 d5,.int .i64 d6,.int .i64 d7,.int .i64 d8,.int .i64 d9,.int .i64 mp] 47)).mono hb2.size))
 go_ret2;exact⟨rfl,hb3⟩
theorem flWrite_big(h:Frd w P d p X S N O kk F bf){n:Nat}(h1:1<=n)(h48:n<48)(hk:Zbf N n≠0){a:Int}(ha:¬ a<0)(ao:Option Addr){L C cap:Nat}(hL:(L:Int)<=9223372036854775807)(hC:C=min L 1024)(hb:35328<a+C):
 Calls Tryz.prog 19 #[.pointer (some ⟨bf,0,none⟩),.int .i64 n,.int .i64 a,.slice ao L cap] w fun e w'=>e=.returned (.tuple #[.int .i64 0,.int .i64 14])/\Below w.heap.size w w':=by
 have KF0:=Zck h h1 h48 hk;have hx:=h.tab.n.get h48;generalize N.getD n []=x at KF0 hx;obtain⟨kd,ln,sz,d0,d1,d2,d3,d4,d5,d6,d7,d8,d9,mp,rfl⟩:=Zgg hx;have KF:Hid (Calls Tryz.prog 32 #[.pointer (some ⟨bf,0,none⟩),.int .i64 n] w fun e w'=>e=.returned (.tuple #[.agg #[.int .i64 kd,.int .i64 ln,.int .i64 sz,.int .i64 d0,.int .i64 d1,.int .i64 d2,.int .i64 d3,.int .i64 d4,.int .i64 d5,.int .i64 d6,.int .i64 d7,.int .i64 d8,.int .i64 d9,.int .i64 mp],.int .i64 0])/\Below w.heap.size w w'):=hid KF0;have e2:min (L:Int) 1024=(C:Int):=by omega
 have e3:35328-(C:Int)<a:=by omega
 have eC:(C:Int)<=1024:=by omega
 clear hC hb;clear h KF0 hx h1 h48 hk;go_enter Tryz.func19,Tryz.ntmps19
 go_wp2_with (go_at_call 32;refine KF.out.mono ?_;rintro e w2 ⟨rfl,hb2⟩
              have hb3:=hb2.trans ((Zaa w2 (.cells #[.int .i64 kd,.int .i64 ln,.int .i64 sz,.int .i64 d0,.int .i64 d1,.int .i64 d2,.int .i64 d3,.int .i64 d4,.int .i64 d5,.int .i64 d6,.int .i64 d7,.int .i64 d8,.int .i64 d9,.int .i64 mp] 47)).mono hb2.size))
 go_ret2;exact⟨rfl,hb3⟩
theorem flResize_neg(h:Frd w P d p X S N O kk F bf){n:Nat}(h1:1<=n)(h48:n<48)(hk:Zbf N n≠0){a:Int}(ha:a<0):
 Calls Tryz.prog 20 #[.pointer (some ⟨bf,0,none⟩),.int .i64 n,.int .i64 a] w fun e w'=>e=.returned (.int .i64 1)/\Below w.heap.size w w':=by
 have KF0:=Zck h h1 h48 hk;have hx:=h.tab.n.get h48;generalize N.getD n []=x at KF0 hx;obtain⟨kd,ln,sz,d0,d1,d2,d3,d4,d5,d6,d7,d8,d9,mp,rfl⟩:=Zgg hx;have KF:Hid (Calls Tryz.prog 32 #[.pointer (some ⟨bf,0,none⟩),.int .i64 n] w fun e w'=>e=.returned (.tuple #[.agg #[.int .i64 kd,.int .i64 ln,.int .i64 sz,.int .i64 d0,.int .i64 d1,.int .i64 d2,.int .i64 d3,.int .i64 d4,.int .i64 d5,.int .i64 d6,.int .i64 d7,.int .i64 d8,.int .i64 d9,.int .i64 mp],.int .i64 0])/\Below w.heap.size w w'):=hid KF0;clear h KF0 hx h1 h48 hk;go_enter Tryz.func20,Tryz.ntmps20
 go_wp2_with (go_at_call 32;refine KF.out.mono ?_;rintro e w2 ⟨rfl,hb2⟩
              have hb3:=hb2.trans ((Zaa w2 (.cells #[.int .i64 kd,.int .i64 ln,.int .i64 sz,.int .i64 d0,.int .i64 d1,.int .i64 d2,.int .i64 d3,.int .i64 d4,.int .i64 d5,.int .i64 d6,.int .i64 d7,.int .i64 d8,.int .i64 d9,.int .i64 mp] 47)).mono hb2.size))
 go_ret;exact⟨rfl,hb3⟩
theorem flResize_big(h:Frd w P d p X S N O kk F bf){n:Nat}(h1:1<=n)(h48:n<48)(hk:Zbf N n≠0){a:Int}(hb:35328<a):
 Calls Tryz.prog 20 #[.pointer (some ⟨bf,0,none⟩),.int .i64 n,.int .i64 a] w fun e w'=>e=.returned (.int .i64 14)/\Below w.heap.size w w':=by
 have KF0:=Zck h h1 h48 hk;have hx:=h.tab.n.get h48;generalize N.getD n []=x at KF0 hx;obtain⟨kd,ln,sz,d0,d1,d2,d3,d4,d5,d6,d7,d8,d9,mp,rfl⟩:=Zgg hx;have KF:Hid (Calls Tryz.prog 32 #[.pointer (some ⟨bf,0,none⟩),.int .i64 n] w fun e w'=>e=.returned (.tuple #[.agg #[.int .i64 kd,.int .i64 ln,.int .i64 sz,.int .i64 d0,.int .i64 d1,.int .i64 d2,.int .i64 d3,.int .i64 d4,.int .i64 d5,.int .i64 d6,.int .i64 d7,.int .i64 d8,.int .i64 d9,.int .i64 mp],.int .i64 0])/\Below w.heap.size w w'):=hid KF0;have ha:¬ a<0:=by omega
 clear h KF0 hx h1 h48 hk;go_enter Tryz.func20,Tryz.ntmps20
 go_wp2_with (go_at_call 32;refine KF.out.mono ?_;rintro e w2 ⟨rfl,hb2⟩
              have hb3:=hb2.trans ((Zaa w2 (.cells #[.int .i64 kd,.int .i64 ln,.int .i64 sz,.int .i64 d0,.int .i64 d1,.int .i64 d2,.int .i64 d3,.int .i64 d4,.int .i64 d5,.int .i64 d6,.int .i64 d7,.int .i64 d8,.int .i64 d9,.int .i64 mp] 47)).mono hb2.size))
 go_ret;exact⟨rfl,hb3⟩
end
def CntF(O:List (Int × Int))(kk:Nat)(M Mm:Nat->Option (List Int)):Prop:=cntU O (64*kk)=6+Zar M+Zar Mm/\48+Zar M+Zar Mm<=62*kk
def RestF(w0:World)(d p:Value)(kk bf n sz:Nat)(M:Nat->Option (List Int))(m sm:Nat)(Mm:Nat->Option (List Int))(P:Nat->Prop)(w:World):Prop:=
 ∃ X N O F,Fsd w0 w P d p X (newS kk) N O kk F bf/\Fat X.is N F n sz M/\Fat X.is N F m sm Mm/\CntF O kk M Mm
def StartF(w0:World)(d p:Value)(kk bf n sz:Nat)(M:Nat->Option (List Int))(m sm:Nat)(Mm:Nat->Option (List Int))(P:Nat->Prop)(w:World):Prop:=
 ∃ X N O F,Fsm w0 w P d p (callX X) (newS kk) N O kk F bf/\Fmd w P d p (callX X) (newS kk) N O kk F bf/\Fat X.is N F n sz M/\Fat X.is N F m sm Mm/\CntF O kk M Mm
def AbF(w0:World)(d p:Value)(kk bf n sz:Nat)(M:Nat->Option (List Int))(m sm:Nat)(Mm:Nat->Option (List Int))(P:Nat->Prop)(w:World):Prop:=
 ∃ X N O F,Fsm w0 w P d p X (newS kk) N O kk F bf/\Fat X.is N F n sz M/\Fat X.is N F m sm Mm/\CntF O kk M Mm
def MidF(w0:World)(d p:Value)(kk bf n sz:Nat)(M:Nat->Option (List Int))(m sm:Nat)(Mm:Nat->Option (List Int))(P:Nat->Prop)(w:World):Prop:=
 ∃ X N O F N2 O2 F2,Fsm w0 w P d p X (newS kk) N O kk F bf/\Fmd w P d p X (newS kk) N2 O2 kk F2 bf/\Fat X.call N2 F2 n sz M/\Fat X.call N2 F2 m sm Mm/\CntF O2 kk M Mm
def NM(n m:Nat):Prop:=2<=n/\n<=3/\2<=m/\m<=3/\m≠n
section
variable {w0 w:World}{d p:Value}{kk bf n sz m sm:Nat}{M Mm:Nat->Option (List Int)}{P:Nat->Prop}
theorem CntF.swap{O:List (Int × Int)}(h:CntF O kk M Mm):CntF O kk Mm M:=⟨by rw[h.1];omega,by have:=h.2;omega⟩
theorem RestF.swap(h:RestF w0 d p kk bf n sz M m sm Mm P w):RestF w0 d p kk bf m sm Mm n sz M P w:=by
 obtain⟨X,N,O,F,a,b,c,e⟩:=h;exact⟨X,N,O,F,a,c,b,e.swap⟩
theorem RestF.low(h:RestF w0 d p kk bf n sz M m sm Mm P w){w':World}(hb:Below w.heap.size w w'):RestF w0 d p kk bf n sz M m sm Mm P w':=by
 obtain⟨X,N,O,F,a,r⟩:=h;exact⟨X,N,O,F,a.low hb,r⟩
structure FarF (w0:World) (P:Nat->Prop) (bf:Nat) (Z:Nat->Prop):Prop where
 hi:∀ x,Z x->w0.heap.size<=x
 ap:∀ x,P x->¬ Z x
 nf:¬ Z bf
theorem RestF.far(h:RestF w0 d p kk bf n sz M m sm Mm P w){Z Z':Nat->Prop}{w':World}(hc:Chg Z Z' w w')(hf:FarF w0 P bf Z):RestF w0 d p kk bf n sz M m sm Mm P w':=by
 obtain⟨X,N,O,F,a,r⟩:=h;exact⟨X,N,O,F,a.far hc hf.hi hf.ap hf.nf,r⟩
theorem AbF.far(h:AbF w0 d p kk bf n sz M m sm Mm P w){Z Z':Nat->Prop}{w':World}(hc:Chg Z Z' w w')(hf:FarF w0 P bf Z):AbF w0 d p kk bf n sz M m sm Mm P w':=by
 obtain⟨X,N,O,F,a,r⟩:=h;exact⟨X,N,O,F,a.far hc hf.hi hf.ap hf.nf,r⟩
theorem MidF.far(h:MidF w0 d p kk bf n sz M m sm Mm P w){Z Z':Nat->Prop}{w':World}(hc:Chg Z Z' w w')(hf:FarF w0 P bf Z):MidF w0 d p kk bf n sz M m sm Mm P w':=by
 obtain⟨X,N,O,F,N2,O2,F2,a,b,r⟩:=h;exact⟨X,N,O,F,N2,O2,F2,a.far hc hf.hi hf.ap hf.nf,b.farM hc hf.ap hf.nf,r⟩
theorem StartF.fs(h:StartF w0 d p kk bf n sz M m sm Mm P w):FsAt w bf p:=by
 obtain⟨X,N,O,F,a,_⟩:=h;exact a.fs
theorem AbF.fs(h:AbF w0 d p kk bf n sz M m sm Mm P w):FsAt w bf p:=by
 obtain⟨X,N,O,F,a,_⟩:=h;exact a.fs
theorem MidF.fs(h:MidF w0 d p kk bf n sz M m sm Mm P w):FsAt w bf p:=by
 obtain⟨X,N,O,F,N2,O2,F2,a,_⟩:=h;exact a.fs
theorem RestF.fs(h:RestF w0 d p kk bf n sz M m sm Mm P w):FsAt w bf p:=by
 obtain⟨X,N,O,F,a,_⟩:=h;exact a.fs
theorem RestF.be(h:RestF w0 d p kk bf n sz M m sm Mm P w):Below w0.heap.size w0 w:=by
 obtain⟨X,N,O,F,a,_⟩:=h;exact a.be
theorem StartF.ab(h:StartF w0 d p kk bf n sz M m sm Mm P w):AbF w0 d p kk bf n sz M m sm Mm P w:=by
 obtain⟨X,N,O,F,a,_,r⟩:=h;exact⟨_,N,O,F,a,r⟩
theorem StartF.mid(h:StartF w0 d p kk bf n sz M m sm Mm P w):MidF w0 d p kk bf n sz M m sm Mm P w:=by
 obtain⟨X,N,O,F,a,b,r⟩:=h;exact⟨_,N,O,F,N,O,F,a,b,r⟩
theorem StartF.rd(h:StartF w0 d p kk bf n sz M m sm Mm P w):∃ X N O F,Frd w P d p X (newS kk) N O kk F bf/\Fat X.cur N F n sz M:=by
 obtain⟨X,N,O,F,a,b,c,r⟩:=h;exact⟨_,N,O,F,b.rd,by rw[b.cur];exact c⟩
theorem RestF.rd(h:RestF w0 d p kk bf n sz M m sm Mm P w):∃ X N O F,Frd w P d p X (newS kk) N O kk F bf/\Fat X.cur N F n sz M:=by
 obtain⟨X,N,O,F,a,c,r⟩:=h;exact⟨_,N,O,F,a.rd,by unfold XSt.cur;rw[a.wi];exact c⟩
theorem RestF.begin(h:RestF w0 d p kk bf n sz M m sm Mm P w):Calls Tryz.prog 18 #[p] w fun e w'=>e=.returned (.int .i64 0)/\∃ P',StartF w0 d p kk bf n sz M m sm Mm P' w'/\Chg P P' w w':=by
 obtain⟨X,N,O,F,a,r⟩:=h;exact a.begin.mono fun e w' ⟨he,P',b,c,hc⟩=>⟨he,P',⟨X,N,O,F,b,c,r⟩,hc⟩
theorem MidF.keep(h:MidF w0 d p kk bf n sz M m sm Mm P w):Calls Tryz.prog 21 #[p,.bool true] w fun e w'=>e=.returned (.int .i64 0)/\∃ P',RestF w0 d p kk bf n sz M m sm Mm P' w'/\Chg P P' w w':=by
 obtain⟨X,N,O,F,N2,O2,F2,a,b,c1,c2,c3⟩:=h;exact(a.keep b).mono fun e w' ⟨he,P',X',hd,hx,hc⟩=>⟨he,P',⟨X',N2,O2,F2,hd,by rw[hx];exact c1,by rw[hx];exact c2,c3⟩,hc⟩
theorem AbF.undo(h:AbF w0 d p kk bf n sz M m sm Mm P w):Calls Tryz.prog 21 #[p,.bool false] w fun e w'=>e=.returned (.int .i64 0)/\∃ P',RestF w0 d p kk bf n sz M m sm Mm P' w'/\Chg P P' w w':=by
 obtain⟨X,N,O,F,a,c1,c2,c3⟩:=h;exact a.undo.mono fun e w' ⟨he,P',X',hd,hx,hc⟩=>⟨he,P',⟨X',N,O,F,hd,by rw[hx];exact c1,by rw[hx];exact c2,c3⟩,hc⟩
theorem StartF.flt(h:StartF w0 d p kk bf n sz M m sm Mm P w)(h4:kk<5):∃ X N O F Q,Fsm w0 w P d p (callX X) (newS kk) N O kk F bf/\Flt w P d p (callX X) (newS kk) N O kk F bf n sz M Q/\Q.length<=10/\Fat X.is N F n sz M/\Fat X.is N F m sm Mm/\CntF O kk M Mm:=by
 obtain⟨X,N,O,F,a,b,c1,c2,c3⟩:=h;refine⟨X,N,O,F,baseQ (newS kk) kk n (num (N.getD n []) 13),a,⟨b,c1,put_none _ _,baseQ_ok _ _ _ _,?_⟩,by rw[baseQ_len];omega,c1,c2,c3⟩;have h1:=c3.1;have h2:=c3.2;omega
theorem FlO.mid{X:XSt}{N:List (List Int)}{O:List (Int × Int)}{F:Nat->List Int}{Q:List Int}{sz' k:Nat}{M':Nat->Option (List Int)}{w':World}(hnm:NM n m)
 (a:Fsm w0 w P d p (callX X) (newS kk) N O kk F bf) (f:Flt w P d p (callX X) (newS kk) N O kk F bf n sz M Q) (c2:Fat X.is N F m sm Mm) (c3:CntF O kk M Mm) (ho:FlO w P d p (callX X) (newS kk) N O kk F bf n Q sz' M' k noR w') (hr:48+Zar M'+Zar Mm<=62*kk):
 ∃ P',MidF w0 d p kk bf n sz' M' m sm Mm P' w'/\Chg P P' w w':=by
 obtain⟨P',X',N',O',F',Q',g,b,_,_,hc,_⟩:=ho;have h1:=f.cnt g.ft b;have h2:=c3.1;exact⟨P',⟨X',N,O,F,N',O',F',a.next g.md.inv g.md.wi b.on hc,g.md,g.ft,b.ot m sm Mm hnm.2.2.2.2 (by have:=hnm.2.2.1;omega) (by have:=hnm.2.2.2.1;omega) c2,by omega,hr⟩,hc⟩
theorem StartF.write(h:StartF w0 d p kk bf n sz M m sm Mm P w)(h4:kk<5)(hnm:NM n m){v:Value}{l:List Int}(hv:BSl w v l)(hap:Apt P v){a C:Nat}(hC:C=min l.length 1024)(hl:l.length<=9223372036854775807)(hx:a+C<=35328):
 Calls Tryz.prog 19 #[.pointer (some ⟨bf,0,none⟩),.int .i64 n,.int .i64 a,v] w fun e w'=>
  (e=.returned (.tuple #[.int .i64 C,.int .i64 0])/\48+Zar (wrL M a (l.take C))+Zar Mm<=62*kk/\∃ P',MidF w0 d p kk bf n (if C=0 then sz else max sz (a+C)) (wrL M a (l.take C)) m sm Mm P' w'/\Chg P P' w w')\/
  (e=.returned (.tuple #[.int .i64 0,.int .i64 13])/\¬ 48+Zar (wrL M a (l.take C))+Zar Mm<=62*kk/\∃ P',AbF w0 d p kk bf n sz M m sm Mm P' w'/\Chg P P' w w'):=by
 obtain⟨X,N,O,F,Q,a1,f,hq,c1,c2,c3⟩:=h.flt h4;have hsp:=spN_le (a:=a) (n:=C) (by omega);have hcn:=c3.1;refine(flWrite_of f (by have:=hnm.1;omega) (by have:=hnm.2.1;omega) hv hap hC hl (by omega) hx).mono ?_;rintro e w' (⟨he,hfit,ho⟩| ⟨he,hn,P',X',N',O',F',hm,hon,hc⟩)
 . have hf:48+Zar (wrL M a (l.take C))+Zar Mm<=62*kk:=by unfold Zgn at hfit;omega
   exact .inl ⟨he,hf,FlO.mid hnm a1 f c2 c3 ho hf⟩
 . refine .inr ⟨he,fun hf=>hn ?_,P',⟨X',N,O,F,a1.next hm.inv hm.wi hon hc,?_,?_,c3⟩,hc⟩
   . unfold Zgn;omega
   . rw[hon.1];exact c1
   . rw[hon.1];exact c2
theorem StartF.resize(h:StartF w0 d p kk bf n sz M m sm Mm P w)(h4:kk<5)(hnm:NM n m){v:Nat}(hv:v<=35328):
 Calls Tryz.prog 20 #[.pointer (some ⟨bf,0,none⟩),.int .i64 n,.int .i64 v] w fun e w'=>e=.returned (.int .i64 0)/\∃ P',MidF w0 d p kk bf n v (rsB M v) m sm Mm P' w'/\Chg P P' w w':=by
 obtain⟨X,N,O,F,Q,a1,f,hq,c1,c2,c3⟩:=h.flt h4;refine(flResize_of f (by have:=hnm.1;omega) (by have:=hnm.2.1;omega) (by omega) hv).mono ?_;rintro e w' ⟨he,ho⟩;refine⟨he,FlO.mid hnm a1 f c2 c3 ho ?_⟩;have h1:Zar (rsB M v)<=Zar M:=Zft fun i _ e=>by
  unfold rsB at e;split at e
  . cases e
  . rw[Option.isSome_map] at e;exact e
 have:=c3.2;omega
theorem Fsd.rest{X:XSt}(h:Fsd w0 w P d p X (newS kk) (N14 2) (newO kk) kk F14 bf)(h1:1<=kk)(h4:kk<5):RestF w0 d p kk bf 2 0 (fun _=>none) 3 0 (fun _=>none) P w:=by
 have hc:=cnt_new kk h4 h1;have h0:Zar (fun _=>none)=0:=by decide
 exact⟨X,_,_,_,h,new_fat _ (by decide) (by decide),new_fat _ (by decide) (by decide),by rw[hc,h0],by rw[h0];omega⟩
end
end Go.Proofs.YtedabomlfcghoaaGreat
namespace Go.Proofs.YtedabomlfcghoaaGreat
set_option maxRecDepth 100000
open Go.RowKit Go.Maps
def sdB(v:Value):Option (DataW Unit × List MemPlace):=match v with |.string s=>some (.lit (.string s.data.toList),[])|_=>none
theorem sdB_some(s:ByteArray):sdB (.string s)=some (.lit (.string s.data.toList),[]):=rfl
theorem sdB_cases{v:Value}{y:DataW Unit × List MemPlace}(h:sdB v=some y):∃ s:ByteArray,v=.string s/\y=(.lit (.string s.data.toList),[]):=by
 unfold sdB at h;split at h
 . exact⟨_,rfl,(Option.some.inj h).symm⟩
 . cases h
theorem sdB_inj{v v':Value}{d:DataW Unit}{ps ps':List MemPlace}(h:sdB v=some (d,ps))(h':sdB v'=some (d,ps')):v=v':=by
 obtain⟨s,rfl,e⟩:=sdB_cases h;obtain⟨s',rfl,e'⟩:=sdB_cases h';have e1:=(Prod.mk.inj e).1.symm.trans (Prod.mk.inj e').1;simp only[DataW.lit.injEq,Lit.string.injEq] at e1;obtain⟨⟨l⟩⟩:=s;obtain⟨⟨l'⟩⟩:=s';simp only at e1;rw[e1]
def MpC(w:World)(b:Nat)(N:List Int)(g:Int->Value):Prop:=
 ∃ D:DataW Unit,w.ownsMap Tryz.prog 3 sdB b N.length D/\N.Nodup/\(∀ x∈N,(Lit.int .i64 x).wf=true)/\(∀ x,Maps.has D (.int .i64 x)=decide (x∈N))/\∀ x∈N,∃ d,sdB (g x)=some (d,[])/\∀ z,D.atKey (.int .i64 x) z=d
theorem infoStB:(Tryz.prog.info? 9).map (fun i=>(i.zero,i.size,i.bytes))=some (some (.string ⟨#[]⟩),1,16):=by kernel_rfl
theorem zeroStB(w:World):(zeroValue 9).run Tryz.prog w=.ok (.string ⟨#[]⟩) w:=by
 obtain⟨t,h2,h3,_⟩:=info_parts infoStB;simp[zeroValue,typeInfo,h2,h3,Result.andThen]
theorem ownsB_tight{w:World}{b n:Nat}{D:DataW Unit}(h:w.ownsMap Tryz.prog 3 sdB b n D):w.ownsMap Tryz.prog 3 sdB b (Maps.size D) D:=by
 obtain⟨es,clock,hb,F,hs,rfl⟩:=h;exact⟨es,clock,hb,F,Nat.le_of_eq (by unfold Maps.size;exact(length_read es).symm),rfl⟩
theorem ownsB_size{w:World}{b n:Nat}{D:DataW Unit}(h:w.ownsMap Tryz.prog 3 sdB b n D){N:List Int}(hN:N.Nodup)(hh:∀ x,Maps.has D (.int .i64 x)=decide (x∈N)):N.Perm (intKeys D)/\Maps.size D=N.length:=by
 obtain⟨es,rfl,hp,_⟩:=h.entries iKeyed;have hk:∀ p∈es,∃ x,p.1=.int .i64 x:=fun p hp'=>by
  obtain⟨es',e1,_,k⟩:=h.canonK iKeyed;cases e1
  obtain⟨v,hv⟩:=k p hp';obtain⟨x,_,e,_⟩:=Maps.keyOf_i64 Tryz.underlying3 hv;exact⟨x,e⟩
 have hperm:=perm_intKeys hp hk hN (fun x=>by rw[hh x,decide_eq_true_eq]);refine⟨hperm,?_⟩;have:=hperm.length_eq;rw[this];show es.length=(es.map fun p=>_root_.Go.intOf p.1).length
 rw[List.length_map]
theorem ownsB_mp{w:World}{b n:Nat}{D:DataW Unit}(h:w.ownsMap Tryz.prog 3 sdB b n D){N:List Int}{g:Int->Value}(hN:N.Nodup)(hw:∀ x∈N,(Lit.int .i64 x).wf=true)(hh:∀ x,Maps.has D (.int .i64 x)=decide (x∈N))(hg:∀ x∈N,∃ d,sdB (g x)=some (d,[])/\∀ z,D.atKey (.int .i64 x) z=d):MpC w b N g:=by
 obtain⟨_,e⟩:=ownsB_size h hN hh;have h':=ownsB_tight h;rw[e] at h';exact⟨D,h',hN,hw,hh,hg⟩
section
variable {w:World}{b:Nat}{N:List Int}{g:Int->Value}
theorem MpC.lt(h:MpC w b N g):b<w.heap.size:=by
 obtain⟨D,h,_⟩:=h;exact h.lt
theorem MpC.keep{w':World}(h:MpC w b N g)(hk:w'.heap[b]? =w.heap[b]?):MpC w' b N g:=by
 obtain⟨D,⟨es,clock,hb,r⟩,r'⟩:=h;exact⟨D,⟨es,clock,hk.trans hb,r⟩,r'⟩
theorem MpC.not_cells(h:MpC w b N g){k:Nat}{cs:Array Value}{T:TypeId}{z:Nat × Nat}(hk:w.heap[k]? =some (.cells cs T z)):b≠k:=fun e=>by
 obtain⟨D,⟨es,clock,hb,_⟩,_⟩:=h;rw[e,hk] at hb;cases hb
theorem MpC.nodup(h:MpC w b N g):N.Nodup:=by obtain⟨_,_,h,_⟩:=h;exact h
theorem MpC.made(w:World)(g:Int->Value):MpC (w.alloc (.map #[] 0)) w.heap.size [] g:=
 ⟨.map [],World.ownsMap_made w _ _ _,List.nodup_nil,fun x hx=>absurd hx List.not_mem_nil,fun x=>rfl,fun x hx=>absurd hx List.not_mem_nil⟩
theorem MpC.look_ok(h:MpC w b N g){x:Int}(hx:(Lit.int .i64 x).wf=true):(Instr.lookup 50 (.map (some b)) (.int .i64 x) true).run Tryz.prog w=.ok (.tuple #[if x∈N then g x else .string ⟨#[]⟩,.bool (decide (x∈N))]) w:=by
 obtain⟨D,⟨es,clock,hb,F,hs,rfl⟩,h2,h3,h4,h5⟩:=h;rcases Maps.fit_look true iKeyed Tryz.underlying50 (zeroStB w) hb F (ikey hx) with⟨hrun,hno,hat⟩| ⟨e0,y,he0,hk,hrun,hRv,hat,_⟩
 . have hn:x ∉ N:=fun hin=>by
    obtain⟨d,hd,ha⟩:=h5 x hin;have e1:=(hat .nil).symm.trans (ha .nil);have e2:=(hat (.lit (.bool true))).symm.trans (ha (.lit (.bool true)));rw[<- e1] at e2;cases e2
   rw[if_neg hn,decide_eq_false hn];exact hrun
 . have hn:x∈N:=by
    have:=h4 x;rw[Maps.has_true_of_atKey hat] at this;exact of_decide_eq_true this.symm
   rw[if_pos hn,decide_eq_true hn];obtain⟨d,hd,ha⟩:=h5 x hn;have e1:y.1=d:=(hat .nil).symm.trans (ha .nil);have:e0.val=g x:=sdB_inj (ps:=y.2) (by rw[hRv,<- e1]) hd;rw[<- this];exact hrun
theorem MpC.store(h:MpC w b N g){x:Int}(hx:(Lit.int .i64 x).wf=true){v:Value}{d:DataW Unit}(hv:sdB v=some (d,[]))(hN:N.length<1000000):
 ∃ w',(Instr.mapUpdate 50 (.map (some b)) (.int .i64 x) v).run Tryz.prog w=.ok () w'/\MpC w' b (addS N x) (fun y=>if y=x then v else g y)/\w.grownBy w' (some b)/\w'.heap.size=w.heap.size:=by
 obtain⟨D,h1,h2,h3,h4,h5⟩:=h;have hlt:N.length<maxLen:=by simp only[maxLen];omega
 have hm:=h1.isMap;have hkl:WideAt.IsKeyLit (.int .i64 x):=iKeyed.key (ikey hx);obtain⟨w',hrun,h6,hg,ht⟩:∃ w',(Instr.mapUpdate 50 (.map (some b)) (.int .i64 x) v).run Tryz.prog w=.ok () w'/\w'.ownsMap Tryz.prog 3 sdB b (N.length+1) (D.put (.int .i64 x) d)/\w.grownBy w' (some b)/\w'.heap.size=w.heap.size:=by
  obtain⟨w',hrun,h6,h7⟩:=h1.store iKeyed Tryz.underlying50 hlt (ikey hx) hv;exact⟨w',hrun,h6,h7.grown,by obtain⟨_,_,_,_,_,rfl⟩:=h7;simp[ChangeMaps.setBlock]⟩
 refine⟨w',hrun,ownsB_mp h6 ?_ ?_ ?_ ?_,hg,ht⟩
 . unfold addS
   split
   . exact h2
   . rename_i hn
     exact List.nodup_append.2 ⟨h2,by simp,fun a ha c hc e=>hn (by simp at hc;rw[<- hc,<- e];exact ha)⟩
 . intro y hy
   unfold addS at hy;split at hy
   . exact h3 y hy
   . rcases List.mem_append.1 hy with hy|hy
     . exact h3 y hy
     . simp at hy;subst hy;exact hx
 . intro y
   have hmem:y∈addS N x ↔ y∈N\/y=x:=by
    unfold addS;split
    . exact⟨.inl,fun h=>h.elim id fun e=>by rw[e];assumption⟩
    . simp
   by_cases e:y=x
   . subst e
     rw[Maps.has_put_same hm hkl,decide_eq_true (hmem.2 (.inr rfl))]
   . rw[Maps.has_put_other (fun e'=>e (by cases e';rfl)),h4 y]
     exact decide_eq_decide.2 ⟨fun h=>hmem.2 (.inl h),fun h=>(hmem.1 h).resolve_right e⟩
 . intro y hy
   by_cases e:y=x
   . subst e
     exact⟨d,by rw[if_pos rfl];exact hv,fun z=>Maps.atKey_put_same hm hkl d z⟩
   . have hy':y∈N:=by
      unfold addS at hy;split at hy
      . exact hy
      . exact(List.mem_append.1 hy).resolve_right fun h=>e (by simpa using h)
     obtain⟨d',hd',ha'⟩:=h5 y hy';exact⟨d',by rw[if_neg e];exact hd',fun z=>by rw[Maps.atKey_put_other (fun e'=>e (by cases e';rfl))];exact ha' z⟩
theorem MpC.drop(h:MpC w b N g){x:Int}(hx:(Lit.int .i64 x).wf=true)(ty:TypeId):
 ∃ w',(Builtin.delete_ #[50,3] ty #[.map (some b),.int .i64 x]).run Tryz.prog w=.ok (.tuple #[]) w'/\MpC w' b (N.erase x) g/\w.grownBy w' (some b)/\w'.heap.size=w.heap.size:=by
 obtain⟨D,h1,h2,h3,h4,h5⟩:=h;have hm:=h1.isMap;have hkl:WideAt.IsKeyLit (.int .i64 x):=iKeyed.key (ikey hx);have hti:=h1.tidy iKeyed;obtain⟨w',hrun,h6,h7⟩:=h1.drop iKeyed Tryz.underlying50 (ikey hx) ty;have hmem:∀ y,y∈N.erase x ↔ y≠x/\y∈N:=fun y=>h2.mem_erase_iff
 refine⟨w',hrun,ownsB_mp h6 (h2.erase x) (fun y hy=>h3 y ((hmem y).1 hy).2) (fun y=>?_) (fun y hy=>?_),h7.grown,by obtain⟨_,_,_,_,_,rfl⟩:=h7;simp[ChangeMaps.setBlock]⟩
 . by_cases e:y=x
   . subst e
     rw[Maps.has_del_same,decide_eq_false (fun h=>((hmem y).1 h).1 rfl)]
   . rw[Maps.has_del_other (fun e'=>e (by cases e';rfl)),h4 y]
     exact decide_eq_decide.2 ⟨fun h=>(hmem y).2 ⟨e,h⟩,fun h=>((hmem y).1 h).2⟩
 . obtain⟨d,hd,ha⟩:=h5 y ((hmem y).1 hy).2
   exact⟨d,hd,fun z=>by rw[Maps.atKey_del_other (fun e'=>((hmem y).1 hy).1 (by cases e';rfl))];exact ha z⟩
end
end Go.Proofs.YtedabomlfcghoaaGreat
