/- What the law rests on: part 26. -/
import Derived.Test.YtedabomlfcghoaaGreatKF25
set_option linter.unusedVariables false
namespace Go.Proofs.YtedabomlfcghoaaGreat
set_option maxRecDepth 100000
open Go.RowKit BM
section
variable {w:World}{P:Nat->Prop}{d p:Value}{X:XSt}{S:List Int}{N:List (List Int)}{O:List (Int × Int)}{kk:Nat}{F:Nat->List Int}{bf n sz:Nat}{M:Nat->Option (List Int)}{Q:List Int}
def WrK (w3:World) (P:Nat->Prop) (d p:Value) (X:XSt) (S:List Int) (N:List (List Int)) (O:List (Int × Int)) (kk:Nat) (F:Nat->List Int) (bf n sz:Nat) (M:Nat->Option (List Int)) (Q:List Int) (a C:Nat) (l:List Int) (k:Nat) (wr:World):Prop:=
 FlO w3 P d p X S N O kk F bf n Q sz (wrL M a (l.take (dnS a C k))) (2*k) noR wr
theorem fits_last {O1:List (Int × Int)}{M1 M2 M3:Nat->Option (List Int)} (hc:cntU O1 (64*kk)+usedB M=cntU O (64*kk)+usedB M1) (hm:usedB M2<=usedB M3) (hn:¬ fitsB O1 kk M1 M2):¬ fitsB O kk M M3:=by
 unfold fitsB at hn |-
 omega
theorem WrK.step {w3 wr V:World}{a C k:Nat}{l:List Int} (h3:Flt w3 P d p X S N O kk F bf n sz M Q) (h:WrK w3 P d p X S N O kk F bf n sz M Q a C l k wr) (h1:1<=n) (h48:n<48) (hV:Below wr.heap.size wr V) (hk:k<spN a C) (hQ:Q.length+2*spN a C<=34) (hC:C<=l.length) (hx:a+C<=35328)
 (hby:Byt l) {u:Value} (hu:BSl w3 u ((l.drop (dnS a C k)).take (C-dnS a C k))) (hap:Apt P u):
 (Calls Tryz.prog 38 #[.pointer (some ⟨bf,0,none⟩),.int .i64 n,.agg #[.int .i64 ((a / 256+k:Nat):Int),.int .i64 (((a+dnS a C k)%256:Nat):Int),.int .i64 (((a+dnS a C k)%256+(dnS a C (k+1)-dnS a C k):Nat):Int)],u] V fun e w'=>e=.returned (.int .i64 0)/\WrK w3 P d p X S N O kk F bf n sz M Q a C l (k+1) w'/\∀ b,wr.heap.size<=b->b<V.heap.size->w'.heap[b]? =V.heap[b]?)\/
 (Calls Tryz.prog 38 #[.pointer (some ⟨bf,0,none⟩),.int .i64 n,.agg #[.int .i64 ((a / 256+k:Nat):Int),.int .i64 (((a+dnS a C k)%256:Nat):Int),.int .i64 (((a+dnS a C k)%256+(dnS a C (k+1)-dnS a C k):Nat):Int)],u] V fun e w'=>e=.returned (.int .i64 13)/\¬ fitsB O kk M (wrL M a (l.take C))/\FlE w3 P d p X S kk bf w'):=by
 obtain ⟨P1,X1,N1,O1,F1,Q1,a1',b1,c1,d1,f1',_⟩:=h
 have hlt1:=a1'.md.inv.lt
 have a1:=a1'.low hV
 have f1:=f1'.trans (Chg.of_below (P:=P1) hV)
 obtain ⟨s1,s2,s3,s4⟩:=dnS_step hk
 have hle:=dnS_le a C (k+1)
 have hlt:=hu.chg hap f1
 obtain ⟨D,hD⟩:∃ D,D=dnS a C k:=⟨_,rfl⟩
 obtain ⟨E,hE⟩:∃ E,E=dnS a C (k+1):=⟨_,rfl⟩
 rw[<- hD] at s1 s2 s3 s4 a1 hu hlt |-
 rw[<- hE] at s2 s3 hle |-
 unfold WrK
 rw[<- hE]
 have hlen:((l.drop D).take (C-D)).length=C-D:=by rw[List.length_take,List.length_drop];omega
 have htk:((l.drop D).take (C-D)).take (E-D)=(l.drop D).take (E-D):=by rw[List.take_take,Nat.min_eq_left (by omega)]
 have hl1:(l.take D).length=D:=by rw[List.length_take];omega
 have hM:updB (wrL M a (l.take D)) (a / 256+k) (splice (bkB (wrL M a (l.take D)) (a / 256+k)) ((a+D)%256) ((l.drop D).take (E-D)))=wrL M a (l.take E):=by
  have e1:l.take E=l.take D ++ (l.drop D).take (E-D):=by
   rw[show E=D+(E-D) by omega,List.take_add,show D+(E-D)-D=E-D by omega]
  have e2:((l.drop D).take (E-D)).length=E-D:=by rw[List.length_take,List.length_drop];omega
  rw[e1,wrL_append,hl1,wrL_block _ _ (a+D) (a / 256+k) ((a+D)%256) (by omega) (by omega) (by omega) a1.ft.ok (byt_take (byt_drop hby D) _)]
 by_cases hf:fitsB O1 kk (wrL M a (l.take D)) (updB (wrL M a (l.take D)) (a / 256+k) z256)
 · refine .inl ((flWriteSpan_ok a1 h1 h48 (by omega) (i:=a / 256+k) (o:=(a+D)%256) (m:=E-D) (by omega) (by omega) (by omega) hlt.1 hlt.2 (by rw[hlen];omega) hf).mono ?_)
   rintro e w' ⟨he,ho⟩
   rw[htk,hM] at ho
   obtain ⟨P',X',N',O',F',Q',a2,b2,c2,d2,f2,g2⟩:=ho
   exact ⟨he,⟨P',X',N',O',F',Q',a2,b1.trans b2,fun x hx=>c2 x (c1 x hx),by omega,f1.trans f2,g2⟩,fun b hb1 hb2=>(f2.keep b hb2 fun hp=>by have:=hlt1 b hp;omega).1⟩
 · refine .inr ((flWriteSpan_no a1 h1 h48 (by omega) (i:=a / 256+k) (by omega) hf).mono ?_)
   rintro e w' ⟨he,P',X',N',O',F',hm,hon,hg⟩
   refine ⟨he,fits_last (h3.cnt a1.ft b1) ?_ hf,P',X',N',O',F',hm,b1.on.trans hon,f1.trans hg⟩
   rw[usedB_upd _ _ z256 (splice (bkB (wrL M a (l.take D)) (a / 256+k)) ((a+D)%256) ((l.drop D).take (E-D))),hM]
   have e3:l.take C=l.take E ++ (l.drop E).take (C-E):=by
    rw[show C=E+(C-E) by omega,List.take_add,show E+(C-E)-E=C-E by omega]
   rw[e3,wrL_append]
   exact usedB_mono fun i _ h=>some_wrL _ _ _ i h
def WrO (w:World) (P:Nat->Prop) (d p:Value) (X:XSt) (S:List Int) (N:List (List Int)) (O:List (Int × Int)) (kk:Nat) (F:Nat->List Int) (bf n sz:Nat) (M:Nat->Option (List Int)) (Q:List Int) (a C:Nat) (l:List Int) (e:Ending) (w':World):Prop:=
 (e=.returned (.tuple #[.int .i64 C,.int .i64 0])/\fitsB O kk M (wrL M a (l.take C))/\FlO w P d p X S N O kk F bf n Q (if C=0 then sz else max sz (a+C)) (wrL M a (l.take C)) (2*spN a C) noR w')\/
 (e=.returned (.tuple #[.int .i64 0,.int .i64 13])/\¬ fitsB O kk M (wrL M a (l.take C))/\FlE w P d p X S kk bf w')
theorem WrK.last {w3:World}{a C:Nat}{l:List Int} (h3:Flt w3 P d p X S N O kk F bf n sz M Q) {wr:World} (h:WrK w3 P d p X S N O kk F bf n sz M Q a C l (spN a C) wr) (h1:1<=n) (h48:n<48) (hQ:Q.length+2*spN a C<=34) (hx:a+C<=35328):
 fitsB O kk M (wrL M a (l.take C))/\(¬ (0<C/\sz<a+C)->FlO w3 P d p X S N O kk F bf n Q (if C=0 then sz else max sz (a+C)) (wrL M a (l.take C)) (2*spN a C) noR wr)/\
 (0<C/\sz<a+C->Calls Tryz.prog 39 #[.pointer (some ⟨bf,0,none⟩),.int .i64 n,.int .i64 ((a+C:Nat):Int)] wr fun e w'=>e=.returned (.int .i64 0)/\FlO w3 P d p X S N O kk F bf n Q (if C=0 then sz else max sz (a+C)) (wrL M a (l.take C)) (2*spN a C) noR w'):=by
 unfold WrK at h
 rw[dnS_end] at h
 refine ⟨?_,fun hn=>?_,fun hy=>?_⟩
 · obtain ⟨P1,X1,N1,O1,F1,Q1,a1,b1,_⟩:=h
   have h4:=h3.cnt a1.ft b1
   have h5:=a1.rm
   unfold fitsB
   omega
 · have e:(if C=0 then sz else max sz (a+C))=sz:=by split <;> omega
   rw[e]
   exact h
 · obtain ⟨P1,X1,N1,O1,F1,Q1,a1,b1,c1,d1,f1,_⟩:=h
   refine (a1.size h1 h48 (by omega) hx).mono ?_
   rintro e w' ⟨he,ho⟩
   have e2:(if C=0 then sz else max sz (a+C))=a+C:=by rw[if_neg (by omega)];omega
   rw[e2]
   exact ⟨he,FlO.then (k:=0) b1 c1 d1 f1 ho⟩
set_option maxHeartbeats 4000000 in
theorem flWrite_of (h:Flt w P d p X S N O kk F bf n sz M Q) (h1:1<=n) (h48:n<48) {v:Value}{l:List Int} (hv:BSl w v l) (hap:Apt P v) {a C:Nat} (hC:C=min l.length 1024) (hl:l.length<=9223372036854775807) (hQ:Q.length+2*spN a C<=34) (hx:a+C<=35328):
 Calls Tryz.prog 19 #[.pointer (some ⟨bf,0,none⟩),.int .i64 n,.int .i64 a,v] w (WrO w P d p X S N O kk F bf n sz M Q a C l):=by
 have KF0:=flFind_yes h.md.rd h1 h48 h.ft.k0
 have hx14:=h.md.pl.tab.n.get h48
 have hsz:=h.ft.zs
 have hsb:=h.ft.sb
 have HN:Hid (∀ (w3:World),Below w.heap.size w w3->Flt w3 P d p X S N O kk F bf n sz M Q/\BSl w3 v l/\∀ k,P k->k<w.heap.size):=Lib.hid fun w3 hb=>⟨h.low hb,hv.below hb,h.md.inv.lt⟩
 have HBY:=Lib.hid hv.1
 obtain ⟨ao,cap,rfl,hcap⟩:=hv.shape
 have HSL:Hid (0<C->∃ ub uo,ao=some ⟨ub,uo,none⟩):=Lib.hid fun h0=>by
  obtain ⟨ub,uo,uc,e,_⟩:=hv.open' (by omega)
  exact ⟨ub,uo,(Value.slice.inj e).1⟩
 have HAP:=Lib.hid hap
 obtain ⟨x,hxx⟩:∃ x,x=N.getD n []:=⟨_,rfl⟩
 rw[<- hxx] at KF0 hx14 hsz
 obtain ⟨kd,ln,sz',d0,d1,d2,d3,d4,d5,d6,d7,d8,d9,mp,rfl⟩:=l14_ex hx14
 have hsz2:sz'=(sz:Int):=hsz
 subst hsz2
 have KF:Hid (Calls Tryz.prog 32 #[.pointer (some ⟨bf,0,none⟩),.int .i64 n] w fun e w'=>e=.returned (.tuple #[.agg #[.int .i64 kd,.int .i64 ln,.int .i64 sz,.int .i64 d0,.int .i64 d1,.int .i64 d2,.int .i64 d3,.int .i64 d4,.int .i64 d5,.int .i64 d6,.int .i64 d7,.int .i64 d8,.int .i64 d9,.int .i64 mp],.int .i64 0])/\Below w.heap.size w w'):=Lib.hid KF0
 have KS:=Lib.hid (fun V=>flSpans_any (a:=a) (K:=C) (Z:=(C:Int)) (.inl rfl) (by omega) (by omega) V)
 obtain ⟨L,hL⟩:∃ L,L=l.length:=⟨_,rfl⟩
 have HL:=Lib.hid hL
 have e1:(0:Int)<=(a:Int):=by omega
 have e2:min (L:Int) 1024=(C:Int):=by omega
 have e3:¬ (35328-(C:Int))<(a:Int):=by omega
 have eC:(C:Int)<=1024:=by omega
 have eL:(L:Int)<=9223372036854775807:=by omega
 have HCL:Hid (C<=l.length/\C<=L/\C<=1024):=Lib.hid (by omega)
 have HX:=Lib.hid hx
 have HQ:=Lib.hid hQ
 have hsb2:(sz:Int)<=35328:=by omega
 have HCAP:Hid (L<=cap):=Lib.hid (by omega)
 rw[<- hL]
 clear h hv hap KF0 hx14 hsz hxx hL hC hx hQ hcap hl
 go_enter Tryz.func19,Tryz.ntmps19
 go_wp2_with (first
  |(go_at_call 32;refine KF.out.mono ?_;rintro e w2 ⟨rfl,hb2⟩
    have hr2:=heap_alloc_new w2 (.cells #[.int .i64 kd,.int .i64 ln,.int .i64 sz,.int .i64 d0,.int .i64 d1,.int .i64 d2,.int .i64 d3,.int .i64 d4,.int .i64 d5,.int .i64 d6,.int .i64 d7,.int .i64 d8,.int .i64 d9,.int .i64 mp] 47)
    have hb3:=hb2.trans ((below_box w2 (.cells #[.int .i64 kd,.int .i64 ln,.int .i64 sz,.int .i64 d0,.int .i64 d1,.int .i64 d2,.int .i64 d3,.int .i64 d4,.int .i64 d5,.int .i64 d6,.int .i64 d7,.int .i64 d8,.int .i64 d9,.int .i64 mp] 47)).mono hb2.size)
    have hw2:=hb2.size)
  |(go_at_call 33;refine (KS.out _).mono ?_;rintro e w4 ⟨sv,rfl,hv4,hb4⟩;obtain ⟨so,scap,rfl,hcells⟩:=hv4))
 have hb34:=hb3.trans (hb4.mono hb3.size)
 obtain ⟨hf4,hv4,hPl⟩:=HN.out w4 hb34
 have hr4:=below_hold hr2 hb4
 have HNB:Hid (∀ wr P1,Chg P P1 w4 wr->wr.cell? ⟨w2.heap.size,2,none⟩=some (.int .i64 sz)):=Lib.hid fun wr P1 hg=>by
  have:=(hg.keep w2.heap.size (Array.getElem?_eq_some_iff.1 hr4).1 fun hp=>by have:=hPl _ hp;omega).1.trans hr4
  rw[cell_of_row _ _ _ _ _ _ this];rfl
 have HCE:Hid (∀ wr P1,Chg P P1 w4 wr->0<spN a C->∃ g,so=some ⟨g,0,none⟩/\∀ k,k<spN a C->wr.cell? ⟨g,k*3,none⟩=some (.int .i64 ((a / 256+k:Nat):Int))/\wr.cell? ⟨g,k*3+1,none⟩=some (.int .i64 (((a+dnS a C k)%256:Nat):Int))/\
  wr.cell? ⟨g,k*3+2,none⟩=some (.int .i64 (((a+dnS a C k)%256+(dnS a C (k+1)-dnS a C k):Nat):Int))):=Lib.hid fun wr P1 hg h0=>by
  obtain ⟨g,e,hgB,hgl,hc⟩:=hcells h0
  have hgp:¬ P g:=fun hp=>by have:=hPl _ hp;have:=hb3.size;omega
  refine ⟨g,e,fun k hk=>?_⟩
  obtain ⟨a0,a1,a2⟩:=hc k hk
  exact ⟨(hg.cell hgl hgp).trans a0,(hg.cell hgl hgp).trans a1,(hg.cell hgl hgp).trans a2⟩
 have H0:Hid (WrK w4 P d p X S N O kk F bf n sz M Q a C l 0 w4):=Lib.hid (by
  unfold WrK
  rw[dnS_zero,List.take_zero]
  exact hf4.here trivial)
 have KST:=Lib.hid (fun wr V k (h:WrK w4 P d p X S N O kk F bf n sz M Q a C l k wr) (hV:Below wr.heap.size wr V) (hk:k<spN a C) u (hu:BSl w4 u ((l.drop (dnS a C k)).take (C-dnS a C k))) (hap:Apt P u)=>WrK.step hf4 h h1 h48 hV hk HQ.out HCL.out.1 HX.out HBY.out hu hap)
 have KLA:=Lib.hid (fun wr (h:WrK w4 P d p X S N O kk F bf n sz M Q a C l (spN a C) wr)=>WrK.last hf4 h h1 h48 HQ.out HX.out)
 have HLO:Hid (∀ wr k,WrK w4 P d p X S N O kk F bf n sz M Q a C l k wr->∃ P1,Chg P P1 w4 wr):=Lib.hid fun wr k ⟨P1,X1,N1,O1,F1,Q1,a1,b1,c1,d1,f1,_⟩=>⟨P1,f1⟩
 have HLW:Hid (∀ wr wr' k,Below wr.heap.size wr wr'->WrK w4 P d p X S N O kk F bf n sz M Q a C l k wr->WrK w4 P d p X S N O kk F bf n sz M Q a C l k wr'):=Lib.hid fun wr wr' k hb ⟨P1,X1,N1,O1,F1,Q1,a1,b1,c1,d1,f1,r1⟩=>⟨P1,X1,N1,O1,F1,Q1,a1.low hb,b1,c1,d1,f1.trans (Chg.of_below hb),r1⟩
 have HW4:Hid (Below w.heap.size w w4):=Lib.hid hb34
 have HV4:=Lib.hid hv4
 have HDZ:=Lib.hid (dnS_zero a C)
 have HDS:=Lib.hid (fun k (hk:k<spN a C)=>dnS_step hk)
 have HDL:=Lib.hid (fun k=>dnS_le a C k)
 have HSC:Hid (0<spN a C->0<C):=Lib.hid fun h=>by
  have:=(dnS_step h).1;omega
 obtain ⟨c,hc⟩:∃ c,c=spN a C:=⟨_,rfl⟩
 rw[<- hc] at HCE KST KLA HDS HSC |-
 have HCC:=Lib.hid hc
 have HCB:Hid (c<=1000):=Lib.hid (by
  rw[hc]
  unfold spN
  have:=HCL.out
  split <;> omega)
 clear hb2 hb3 hb4 hb34 hf4 hv4 hPl hr2 hr4 hcells hw2 hc h1 h48
 go_loopw [13,40] (fun st i wr=>∃ k:Nat,k<=c/\i=.int .i64 k/\st=.int .i64 ((dnS a C k:Nat):Int)/\Hid (WrK w4 P d p X S N O kk F bf n sz M Q a C l k wr)) (fun _ i _=>c-(intOf i).toNat)
 case atStart=>exact ⟨0,Nat.zero_le _,rfl,by rw[HDZ.out];rfl,H0⟩
 case round=>
  obtain ⟨k,hk,rfl,rfl,HS⟩:=hrel
  clear H0
  by_cases hlt:k<c
  · obtain ⟨P1,hg1⟩:=HLO.out _ _ HS.out
    obtain ⟨g,rfl,hce⟩:=HCE.out _ _ hg1 (by omega)
    obtain ⟨c0,c1,c2⟩:=hce k hlt
    obtain ⟨s1,s2,s3,s4⟩:=HDS.out k hlt
    obtain ⟨ub,uo,rfl⟩:=HSL.out (HSC.out (by omega))
    have hdl:=HDL.out (k+1)
    have hb5:=below_box wr (.cells #[.int .i64 ((a / 256+k:Nat):Int),.int .i64 (((a+dnS a C k)%256:Nat):Int),.int .i64 (((a+dnS a C k)%256+(dnS a C (k+1)-dnS a C k):Nat):Int)] 78)
    have hu:BSl w4 (.slice (some ⟨ub,uo+dnS a C k,none⟩) (C-dnS a C k) (cap-dnS a C k)) ((l.drop (dnS a C k)).take (C-dnS a C k)):=by
     have h1:=HV4.out
     exact h1.mid _ _ (by have:=HCL.out;omega)
    have hap:Apt P (.slice (some ⟨ub,uo+dnS a C k,none⟩) (C-dnS a C k) (cap-dnS a C k)):=Apt.new (HAP.out _ _ _ rfl (by have:=HCL.out;omega))
    have hst:=KST.out wr _ k HS.out (hb5.trans ((Below.refl _ _).drew.mono hb5.size)) hlt _ hu hap
    have hr5:=heap_alloc_new wr (.cells #[.int .i64 ((a / 256+k:Nat):Int),.int .i64 (((a+dnS a C k)%256:Nat):Int),.int .i64 (((a+dnS a C k)%256+(dnS a C (k+1)-dnS a C k):Nat):Int)] 78)
    have HNEXT:Hid (dnS a C (k+1)=dnS a C k+(dnS a C (k+1)-dnS a C k)):=Lib.hid (by omega)
    have hc1024:=HCL.out.2.2
    have hcL:=HCL.out.2.1
    have hLc:=HCAP.out
    have HCC2:=HCC
    obtain ⟨D,hD⟩:∃ D,D=dnS a C k:=⟨_,rfl⟩
    obtain ⟨E,hE⟩:∃ E,E=dnS a C (k+1):=⟨_,rfl⟩
    rw[<- hD] at c1 c2 s1 s2 s3 hu hst hr5 HNEXT |-
    rw[<- hE] at c2 s2 s3 hdl hst hr5 HNEXT
    have HD:=Lib.hid hD
    have HE:=Lib.hid hE
    obtain ⟨f,hf⟩:∃ f,f=(a+D)%256:=⟨_,rfl⟩
    obtain ⟨q,hq⟩:∃ q,q=a / 256+k:=⟨_,rfl⟩
    rw[<- hf] at c1 c2 hst hr5
    rw[<- hq] at c0 hst hr5
    obtain ⟨t,ht⟩:∃ t,t=f+(E-D):=⟨_,rfl⟩
    rw[<- ht] at c2 hst hr5
    obtain ⟨W5,hW5⟩:∃ W5,W5=wr.alloc (.cells #[.int .i64 q,.int .i64 f,.int .i64 t] 78):=⟨_,rfl⟩
    have hsz5:W5.heap.size=wr.heap.size+1:=by rw[hW5];simp
    have HSZ5:=Lib.hid hsz5
    have H5:=Lib.hid hW5.symm
    rw[<- hW5] at hst hr5
    have HR5:=Lib.hid hr5
    have y0:W5.cell? ⟨wr.heap.size,0,none⟩=some (.int .i64 q):=by rw[cell_of_row _ _ _ _ _ _ hr5];rfl
    have y1:W5.cell? ⟨wr.heap.size,1,none⟩=some (.int .i64 f):=by rw[cell_of_row _ _ _ _ _ _ hr5];rfl
    have y2:W5.cell? ⟨wr.heap.size,2,none⟩=some (.int .i64 t):=by rw[cell_of_row _ _ _ _ _ _ hr5];rfl
    clear hW5 hsz5
    have HT:Hid (t-f=E-D/\f<=t/\t<=256):=Lib.hid (by omega)
    have hsl:∀ W,(Instr.slice 30 (.slice (some ⟨ub,uo,none⟩) L cap) (some (.int .i64 D)) (some (.int .i64 C)) none).run Tryz.prog W=.ok (.slice (some ⟨ub,uo+D,none⟩) (C-D) (cap-D)) W:=fun W=>run_slice_part W ub uo L cap D C _ (.inr rfl) (by omega) (by omega) (by omega)
    have ek:(k:Int)<(c:Int):=by omega
    have hft:f<=t:=by omega
    have ht2:t<=256:=by omega
    have hD2:D<=1024:=by omega
    clear s1 s2 s3 s4 hdl hu hap hD hE hf hq ht hce hg1 HS hb5 hr5
    have hcb2:=HCB.out
    rcases hst with hA|hB
    · have HA:=Lib.hid hA
      clear hA
      go_wp2
      rw[H5.out]
      go_still_tail 7,(by kernel_rfl)
      go_wp2_with (go_at_call 38;refine HA.out.mono ?_;rintro e w6 ⟨rfl,h6,hk6⟩
                   have HS6:=Lib.hid h6
                   have hr6:w6.heap[wr.heap.size]? =some (.cells #[.int .i64 q,.int .i64 f,.int .i64 t] 78 (0,0)):=(hk6 _ (Nat.le_refl _) (by show _<W5.heap.size;have:=HSZ5.out;omega)).trans HR5.out
                   have x1:w6.cell? ⟨wr.heap.size,1,none⟩=some (.int .i64 f):=by rw[cell_of_row _ _ _ _ _ _ hr6];rfl
                   have x2:w6.cell? ⟨wr.heap.size,2,none⟩=some (.int .i64 t):=by rw[cell_of_row _ _ _ _ _ _ hr6];rfl
                   clear h6 hk6 hr6)
      clear x1 x2
      have hk1:k+1<=c:=by omega
      go_roundw
      case rel=>exact ⟨k+1,hk1,by go_num,by rw[<- HE.out,HNEXT.out,<- HT.out.1];go_num,HS6⟩
      case measure=>simp[intOf];omega
    · have HB:=Lib.hid hB
      clear hB
      go_wp2
      rw[H5.out]
      go_still_tail 7,(by kernel_rfl)
      go_wp2_with (go_at_call 38;refine HB.out.mono ?_;rintro e w6 ⟨rfl,hn6,h6⟩)
      go_ret2
      exact .inr ⟨rfl,hn6,h6.widen HW4.out⟩
  · obtain rfl:k=c:=by omega
    obtain ⟨P1,hg1⟩:=HLO.out _ _ HS.out
    have cn:=HNB.out _ _ hg1
    obtain ⟨hfit,hno,hyes⟩:=KLA.out _ HS.out
    have HF:=Lib.hid hfit
    clear hfit hg1
    by_cases hC0:0<C
    · have eC0:(0:Int)<(C:Int):=by omega
      by_cases hgt:sz<a+C
      · have KZ:=Lib.hid (hyes ⟨hC0,hgt⟩)
        have e5:(sz:Int)<(a:Int)+(C:Int):=by omega
        have e6:(((a+C:Nat):Nat):Int)=(a:Int)+(C:Int):=by omega
        rw[e6] at KZ
        clear hno hyes hC0 hgt e6
        go_wp2_with (go_at_call 39;refine KZ.out.mono ?_;rintro e w7 ⟨rfl,h7⟩)
        go_ret2
        exact .inl ⟨rfl,HF.out,by have h8:=h7.widen HW4.out;rw[HCC.out] at h8;exact h8⟩
      · have HN7:=Lib.hid (hno (fun e=>hgt e.2))
        have e5:¬ (sz:Int)<(a:Int)+(C:Int):=by omega
        clear hno hyes hC0 hgt
        go_wp2
        go_ret2
        exact .inl ⟨rfl,HF.out,by have h8:=HN7.out.widen HW4.out;rw[HCC.out] at h8;exact h8⟩
    · have HN7:=Lib.hid (hno (fun e=>hC0 e.1))
      have eC0:¬ (0:Int)<(C:Int):=by omega
      clear hno hyes hC0
      go_wp2
      go_ret2
      exact .inl ⟨rfl,HF.out,by have h8:=HN7.out.widen HW4.out;rw[HCC.out] at h8;exact h8⟩
end
theorem new_fat (G:List (List Int)) {n:Nat} (h2:2<=n) (h3:n<=3):Fat G (N14 2) F14 n 0 fun _=>none:=by
 have hz:∀ i,i<139->locX ((N14 2).getD n []) (F14 n) i=0:=fun i hi=>n14_loc (by decide) (by omega) hi
 refine ⟨by rw[n14_kind (by decide) (by omega),if_neg (by omega),if_pos (by omega)],?_,by omega,fun i hi=>by rw[if_pos (hz i (by omega))],fun _ _=>rfl,?_,⟨fun i l e=>(by cases e),fun i l e=>(by cases e)⟩⟩
 · rw[n14_get 2 n (by decide),if_pos (by omega)];rfl
 · constructor
   · intro e;exact absurd (hz 138 (by decide)) e
   · rintro ⟨b,a1,a2,a3⟩;exact absurd (hz b (by omega)) a3
section
variable {kk:Nat}
set_option maxHeartbeats 1000000 in
theorem made15_of (h1:1<=kk) (h2:kk<=12) (w0:World) {w:World} (hb:Below w0.heap.size w0 w):
 Calls Tryz.prog 9 #[.int .i64 (64*(kk:Int))] w fun e w'=>∃ bf b P d X,e=.returned (.pointer (some ⟨bf,0,none⟩))/\Fsd w0 w' P d (.pointer (some ⟨b,0,none⟩)) X (newS kk) (N14 2) (newO kk) kk F14 bf:=by
 have KS:=Lib.hid (start13 h1 h2 w0 hb)
 have HB:Hid (∀ (V:World) (P:Nat->Prop) (d:Value) (b bf:Nat) (X:XSt),Tsd w0 V P d (.pointer (some ⟨b,0,none⟩)) X (newS kk) newN (newO kk) kk bf->Fsd w0 V P d (.pointer (some ⟨b,0,none⟩)) X (newS kk) newN (newO kk) kk F14 bf):=Lib.hid fun V P d b bf X h=>
  ⟨h.inv,h.wi,h.fu,⟨h.has,h.ok,h.tab,new_fils h1 _⟩,new_stil h1 h2,h.fs,h.nb,h.bN,h.pN,h.be⟩
 have HM:∀ c,c<4->∀ (V:World) (P:Nat->Prop) (d:Value) (b bf:Nat) (X:XSt),Fsm w0 V P d (.pointer (some ⟨b,0,none⟩)) X (newS kk) newN (newO kk) kk F14 bf->Fmd V P d (.pointer (some ⟨b,0,none⟩)) X (newS kk) (N14 c) (newO kk) kk F14 bf->X.put.length<=c->Calls Tryz.prog 24 #[.pointer (some ⟨bf,0,none⟩),.int .i64 1] V fun e w'=>e=.returned (.tuple #[.int .i64 ((2+c:Nat):Int),.int .i64 0])/\
  Hid (∃ P' X',Fsm w0 w' P' d (.pointer (some ⟨b,0,none⟩)) X' (newS kk) newN (newO kk) kk F14 bf/\Fmd w' P' d (.pointer (some ⟨b,0,none⟩)) X' (newS kk) (N14 (c+1)) (newO kk) kk F14 bf/\X'.put.length<=c+1):=fun c hc V P d b bf X hs hm hp=>by
  refine (fsMake_yes hm.inv hm.wi (by omega) hm.fs hm.pl.tab (n14_free hc) (k:=1) (by decide) (Below.refl _ _)).mono ?_
  rintro e w' ⟨he,P',hi,hg⟩
  obtain ⟨hfs,hnb⟩:=hm.fs.chg hg hm.nb
  exact ⟨he,P',_,hs.next hi hm.wi ⟨rfl,rfl⟩ hg,⟨hi,hm.wi,hm.pl.make (by omega) (by omega) rfl (by decide),hm.st,hfs,hnb⟩,by have:=addS_le X.put ((tabAt (newS kk) ((2+c) / 8):Nat):Int);show (addS X.put _).length<=c+1;omega⟩
 have HM0:=Lib.hid (HM 0 (by decide))
 have HM1:=Lib.hid (HM 1 (by decide))
 clear h1 h2 HM
 go_enter Tryz.func9,Tryz.ntmps9
 go_wp2_with (first
  |(go_at_call 23;refine KS.out.mono ?_;rintro e w1 ⟨b,rfl,hb1,KN⟩)
  |(go_at_call 22;refine KN.mono ?_;rintro e w2 ⟨bf,P2,d2,X2,rfl,hsd,_⟩;have hsd2:=HB.out _ _ _ _ _ _ hsd;have c2:=hsd2.fs.cell)
  |(go_at_call 18;refine hsd2.begin.mono ?_;rintro e w3 ⟨rfl,P3,hs3,hm3,_⟩;have KM:=HM0.out _ _ _ _ _ _ hs3 hm3 (Nat.le_refl 0))
  |(go_at_call 24;refine KM.mono ?_;rintro e w4 ⟨rfl,HS4⟩;obtain ⟨P4,X4,hs4,hm4,hp4⟩:=HS4.out;have KM2:=Lib.hid (HM1.out _ _ _ _ _ _ hs4 hm4 hp4);clear KM)
  |(go_at_call 24;refine KM2.out.mono ?_;rintro e w5 ⟨rfl,HS5⟩;obtain ⟨P5,X5,hs5,hm5,hp5⟩:=HS5.out;have cf:=hs5.fs.cell;have KE:=Lib.hid (hs5.keep hm5))
  |(go_at_call 21;refine KE.out.mono ?_;rintro e w6 ⟨rfl,P6,X6,hf6,_,_⟩))
 go_ret
 exact ⟨bf,b,P6,d2,X6,rfl,hf6⟩
end
theorem cnt_wr1 {M:Nat->Option (List Int)} (a:Nat) (v:Int):cntX (keyB (wr1 M a v)) 138+(if (M (a / 256)).isSome=true then 1 else 0)<=cntX (keyB M) 138+1:=by
 by_cases h:(M (a / 256)).isSome=true
 · rw[if_pos h]
   have:=cntX_same (f:=keyB (wr1 M a v)) (g:=keyB M) 138 fun i _=>by
    rw[keyB_ne,keyB_ne]
    unfold wr1
    by_cases e:i=a / 256
    · subst e;rw[updB_at];exact ⟨fun _=>h,fun _=>rfl⟩
    · rw[updB_ne _ e]
   omega
 · rw[if_neg h]
   by_cases hb:a / 256<138
   · have:=cntX_more (f:=keyB M) (g:=keyB (wr1 M a v)) (i:=a / 256) (by unfold keyB;rw[if_neg h]) (by rw[keyB_ne];unfold wr1;rw[updB_at];rfl) 138 hb fun j _ hne=>by
      rw[keyB_ne,keyB_ne]
      unfold wr1
      rw[updB_ne _ hne]
     omega
   · have:=cntX_same (f:=keyB (wr1 M a v)) (g:=keyB M) 138 fun i hi=>by
      rw[keyB_ne,keyB_ne]
      unfold wr1
      rw[updB_ne _ (by omega)]
     omega
theorem cnt_wrL:∀ (l:List Int) (M:Nat->Option (List Int)) (a:Nat),0<l.length->cntX (keyB (wrL M a l)) 138+(if (M (a / 256)).isSome=true then 1 else 0)<=cntX (keyB M) 138+spN a l.length
 |[],_,_,h=>absurd h (Nat.lt_irrefl 0)
 |v :: l,M,a,_=>by
  have h1:=cnt_wr1 (M:=M) a v
  have hs:(wr1 M a v (a / 256)).isSome=true:=by unfold wr1;rw[updB_at];rfl
  have hp:spN a (v :: l).length=(a%256+(l.length+1)+255) / 256:=by unfold spN;rw[List.length_cons,if_neg (by omega)]
  rw[hp]
  show cntX (keyB (wrL (wr1 M a v) (a+1) l)) 138+_<=_
  by_cases h0:0<l.length
  · have ih:=cnt_wrL l (wr1 M a v) (a+1) h0
    have hq:spN (a+1) l.length=((a+1)%256+l.length+255) / 256:=by unfold spN;rw[if_neg (by omega)]
    rw[hq] at ih
    by_cases c:a%256=255
    · have e2:(a+1)%256=0:=by omega
      rw[e2] at ih
      rw[c]
      have e3:(255+(l.length+1)+255) / 256=1+(0+l.length+255) / 256:=by omega
      rw[e3]
      omega
    · have e1:(a+1) / 256=a / 256:=by omega
      rw[e1,if_pos hs] at ih
      have e2:(a+1)%256=a%256+1:=by omega
      rw[e2] at ih
      have e3:a%256+1+l.length+255=a%256+(l.length+1)+255:=by omega
      rw[e3] at ih
      omega
  · obtain rfl:l=[]:=List.eq_nil_of_length_eq_zero (by omega)
    show cntX (keyB (wr1 M a v)) 138+_<=_
    have:(a%256+([]:List Int).length+1+255) / 256=1:=by simp;omega
    simp only[List.length_nil] at this |-
    omega
theorem used_wrL (M:Nat->Option (List Int)) (a:Nat) (l:List Int):usedB (wrL M a l)<=usedB M+spN a l.length+1:=by
 unfold usedB
 by_cases h0:0<l.length
 · have h1:=cnt_wrL l M a h0
   have h2:=farB_le (wrL M a l) 138
   omega
 · obtain rfl:l=[]:=List.eq_nil_of_length_eq_zero (by omega)
   show cntX (keyB M) 138+farB M 138<=_
   omega
theorem spN_le {a n:Nat} (h:n<=1024):spN a n<=5:=by
 unfold spN
 split <;> omega
def Wk2 (w0:World) (d p:Value) (kk bf n sz:Nat) (M:Nat->Option (List Int)) (m sm:Nat) (Mm:Nat->Option (List Int)) (q c:Nat) (w:World):Prop:=
 ∃ P X N O F Q,Fsm w0 w P d p X (newS kk) (N14 2) (newO kk) kk F14 bf/\Flt w P d p X (newS kk) N O kk F bf n sz M Q/\Fat X.call N F m sm Mm/\Q.length<=q/\cntU O (64*kk)<=c
section
variable {w0 w:World}{d p:Value}{kk bf n sz m sm q c:Nat}{M Mm:Nat->Option (List Int)}
theorem Wk2.fs (h:Wk2 w0 d p kk bf n sz M m sm Mm q c w):FsAt w bf p:=by
 obtain ⟨P,X,N,O,F,Q,hs,_⟩:=h
 exact hs.fs
theorem Wk2.be (h:Wk2 w0 d p kk bf n sz M m sm Mm q c w):Below w0.heap.size w0 w:=by
 obtain ⟨P,X,N,O,F,Q,hs,_⟩:=h
 exact hs.be
theorem Wk2.low (h:Wk2 w0 d p kk bf n sz M m sm Mm q c w) {w':World} (hb:Below w.heap.size w w'):Wk2 w0 d p kk bf n sz M m sm Mm q c w':=by
 obtain ⟨P,X,N,O,F,Q,hs,hf,hm,hq,hc⟩:=h
 exact ⟨P,X,N,O,F,Q,hs.next (hs.inv.low hb) hs.wi (Onw.refl _) (Chg.of_below hb),hf.low hb,hm,hq,hc⟩
theorem Wk2.next (hne:m≠n) (h1:1<=m) (h48:m<48) {P:Nat->Prop}{X:XSt}{N:List (List Int)}{O:List (Int × Int)}{F:Nat->List Int}{Q:List Int}{sz' k:Nat}{M':Nat->Option (List Int)}{w':World}
 (hs:Fsm w0 w P d p X (newS kk) (N14 2) (newO kk) kk F14 bf) (hf:Flt w P d p X (newS kk) N O kk F bf n sz M Q) (hm:Fat X.call N F m sm Mm) (hq:Q.length<=q) (hc:cntU O (64*kk)<=c) (ho:FlO w P d p X (newS kk) N O kk F bf n Q sz' M' k noR w') {c':Nat} (hc':c+usedB M'<=c'+usedB M):Wk2 w0 d p kk bf n sz' M' m sm Mm (q+k) c' w':=by
 obtain ⟨P',X',N',O',F',Q',a,b,c1,e,f,_⟩:=ho
 have:=hf.cnt a.ft b
 exact ⟨P',X',N',O',F',Q',hs.next a.md.inv a.md.wi b.on f,a,b.ot m sm Mm hne h1 h48 hm,by omega,by omega⟩
theorem Wk2.write (h:Wk2 w0 d p kk bf n sz M m sm Mm q c w) (hne:m≠n) (hm1:1<=m) (hm48:m<48) (h1:1<=n) (h48:n<48) {W:World} (hW:Below w.heap.size w W) {v:Value}{l:List Int} (hv:BSl W v l) (hap:∀ P:Nat->Prop,(∀ k,P k->w0.heap.size<=k/\k<w.heap.size)->Apt P v) {a:Nat} (hl:l.length<=1024) (hx:a+l.length<=35328) (hQ:q+2*spN a l.length<=34) (hr:c+spN a l.length+1<=62*kk-42):
 Calls Tryz.prog 19 #[.pointer (some ⟨bf,0,none⟩),.int .i64 n,.int .i64 a,v] W fun e w'=>e=.returned (.tuple #[.int .i64 l.length,.int .i64 0])/\
  Wk2 w0 d p kk bf n (if l.length=0 then sz else max sz (a+l.length)) (wrL M a l) m sm Mm (q+2*spN a l.length) (c+spN a l.length+1) w':=by
 obtain ⟨P,X,N,O,F,Q,hs,hf,hm,hq,hc⟩:=h
 have hu:=used_wrL M a l
 have htl:l.take l.length=l:=List.take_length
 refine (flWrite_of (hf.low hW) h1 h48 hv (hap P fun k hk=>⟨hs.pN k hk,hs.inv.lt k hk⟩) (a:=a) (C:=l.length) (by omega) (by omega) (by omega) hx).mono ?_
 rintro e w' (⟨he,hfit,ho⟩| ⟨_,hn,_⟩)
 · rw[htl] at ho
   refine ⟨he,Wk2.next hne hm1 hm48 (hs.next (hs.inv.low hW) hs.wi (Onw.refl _) (Chg.of_below hW)) (hf.low hW) hm hq hc ho (by omega)⟩
 · exfalso
   apply hn
   rw[htl]
   unfold fitsB
   have:=hf.rm
   omega
theorem Wk2.resize (h:Wk2 w0 d p kk bf n sz M m sm Mm q c w) (hne:m≠n) (hm1:1<=m) (hm48:m<48) (h1:1<=n) (h48:n<48) {v:Nat} (hv:v<=35328) (hQ:q<=34):
 Calls Tryz.prog 20 #[.pointer (some ⟨bf,0,none⟩),.int .i64 n,.int .i64 v] w fun e w'=>e=.returned (.int .i64 0)/\Wk2 w0 d p kk bf n v (rsB M v) m sm Mm (q+1) c w':=by
 obtain ⟨P,X,N,O,F,Q,hs,hf,hm,hq,hc⟩:=h
 refine (flResize_of hf h1 h48 (by omega) hv).mono ?_
 rintro e w' ⟨he,ho⟩
 refine ⟨he,Wk2.next hne hm1 hm48 hs hf hm hq hc ho ?_⟩
 have:usedB (rsB M v)<=usedB M:=usedB_mono fun i _ e=>by
  unfold rsB at e
  split at e
  · cases e
  · rw[Option.isSome_map] at e;exact e
 omega
theorem Wk2.read (h:Wk2 w0 d p kk bf n sz M m sm Mm q c w) (h1:1<=n) (h48:n<48):
 Calls Tryz.prog 15 #[.pointer (some ⟨bf,0,none⟩),.int .i64 n,.int .i64 0,.int .i64 40000] w fun e w'=>∃ v,e=.returned (.tuple #[v,.int .i64 0])/\BSl w' v (rdB M 0 sz)/\Below w.heap.size w w':=by
 obtain ⟨P,X,N,O,F,Q,hs,hf,hm,hq,hc⟩:=h
 have hsb:=hf.ft.sb
 refine (flRead_of hf.md.rd (M:=M) (sz:=sz) (by rw[hf.md.cur];exact hf.ft) h1 h48 (a:=0) (m:=40000) (by omega) (by omega)).mono ?_
 rintro e w' ⟨v,he,hv,hb⟩
 rw[show min 40000 (sz-0)=sz by omega] at hv
 exact ⟨v,he,hv.bsl,hb⟩
theorem Wk2.swap (h:Wk2 w0 d p kk bf n sz M m sm Mm q c w) (hm0:∀ i,Mm i=none) (hn:n / 8=m / 8):Wk2 w0 d p kk bf m sm Mm n sz M q c w:=by
 obtain ⟨P,X,N,O,F,Q,hs,hf,hm,hq,hc⟩:=h
 refine ⟨P,X,N,O,F,Q,hs,⟨hf.md,hm,hf.q,⟨hf.bs.g,by rw[<- hn];exact hf.bs.t,fun e=>?_⟩,hf.rm⟩,hf.ft,hq,hc⟩
 obtain ⟨b,b1,b2,b3⟩:=hm.mp.1 e
 have:=(hm.iff b2).2 b3
 rw[hm0 b] at this
 cases this
theorem Wk2.readO (h:Wk2 w0 d p kk bf n sz M m sm Mm q c w) (h1:1<=m) (h48:m<48):
 Calls Tryz.prog 15 #[.pointer (some ⟨bf,0,none⟩),.int .i64 m,.int .i64 0,.int .i64 40000] w fun e w'=>∃ v,e=.returned (.tuple #[v,.int .i64 0])/\BSl w' v (rdB Mm 0 sm)/\Below w.heap.size w w':=by
 obtain ⟨P,X,N,O,F,Q,hs,hf,hm,hq,hc⟩:=h
 have hsb:=hm.sb
 refine (flRead_of hf.md.rd (M:=Mm) (sz:=sm) (by rw[hf.md.cur];exact hm) h1 h48 (a:=0) (m:=40000) (by omega) (by omega)).mono ?_
 rintro e w' ⟨v,he,hv,hb⟩
 rw[show min 40000 (sm-0)=sm by omega] at hv
 exact ⟨v,he,hv.bsl,hb⟩
theorem Wk2.fin (h:Wk2 w0 d p kk bf n sz M m sm Mm q c w):Calls Tryz.prog 21 #[p,.bool true] w fun e w'=>e=.returned (.int .i64 0)/\Below w0.heap.size w0 w':=by
 obtain ⟨P,X,N,O,F,Q,hs,hf,_⟩:=h
 exact (hs.keep hf.md).mono fun e w' ⟨he,P',X',hd,_⟩=>⟨he,hd.be⟩
theorem Fsd.wk2 {P:Nat->Prop}{X:XSt} (h:Fsd w0 w P d p X (newS kk) (N14 2) (newO kk) kk F14 bf) (h1:1<=kk) (h4:kk<5):Calls Tryz.prog 18 #[p] w fun e w'=>e=.returned (.int .i64 0)/\Wk2 w0 d p kk bf 2 0 (fun _=>none) 3 0 (fun _=>none) (2*kk+2) 6 w':=by
 refine h.begin.mono ?_
 rintro e w' ⟨he,P',hs,hm,_⟩
 have hm0:num ((N14 2).getD 2 []) 13=0:=n14_loc (c:=2) (m:=2) (i:=138) (by decide) (by decide) (by decide)
 have hc:=cnt_new kk h4 h1
 exact ⟨he,P',_,N14 2,newO kk,F14,baseQ (newS kk) kk 2 0,hs,⟨hm,new_fat _ (by decide) (by decide),put_none _ _,by rw[hm0];exact baseQ_ok _ _ _ _,by rw[hc];omega⟩,new_fat _ (by decide) (by decide),by rw[baseQ_len];omega,by rw[hc];omega⟩
end
theorem awake15_any (w:World):Calls Tryz.prog 7 #[] w fun e w'=>e=.returned (.bool true)/\Below w.heap.size w w':=by
 have KM:=Lib.hid (made15_of (kk:=1) (by decide) (by decide) w (Below.refl _ w))
 rw[show (64*((1:Nat):Int))=64 from rfl] at KM
 have KW:Hid (∀ (V:World) (d p:Value) (bf:Nat),Wk2 w d p 1 bf 2 0 (fun _=>none) 3 0 (fun _=>none) 4 6 V->Calls Tryz.prog 19 #[.pointer (some ⟨bf,0,none⟩),.int .i64 2,.int .i64 0,.slice (some ⟨V.heap.size,0,none⟩) 2 2] (V.alloc (.cells #[.int .u8 97,.int .u8 98] 5 (2,3))) fun e w'=>e=.returned (.tuple #[.int .i64 2,.int .i64 0])/\Below w.heap.size w w'):=Lib.hid fun V d p bf h=>by
  have hv:BSl (V.alloc (.cells #[.int .u8 97,.int .u8 98] 5 (2,3))) (.slice (some ⟨V.heap.size,0,none⟩) 2 2) [97,98]:=bsl_lit9 V [97,98] (byt_of_mem fun x hx=>by simp at hx;omega) 2 rfl _ rfl _
  refine (h.write (by decide) (by decide) (by decide) (by decide) (by decide) (below_boxF V _ _ _) hv (fun P hP=>Apt.new fun hp=>by have:=(hP _ hp).2;omega) (a:=0) (by decide) (by decide) (by decide) (by decide)).mono ?_
  rintro e w' ⟨he,h2⟩
  exact ⟨he,h2.be⟩
 have kc:=fun (w:World) (C:Array Value) (n c:Nat)=>Lib.run_convert_bytes_const (P:=Tryz.prog) w 30 5 C n c Tryz.underlying30 Tryz.underlying5
 go_enter Tryz.func7,Tryz.ntmps7
 go_wp2_with (first
  |(go_at_call 9;refine KM.out.mono ?_;rintro e w1 ⟨bf,b,P,d,X,rfl,hf⟩;have c0:=hf.fs.cell;have KB:=Lib.hid (hf.wk2 (by decide) (by decide)))
  |(go_at_call 18;refine KB.out.mono ?_;rintro e w2 ⟨rfl,hk2⟩)
  |(go_at_call 19;refine (KW.out _ _ _ _ hk2).mono ?_;rintro e w3 ⟨rfl,hb3⟩))
 go_ret
 exact ⟨rfl,hb3⟩
theorem flRead_err {f:Value}{n:Int}{w:World} (hF:Calls Tryz.prog 32 #[f,.int .i64 n] w fun e w'=>e=.returned (.tuple #[.agg #[.int .i64 0,.int .i64 0,.int .i64 0,.int .i64 0,.int .i64 0,.int .i64 0,.int .i64 0,.int .i64 0,.int .i64 0,.int .i64 0,.int .i64 0,.int .i64 0,.int .i64 0,.int .i64 0],.int .i64 1])/\Below w.heap.size w w') (a m:Int):
 Calls Tryz.prog 15 #[f,.int .i64 n,.int .i64 a,.int .i64 m] w fun e w'=>e=.returned (.tuple #[.slice none 0 0,.int .i64 1])/\Below w.heap.size w w':=by
 have KF:=Lib.hid hF
 clear hF
 go_enter Tryz.func15,Tryz.ntmps15
 go_wp2_with (go_at_call 32;refine KF.out.mono ?_;rintro e w2 ⟨rfl,hb2⟩
              have hb3:=hb2.trans ((below_box w2 (.cells #[.int .i64 0,.int .i64 0,.int .i64 0,.int .i64 0,.int .i64 0,.int .i64 0,.int .i64 0,.int .i64 0,.int .i64 0,.int .i64 0,.int .i64 0,.int .i64 0,.int .i64 0,.int .i64 0] 47)).mono hb2.size))
 go_ret2
 exact ⟨rfl,hb3⟩
theorem flWrite_err {f:Value}{n:Int}{w:World} (hF:Calls Tryz.prog 32 #[f,.int .i64 n] w fun e w'=>e=.returned (.tuple #[.agg #[.int .i64 0,.int .i64 0,.int .i64 0,.int .i64 0,.int .i64 0,.int .i64 0,.int .i64 0,.int .i64 0,.int .i64 0,.int .i64 0,.int .i64 0,.int .i64 0,.int .i64 0,.int .i64 0],.int .i64 1])/\Below w.heap.size w w') (a:Int) (v:Value):
 Calls Tryz.prog 19 #[f,.int .i64 n,.int .i64 a,v] w fun e w'=>e=.returned (.tuple #[.int .i64 0,.int .i64 1])/\Below w.heap.size w w':=by
 have KF:=Lib.hid hF
 clear hF
 go_enter Tryz.func19,Tryz.ntmps19
 go_wp2_with (go_at_call 32;refine KF.out.mono ?_;rintro e w2 ⟨rfl,hb2⟩
              have hb3:=hb2.trans ((below_box w2 (.cells #[.int .i64 0,.int .i64 0,.int .i64 0,.int .i64 0,.int .i64 0,.int .i64 0,.int .i64 0,.int .i64 0,.int .i64 0,.int .i64 0,.int .i64 0,.int .i64 0,.int .i64 0,.int .i64 0] 47)).mono hb2.size))
 go_ret2
 exact ⟨rfl,hb3⟩
theorem flResize_err {f:Value}{n:Int}{w:World} (hF:Calls Tryz.prog 32 #[f,.int .i64 n] w fun e w'=>e=.returned (.tuple #[.agg #[.int .i64 0,.int .i64 0,.int .i64 0,.int .i64 0,.int .i64 0,.int .i64 0,.int .i64 0,.int .i64 0,.int .i64 0,.int .i64 0,.int .i64 0,.int .i64 0,.int .i64 0,.int .i64 0],.int .i64 1])/\Below w.heap.size w w') (a:Int):
 Calls Tryz.prog 20 #[f,.int .i64 n,.int .i64 a] w fun e w'=>e=.returned (.int .i64 1)/\Below w.heap.size w w':=by
 have KF:=Lib.hid hF
 clear hF
 go_enter Tryz.func20,Tryz.ntmps20
 go_wp2_with (go_at_call 32;refine KF.out.mono ?_;rintro e w2 ⟨rfl,hb2⟩
              have hb3:=hb2.trans ((below_box w2 (.cells #[.int .i64 0,.int .i64 0,.int .i64 0,.int .i64 0,.int .i64 0,.int .i64 0,.int .i64 0,.int .i64 0,.int .i64 0,.int .i64 0,.int .i64 0,.int .i64 0,.int .i64 0,.int .i64 0] 47)).mono hb2.size))
 go_ret
 exact ⟨rfl,hb3⟩
section
variable {w:World}{P:Nat->Prop}{d p:Value}{X:XSt}{S:List Int}{N:List (List Int)}{O:List (Int × Int)}{kk:Nat}{F:Nat->List Int}{bf:Nat}
end
end Go.Proofs.YtedabomlfcghoaaGreat
namespace Go.Proofs.YtedabomlfcghoaaGreat
set_option maxRecDepth 100000
open Go.RowKit Go.ChangeShapes Go.WideShapes
structure O13 where
 k:Int
 ino:Int
 kd:Int
 n:Int
 I:List Int
 S:List Int
 i:Int
 a:Int
instance:Inhabited O13:=⟨⟨0,0,0,0,[],[],0,0⟩⟩
section
variable {H:Type}{enc:TypeId × Value->H}{W:World}{base:Nat}{spare:Nat->Bool}{held:Bool}
end
end Go.Proofs.YtedabomlfcghoaaGreat
namespace Go.Proofs.YtedabomlfcghoaaGreat
set_option maxRecDepth 100000
open Go.RowKit
theorem npUsable (w:World):Calls Tryz.prog 65 #[.pointer none] w fun e w'=>e=.returned (.int .i64 1)/\w=w':=by
 go_enter Tryz.func65,Tryz.ntmps65
 go_wp2
 go_ret
 exact ⟨rfl,rfl⟩
theorem npGet (w:World) (n:Int):Calls Tryz.prog 61 #[.pointer none,.int .i64 n] w fun e w'=>e=.returned (.tuple #[.slice none 0 0,.int .i64 1])/\w=w':=by
 go_enter Tryz.func61,Tryz.ntmps61
 go_wp2_with (go_at_call 65;refine (npUsable _).mono ?_;rintro e w' ⟨rfl,rfl⟩)
 go_ret2
 exact ⟨rfl,rfl⟩
theorem npAllows (w:World) (x:Bool):Calls Tryz.prog 37 #[.pointer none,.bool x] w fun e w'=>e=.returned (.int .i64 1)/\w=w':=by
 go_enter Tryz.func37,Tryz.ntmps37
 go_wp2_with (go_at_call 65;refine (npUsable _).mono ?_;rintro e w' ⟨rfl,rfl⟩)
 go_ret
 exact ⟨rfl,rfl⟩
theorem nfSuper (W:World):Calls Tryz.prog 63 #[.pointer none] W fun e w'=>e=.returned (.tuple #[.agg #[.int .i64 0,.int .i64 0,.int .i64 0,.int .i64 0,.int .i64 0,.int .i64 0,.int .i64 0,.int .i64 0,.int .i64 0,.int .i64 0,.int .i64 0,.int .i64 0],.int .i64 1])/\Below W.heap.size W w':=by
 have hb1:=below_box W (supO zeroS 118)
 have hr1:=heap_alloc_new W (supO zeroS 118)
 obtain ⟨w1,hw1⟩:∃ w1,w1=W.alloc (supO zeroS 118):=⟨_,rfl⟩
 rw[<- hw1] at hb1 hr1
 have h1:W.alloc (.cells #[.int .i64 0,.int .i64 0,.int .i64 0,.int .i64 0,.int .i64 0,.int .i64 0,.int .i64 0,.int .i64 0,.int .i64 0,.int .i64 0,.int .i64 0,.int .i64 0] 118)=w1:=by rw[hw1];rfl
 have H1:=Lib.hid h1
 have HR1:=Lib.hid hr1
 clear h1 hw1 hr1
 go_enter Tryz.func63,Tryz.ntmps63
 go_wp2_with (first
  |(go_at_call 92;rw[H1.out];refine (fsBlocks_nil _).mono ?_;rintro e w' ⟨rfl,rfl⟩)
  |(go_at_call 61;refine (npGet _ _).mono ?_;rintro e w' ⟨rfl,rfl⟩;have hr2:=HR1.out)
  |(with_reducible refine wpList_storeS rfl (.tmp 2) (.tmp 15) rfl W.heap.size rfl zeroS zeroS rfl rfl rfl _ hr2 ?_;intro w7 hw7 hr7))
 exact bodyPost_ret (ret_sup2 rfl _ _ W.heap.size _ _ _ rfl rfl hr7 rfl) rfl ⟨rfl,hb1.trans (hw7.below (Nat.le_refl _))⟩
theorem nfFind (n:Int) (W:World):Calls Tryz.prog 36 #[.pointer none,.int .i64 n] W fun e w'=>e=.returned (.tuple #[.agg #[.int .i64 0,.slice none 0 0,.int .i64 0],.int .i64 1])/\Below W.heap.size W w':=by
 by_cases hn:n<1\/47<n
 · exact fsFind_no hn _ W
 · have hb1:=below_box W (.cells #[.int .i64 0,.slice none 0 0,.int .i64 0] 84)
   have hr1:=heap_alloc_new W (.cells #[.int .i64 0,.slice none 0 0,.int .i64 0] 84)
   obtain ⟨w1,hw1⟩:∃ w1,w1=W.alloc (.cells #[.int .i64 0,.slice none 0 0,.int .i64 0] 84):=⟨_,rfl⟩
   rw[<- hw1] at hb1 hr1
   have H1:=Lib.hid hw1.symm
   have HR1:Hid (∀ V,Below w1.heap.size w1 V->V.heap[W.heap.size]? =some (.cells #[.int .i64 0,.slice none 0 0,.int .i64 0] 84 (0,0))):=Lib.hid fun V hv=>below_hold hr1 hv
   have KP:=Lib.hid (iPlace_yes n (by omega) (by omega))
   obtain ⟨t,htt⟩:∃ t,t=n / 8:=⟨_,rfl⟩
   rw[<- htt] at KP
   have ht0:¬ t<0:=by omega
   clear htt hn hw1 hr1
   go_enter Tryz.func36,Tryz.ntmps36
   go_wp2_with (first
    |(go_at_call 62;rw[H1.out];refine (KP.out _).mono ?_;rintro e w' ⟨rfl,rfl⟩)
    |(go_at_call 63;refine (nfSuper _).mono ?_;rintro e w2 ⟨rfl,hb2⟩
      have hb3:=hb2.trans ((below_box w2 (.cells #[.int .i64 0,.int .i64 0,.int .i64 0,.int .i64 0,.int .i64 0,.int .i64 0,.int .i64 0,.int .i64 0,.int .i64 0,.int .i64 0,.int .i64 0,.int .i64 0] 118)).mono hb2.size)
      have hr3:=HR1.out _ hb3)
    |(with_reducible refine wpList_store_t3 rfl 84 sizeFo (.tmp 4) (.tmp 26) rfl W.heap.size rfl _ _ _ _ _ _ rfl rfl rfl rfl _ hr3 ?_;intro w9 hw9 hr9))
   refine bodyPost_ret (ret_cell_t3 rfl Tryz.underlying84 sizeFo _ _ W.heap.size _ _ _ _ _ rfl hr9 rfl) rfl ⟨rfl,(hb1.trans (hb3.mono hb1.size)).trans (hw9.below (Nat.le_refl _))⟩
theorem nfGet (n:Int) (W:World):Calls Tryz.prog 17 #[.pointer none,.int .i64 n] W fun e w'=>e=.returned (.tuple #[.agg #[.int .i64 0,.int .i64 0,.int .i64 0,.int .i64 0,.int .i64 0,.int .i64 0,.int .i64 0,.int .i64 0,.int .i64 0,.int .i64 0,.int .i64 0,.int .i64 0,.int .i64 0,.int .i64 0],.int .i64 1])/\Below W.heap.size W w':=by
 have hb1:=below_box W (iO zeroI 47)
 have hr1:=heap_alloc_new W (iO zeroI 47)
 obtain ⟨w1,hw1⟩:∃ w1,w1=W.alloc (iO zeroI 47):=⟨_,rfl⟩
 rw[<- hw1] at hb1 hr1
 have h1:W.alloc (.cells #[.int .i64 0,.int .i64 0,.int .i64 0,.int .i64 0,.int .i64 0,.int .i64 0,.int .i64 0,.int .i64 0,.int .i64 0,.int .i64 0,.int .i64 0,.int .i64 0,.int .i64 0,.int .i64 0] 47)=w1:=by rw[hw1];rfl
 have H1:=Lib.hid h1
 have HR1:Hid (∀ V,Below w1.heap.size w1 V->V.heap[W.heap.size]? =some (iO zeroI 47)):=Lib.hid fun V hv=>below_hold hr1 hv
 clear h1 hw1 hr1
 go_enter Tryz.func17,Tryz.ntmps17
 go_wp2_with (first
  |(go_at_call 36;rw[H1.out];refine (nfFind n _).mono ?_;rintro e w2 ⟨rfl,hb2⟩
    have hb3:=hb2.trans ((below_box w2 (.cells #[.int .i64 0,.slice none 0 0,.int .i64 0] 84)).mono hb2.size)
    have hr3:=HR1.out _ hb3)
  |(with_reducible refine wpList_storeI rfl (.tmp 4) (.tmp 16) rfl W.heap.size rfl zeroI zeroI rfl rfl rfl _ hr3 ?_;intro w9 hw9 hr9))
 refine bodyPost_ret (ret_ino2 rfl _ _ W.heap.size _ _ _ rfl rfl hr9 rfl) rfl ⟨rfl,(hb1.trans (hb3.mono hb1.size)).trans (hw9.below (Nat.le_refl _))⟩
end Go.Proofs.YtedabomlfcghoaaGreat
namespace Go.Proofs.YtedabomlfcghoaaGreat
set_option maxRecDepth 100000
open Go.RowKit BM
theorem flBad_other {ino a n:Int} (h1:1<=ino) (h3:ino<=3) {w:World}{v:Value}:Calls Tryz.prog 5 #[.int .i64 ino,.int .i64 a,.int .i64 n,v] w fun e w'=>e=.returned (.bool true)/\Below w.heap.size w w':=by
 have KA1:=Lib.hid (awake15_any w)
 have KA:=Lib.hid awake15_any
 go_enter Tryz.func5,Tryz.ntmps5
 go_wp2_with (first
  |(go_at_call 7;(with_reducible refine KA1.out.mono ?_);rintro e w2 ⟨rfl,hb2⟩)
  |(go_at_call 7;refine (KA.out _).mono ?_;rintro e w3 ⟨rfl,hb3⟩))
 go_ret
 exact ⟨rfl,hb2.trans (hb3.mono hb2.size)⟩
set_option maxHeartbeats 1000000 in
theorem flBad_main {ino a n:Int} (hno:ino<1\/3<ino) {w:World}{v:Value}:Calls Tryz.prog 5 #[.int .i64 ino,.int .i64 a,.int .i64 n,v] w fun e w'=>e=.returned (.bool true)/\Below w.heap.size w w':=by
 have KA1:=Lib.hid (awake15_any w)
 have KM:Hid (∀ V:World,Below w.heap.size w V->Calls Tryz.prog 9 #[.int .i64 64] V fun e w'=>∃ bf b P d X,e=.returned (.pointer (some ⟨bf,0,none⟩))/\Fsd w w' P d (.pointer (some ⟨b,0,none⟩)) X (newS 1) (N14 2) (newO 1) 1 F14 bf):=Lib.hid fun V hb=>made15_of (kk:=1) (by decide) (by decide) w hb
 have HK:∀ m,m<48->3<m->kindN (N14 2) m=0:=fun m h48 h3=>by rw[n14_kind (by decide) h48,if_neg (by omega),if_neg (by omega)]
 have KF:∀ (V:World) (P:Nat->Prop) (d p:Value) (X:XSt) (bf:Nat),Fmd V P d p X (newS 1) (N14 2) (newO 1) 1 F14 bf->Calls Tryz.prog 32 #[.pointer (some ⟨bf,0,none⟩),.int .i64 ino] V fun e w'=>e=.returned (.tuple #[.agg #[.int .i64 0,.int .i64 0,.int .i64 0,.int .i64 0,.int .i64 0,.int .i64 0,.int .i64 0,.int .i64 0,.int .i64 0,.int .i64 0,.int .i64 0,.int .i64 0,.int .i64 0,.int .i64 0],.int .i64 1])/\Below V.heap.size V w':=fun V P d p X bf hm=>by
  by_cases hx:ino<1\/47<ino
  · exact flFind_bad fun V=>fsGet_no hx _ V
  · obtain ⟨m,hmm⟩:∃ m:Nat,ino=(m:Int):=⟨ino.toNat,by omega⟩
    subst hmm
    exact flFind_free hm.rd (by omega) (by omega) (HK m (by omega) (by omega))
 have KR:=Lib.hid (fun (V:World) (P:Nat->Prop) (d p:Value) (X:XSt) (bf:Nat) (hm:Fmd V P d p X (newS 1) (N14 2) (newO 1) 1 F14 bf)=>flRead_err (KF V P d p X bf hm) a n)
 have KW:=Lib.hid (fun (V:World) (P:Nat->Prop) (d p:Value) (X:XSt) (bf:Nat) (hm:Fmd V P d p X (newS 1) (N14 2) (newO 1) 1 F14 bf)=>flWrite_err (KF V P d p X bf hm) a v)
 have KZ:=Lib.hid (fun (V:World) (P:Nat->Prop) (d p:Value) (X:XSt) (bf:Nat) (hm:Fmd V P d p X (newS 1) (N14 2) (newO 1) 1 F14 bf)=>flResize_err (KF V P d p X bf hm) n)
 have KN:=Lib.hid (fun (V:World)=>flRead_err (flFind_bad (f:=.pointer none) (n:=2) (w:=V) fun V=>nfGet 2 V) a n)
 have KL:Hid (∀ (V V':World) (P:Nat->Prop) (d p:Value) (X:XSt) (bf:Nat),Fsm w V P d p X (newS 1) (N14 2) (newO 1) 1 F14 bf/\Fmd V P d p X (newS 1) (N14 2) (newO 1) 1 F14 bf->Below V.heap.size V V'->Fsm w V' P d p X (newS 1) (N14 2) (newO 1) 1 F14 bf/\Fmd V' P d p X (newS 1) (N14 2) (newO 1) 1 F14 bf):=Lib.hid fun V V' P d p X bf ⟨hs,hm⟩ hb=>⟨hs.next (hs.inv.low hb) hs.wi (Onw.refl _) (Chg.of_below hb),hm.low hb⟩
 have KE:Hid (∀ (V:World) (P:Nat->Prop) (d p:Value) (X:XSt) (bf:Nat),Fsm w V P d p X (newS 1) (N14 2) (newO 1) 1 F14 bf/\Fmd V P d p X (newS 1) (N14 2) (newO 1) 1 F14 bf->Calls Tryz.prog 21 #[p,.bool true] V fun e w'=>e=.returned (.int .i64 0)/\Below w.heap.size w w'):=Lib.hid fun V P d p X bf ⟨hs,hm⟩=>(hs.keep hm).mono fun e w' ⟨he,P',X',hd,_⟩=>⟨he,hd.be⟩
 have HB:Hid (∀ (V:World) (P:Nat->Prop) (d p:Value) (X:XSt) (bf:Nat),Fsd w V P d p X (newS 1) (N14 2) (newO 1) 1 F14 bf->Calls Tryz.prog 18 #[p] V fun e w'=>e=.returned (.int .i64 0)/\∃ P',Hid (Fsm w w' P' d p (callX X) (newS 1) (N14 2) (newO 1) 1 F14 bf/\Fmd w' P' d p (callX X) (newS 1) (N14 2) (newO 1) 1 F14 bf)/\FsAt w' bf p):=Lib.hid fun V P d p X bf h=>h.begin.mono fun e w' ⟨he,P',hs,hm,_⟩=>⟨he,P',Lib.hid ⟨hs,hm⟩,hs.fs⟩
 clear KF HK
 have hg:(decide (1<=ino) && decide (ino<=3))=false:=by
  rcases hno with h|h
  · rw[decide_eq_false (by omega)];rfl
  · rw[decide_eq_false (show ¬ ino<=3 by omega),Bool.and_false]
 rcases hno with hA|hA
 all_goals
  (first|have hA1:¬ 1<=ino:=by omega|skip)
  go_enter Tryz.func5,Tryz.ntmps5
  go_wp2_with (first
   |(go_at_call 7;refine KA1.out.mono ?_;rintro e w2 ⟨rfl,hb2⟩)
   |(go_at_call 9;refine (KM.out _ hb2).mono ?_;rintro e w3 ⟨bf,b,P3,d,X3,rfl,hf3⟩;have c3:=hf3.fs.cell;have KB:=Lib.hid (HB.out _ _ _ _ _ _ hf3);clear hf3)
   |(go_at_call 18;refine KB.out.mono ?_;rintro e w4 ⟨rfl,P4,HS4,hf4⟩;clear hf4)
   |(go_at_call 15;(with_reducible refine (KR.out _ _ _ _ _ _ HS4.out.2).mono ?_);rintro e w5 ⟨rfl,hb5⟩;have HS5:=Lib.hid (KL.out _ _ _ _ _ _ _ HS4.out hb5);clear hb5)
   |(go_at_call 19;refine (KW.out _ _ _ _ _ _ HS5.out.2).mono ?_;rintro e w6 ⟨rfl,hb6⟩;have HS6:=Lib.hid (KL.out _ _ _ _ _ _ _ HS5.out hb6);clear hb6)
   |(go_at_call 15;(with_reducible refine (KN.out _).mono ?_);rintro e w7 ⟨rfl,hb7⟩;have HS7:=Lib.hid (KL.out _ _ _ _ _ _ _ HS6.out hb7);clear hb7)
   |(go_at_call 20;refine (KZ.out _ _ _ _ _ _ HS7.out.2).mono ?_;rintro e w8 ⟨rfl,hb8⟩;have HS8:=Lib.hid (KL.out _ _ _ _ _ _ _ HS7.out hb8);have c8:=HS8.out.1.fs.cell;clear hb8)
   |(go_at_call 21;refine (KE.out _ _ _ _ _ _ HS8.out).mono ?_;rintro e w9 ⟨rfl,hb9⟩))
  go_ret
  exact ⟨rfl,hb9⟩
theorem lFileBad_of (ino a n:Int) (w:World) (v:Value):Calls Tryz.prog 5 #[.int .i64 ino,.int .i64 a,.int .i64 n,v] w fun e w'=>e=.returned (.bool true)/\Below w.heap.size w w':=by
 by_cases h:1<=ino/\ino<=3
 · exact flBad_other h.1 h.2
 · exact flBad_main (by omega)
end Go.Proofs.YtedabomlfcghoaaGreat
namespace Go.Proofs.YtedabomlfcghoaaGreat
set_option maxRecDepth 100000
open Go.RowKit
theorem slice_h8 (W:World) (b off n cap k:Nat) (h1:k<=cap) (h2:0<cap):(Instr.slice 30 (.slice (some ⟨b,off,none⟩) n cap) none (some (.int .i64 (k:Int))) none).run Tryz.prog W=.ok (.slice (some ⟨b,off,none⟩) k cap) W:=by
 obtain ⟨i,g2,g3,g4,g5⟩:=info_parts infoU8
 have ee:Tryz.prog.elem 30=5:=by kernel_rfl
 have hs:(sizeOf 5).run Tryz.prog W=.ok 1 W:=by simp[sizeOf,typeInfo,g2,g4]
 rw[run_slice_h W 30 _ n cap (by rw[ee];exact Tryz.underlying30) .i64 (k:Int) (by omega) (by omega),ee,hs]
 have hne:cap≠0:=by omega
 simp[sliced,hne,Addr.add_lit]
theorem slice_h8n (W:World):(Instr.slice 30 (.slice none 0 0) none (some (.int .i64 0)) none).run Tryz.prog W=.ok (.slice none 0 0) W:=by
 obtain ⟨i,g2,g3,g4,g5⟩:=info_parts infoU8
 have ee:Tryz.prog.elem 30=5:=by kernel_rfl
 have hs:(sizeOf 5).run Tryz.prog W=.ok 1 W:=by simp[sizeOf,typeInfo,g2,g4]
 rw[run_slice_h W 30 _ 0 0 (by rw[ee];exact Tryz.underlying30) .i64 0 (by omega) (by omega),ee,hs]
 simp[sliced]
theorem slice_l8n (W:World):(Instr.slice 30 (.slice none 0 0) (some (.int .i64 0)) none none).run Tryz.prog W=.ok (.slice none 0 0) W:=by
 obtain ⟨i,g2,g3,g4,g5⟩:=info_parts infoU8
 have ee:Tryz.prog.elem 30=5:=by kernel_rfl
 have hs:(sizeOf 5).run Tryz.prog W=.ok 1 W:=by simp[sizeOf,typeInfo,g2,g4]
 rw[run_slice_l W 30 _ 0 0 (by rw[ee];exact Tryz.underlying30) .i64 0 (by omega) (by omega),ee,hs]
 simp[sliced]
theorem slice_l8e (W:World) (b off n:Nat) (h:(n:Int)<=9223372036854775807):(Instr.slice 30 (.slice (some ⟨b,off,none⟩) n n) (some (.int .i64 (n:Int))) none none).run Tryz.prog W=.ok (.slice (some ⟨b,off,none⟩) 0 0) W:=by
 obtain ⟨i,g2,g3,g4,g5⟩:=info_parts infoU8
 have ee:Tryz.prog.elem 30=5:=by kernel_rfl
 have hs:(sizeOf 5).run Tryz.prog W=.ok 1 W:=by simp[sizeOf,typeInfo,g2,g4]
 rw[run_slice_l W 30 _ n n (by rw[ee];exact Tryz.underlying30) .i64 (n:Int) (by omega) (by omega),ee,hs]
 simp[sliced]
theorem bsl_empty {w:World}{b off cap:Nat}:BSl w (.slice (some ⟨b,off,none⟩) 0 cap) []:=⟨byt_nil,.inr ⟨⟨b,off,none⟩,cap,rfl,Nat.zero_le _,fun j hj=>absurd hj (Nat.not_lt_zero _)⟩⟩
theorem slice_0a (a:Addr) (cap:Nat):∃ a1 a2 c1 c2,(∀ W,(Instr.slice 30 (.slice (some a) 0 cap) none (some (.int .i64 0)) none).run Tryz.prog W=.ok (.slice (some a1) 0 c1) W)/\(∀ W,(Instr.slice 30 (.slice (some a) 0 cap) (some (.int .i64 0)) none none).run Tryz.prog W=.ok (.slice (some a2) 0 c2) W):=by
 obtain ⟨i,g2,g3,g4,g5⟩:=info_parts infoU8
 have ee:Tryz.prog.elem 30=5:=by kernel_rfl
 have hs:∀ W,(sizeOf 5).run Tryz.prog W=.ok 1 W:=fun W=>by simp[sizeOf,typeInfo,g2,g4]
 by_cases h0:cap=0
 · subst h0
   refine ⟨a,a,0,0,fun W=>?_,fun W=>?_⟩
   · rw[run_slice_h W 30 _ 0 0 (by rw[ee];exact Tryz.underlying30) .i64 0 (by omega) (by omega),ee,hs]
     simp[sliced]
   · rw[run_slice_l W 30 _ 0 0 (by rw[ee];exact Tryz.underlying30) .i64 0 (by omega) (by omega),ee,hs]
     simp[sliced]
 · refine ⟨a.add 0,a.add 0,cap,cap,fun W=>?_,fun W=>?_⟩
   · rw[run_slice_h W 30 _ 0 cap (by rw[ee];exact Tryz.underlying30) .i64 0 (by omega) (by omega),ee,hs]
     simp[sliced,h0]
   · rw[run_slice_l W 30 _ 0 cap (by rw[ee];exact Tryz.underlying30) .i64 0 (by omega) (by omega),ee,hs]
     simp[sliced,h0]
theorem bsl_zero8 {w:World}{a:Addr}{cap:Nat}:BSl w (.slice (some a) 0 cap) []:=⟨byt_nil,.inr ⟨a,cap,rfl,Nat.zero_le _,fun j hj=>absurd hj (Nat.not_lt_zero _)⟩⟩
theorem cuts_of {w:World}{v:Value}{l:List Int} (hv:BSl w v l) {k:Nat} (hk:k<=l.length) (hl:(l.length:Int)<=9223372036854775807):
 ∃ v1 v2,(∀ W,(Instr.slice 30 v none (some (.int .i64 (k:Int))) none).run Tryz.prog W=.ok v1 W)/\(∀ W,(Instr.slice 30 v (some (.int .i64 (k:Int))) none none).run Tryz.prog W=.ok v2 W)/\BSl w v1 (l.take k)/\BSl w v2 (l.drop k):=by
 rcases hv.2 with ⟨rfl,rfl⟩| ⟨⟨b,off,spot⟩,cap,rfl,hcap,hc⟩
 · obtain rfl:k=0:=by simpa using hk
   exact ⟨_,_,slice_h8n,slice_l8n,bsl_nil w,bsl_nil w⟩
 · by_cases h0:l.length=0
   · obtain rfl:l=[]:=List.eq_nil_of_length_eq_zero h0
     obtain rfl:k=0:=by simpa using hk
     obtain ⟨a1,a2,c1,c2,r1,r2⟩:=slice_0a ⟨b,off,spot⟩ cap
     exact ⟨_,_,r1,r2,bsl_zero8,bsl_zero8⟩
   · obtain rfl:spot=none:=(hc 0 (by omega)).2.1
     have hm1:=hv.mid 0 k (by omega)
     rw[Nat.add_zero,Nat.sub_zero,List.drop_zero] at hm1
     by_cases hkc:k<cap
     · have hm2:=hv.mid k (l.length-k) (by omega)
       rw[List.take_of_length_le (show (l.drop k).length<=l.length-k by rw[List.length_drop];exact Nat.le_refl _)] at hm2
       exact ⟨_,_,fun W=>slice_h8 W b off l.length cap k (by omega) (by omega),fun W=>run_slice_part W b off l.length cap k l.length none (.inl ⟨rfl,rfl⟩) hk hcap hkc,hm1,hm2⟩
     · obtain rfl:k=cap:=by omega
       have e:k=l.length:=by omega
       subst e
       rw[List.drop_length]
       exact ⟨_,_,fun W=>slice_h8 W b off _ _ _ (by omega) (by omega),fun W=>slice_l8e W b off _ hl,hm1,bsl_empty⟩
end Go.Proofs.YtedabomlfcghoaaGreat
