/- What the law rests on. -/
import Derived.Lib.Bytealg
import Derived.Lib.AppendStr
import Derived.RangeFuncFrom
import Derived.Laws.Externs
import Derived.Test.YtdefiimcmecnnaaGreatQC11
open Go.Value renaming int->J,slice->Ak,pointer->Am,tuple->AO,bool->A1,agg->BD
open Go.IntKind renaming i64->H
open Go.Proofs.Tryz renaming prog->Ae
open Option renaming none->U,some->G
open Go.Ending renaming returned->Ag
open Go renaming World->I,Value->Aq,Calls->AA,Oper->BS,wpList->Cn
open List renaming getElem_cons_zero->Ao,getElem_cons_succ->Ap,getElem_toArray->As,set_cons_succ->Au,set_cons_zero->Av,replicate->AD,nil_append->B0,length_cons->Ch,range->Co
open Go.Obj renaming cells->Ar
open Go.RowKit renaming Below->At
open Bool renaming false->AI,true->AL
open Or renaming inl->AN,inr->Ba
open Go.Act renaming put->AR
open Array renaming replicate->A3
open Int renaming toNat_natCast->B5
namespace Go.Proofs.YtdefiimcmecnnaaGreat
set_option maxHeartbeats 12000000
set_option linter.unusedVariables false
set_option maxRecDepth 100000
theorem BZ:type_of% @List.drop_of_length_le:=@List.drop_of_length_le
theorem Cl:type_of% @List.pairwise_cons:=@List.pairwise_cons
section
open Go.RowKit BM
section
variable {w:I}{P:Nat->Prop}{d p:Aq}{X:XSt}{S:List Int}{N:List (List Int)}{O:List (Int × Int)}{kk:Nat}{F:Nat->List Int}{bf n sz:Nat}{M:Nat->Option (List Int)}{Q:List Int}
def WrK(w3:I)(P:Nat->Prop)(d p:Aq)(X:XSt)(S:List Int)(N:List (List Int))(O:List (Int × Int))(kk:Nat)(F:Nat->List Int)(bf n sz:Nat)(M:Nat->Option (List Int))(Q:List Int)(a C:Nat)(l:List Int)(k:Nat)(wr:I):Prop:=
 FlO w3 P d p X S N O kk F bf n Q sz (wrL M a (l.take (Dz a C k))) (2*k) R5 wr
theorem g_{O1:List (Int × Int)}{M1 M2 M3:Nat->Option (List Int)}(hc:Dm O1 (64*kk)+DL M=Dm O (64*kk)+DL M1)(hm:DL M2<=DL M3)(hn:¬ Fp O1 kk M1 M2):¬ Fp O kk M M3:=by
 unfold Fp at hn |-
 omega
theorem WrK.step{w3 wr V:I}{a C k:Nat}{l:List Int}(h3:Flt w3 P d p X S N O kk F bf n sz M Q)(h:WrK w3 P d p X S N O kk F bf n sz M Q a C l k wr)(h1:1<=n)(Bu:n<48)(hV:At wr.heap.size wr V)(hk:k<Jq a C)(hQ:Q.length+2*Jq a C<=34)(hC:C<=l.length)(hx:a+C<=35328)
 (hby:FJ l) {u:Aq} (hu:BSl w3 u ((l.drop (Dz a C k)).take (C-Dz a C k))) (ak:Apt P u):
 (AA Ae 48 #[Am (G ⟨bf,0,U⟩),J H n,BD #[J H ((a / 256+k:Nat):Int),J H (((a+Dz a C k)%256:Nat):Int),J H (((a+Dz a C k)%256+(Dz a C (k+1)-Dz a C k):Nat):Int)],u] V fun e w'=>e=Ag (J H 0)/\WrK w3 P d p X S N O kk F bf n sz M Q a C l (k+1) w'/\∀ b,wr.heap.size<=b->b<V.heap.size->w'.heap[b]? =V.heap[b]?)\/
 (AA Ae 48 #[Am (G ⟨bf,0,U⟩),J H n,BD #[J H ((a / 256+k:Nat):Int),J H (((a+Dz a C k)%256:Nat):Int),J H (((a+Dz a C k)%256+(Dz a C (k+1)-Dz a C k):Nat):Int)],u] V fun e w'=>e=Ag (J H 13)/\¬ Fp O kk M (wrL M a (l.take C))/\FlE w3 P d p X S kk bf w'):=by
 obtain⟨P1,X1,N1,O1,F1,Q1,a1',b1,c1,d1,f1',_⟩:=h;have Vk:=a1'.md.inv.lt;have a1:=a1'.low hV;have f1:=f1'.trans (Chg.of_below (P:=P1) hV);obtain⟨s1,s2,s3,s4⟩:=Ko hk;have Mi:=YH a C (k+1);have hlt:=hu.chg ak f1;obtain⟨D,hD⟩:=nm (Dz a C k);obtain⟨E,hE⟩:=nm (Dz a C (k+1));rw[<- hD] at s1 s2 s3 s4 a1 hu hlt |-
 rw[<- hE] at s2 s3 Mi |-
 unfold WrK;rw[<- hE];have hlen:((l.drop D).take (C-D)).length=C-D:=by rw[AK,AU];omega
 have XJ:((l.drop D).take (C-D)).take (E-D)=(l.drop D).take (E-D):=by rw[List.take_take,DF (by omega)]
 have hl1:(l.take D).length=D:=by rw[AK];omega
 have hM:E7 (wrL M a (l.take D)) (a / 256+k) (splice (Ga (wrL M a (l.take D)) (a / 256+k)) ((a+D)%256) ((l.drop D).take (E-D)))=wrL M a (l.take E):=by
  have e1:l.take E=l.take D ++ (l.drop D).take (E-D):=by
   rw[show E=D+(E-D) by omega,List.take_add,show D+(E-D)-D=E-D by omega]
  have e2:((l.drop D).take (E-D)).length=E-D:=by rw[AK,AU];omega
  rw[e1,MH,hl1,TB _ _ (a+D) (a / 256+k) ((a+D)%256) (by omega) (by omega) (by omega) a1.ft.ok (Ez (NE hby D) _)]
 by_cases hf:Fp O1 kk (wrL M a (l.take D)) (E7 (wrL M a (l.take D)) (a / 256+k) z256)
 . refine AN ((QM a1 h1 Bu (by omega) (i:=a / 256+k) (o:=(a+D)%256) (m:=E-D) (by omega) (by omega) (by omega) hlt.1 hlt.2 (by rw[hlen];omega) hf).mono ?_)
   rintro e w' ⟨he,ho⟩;rw[XJ,hM] at ho;obtain⟨P',X',N',O',F',Q',a2,b2,c2,d2,f2,g2⟩:=ho;exact⟨he,⟨P',X',N',O',F',Q',a2,b1.trans b2,fun x hx=>c2 x (c1 x hx),by omega,f1.trans f2,g2⟩,fun b hb1 hb2=>(f2.keep b hb2 fun hp=>by have:=Vk b hp;omega).1⟩
 . refine Ba ((QT a1 h1 Bu (by omega) (i:=a / 256+k) (by omega) hf).mono ?_)
   rintro e w' ⟨he,P',X',N',O',F',hm,hon,hg⟩;refine⟨he,g_ (h3.cnt a1.ft b1) ?_ hf,P',X',N',O',F',hm,b1.on.trans hon,f1.trans hg⟩;rw[Tk _ _ z256 (splice (Ga (wrL M a (l.take D)) (a / 256+k)) ((a+D)%256) ((l.drop D).take (E-D))),hM];have e3:l.take C=l.take E ++ (l.drop E).take (C-E):=by
    rw[show C=E+(C-E) by omega,List.take_add,show E+(C-E)-E=C-E by omega]
   rw[e3,MH];exact J3 fun i _ h=>RF _ _ _ i h
def vF(w:I)(P:Nat->Prop)(d p:Aq)(X:XSt)(S:List Int)(N:List (List Int))(O:List (Int × Int))(kk:Nat)(F:Nat->List Int)(bf n sz:Nat)(M:Nat->Option (List Int))(Q:List Int)(a C:Nat)(l:List Int)(e:Ending)(w':I):Prop:=
 (e=Ag (AO #[J H C,J H 0])/\Fp O kk M (wrL M a (l.take C))/\FlO w P d p X S N O kk F bf n Q (if C=0 then sz else max sz (a+C)) (wrL M a (l.take C)) (2*Jq a C) R5 w')\/
 (e=Ag (AO #[J H 0,J H 13])/\¬ Fp O kk M (wrL M a (l.take C))/\FlE w P d p X S kk bf w')
theorem WrK.last{w3:I}{a C:Nat}{l:List Int}(h3:Flt w3 P d p X S N O kk F bf n sz M Q){wr:I}(h:WrK w3 P d p X S N O kk F bf n sz M Q a C l (Jq a C) wr)(h1:1<=n)(Bu:n<48)(hQ:Q.length+2*Jq a C<=34)(hx:a+C<=35328):
 Fp O kk M (wrL M a (l.take C))/\(¬ (0<C/\sz<a+C)->FlO w3 P d p X S N O kk F bf n Q (if C=0 then sz else max sz (a+C)) (wrL M a (l.take C)) (2*Jq a C) R5 wr)/\
 (0<C/\sz<a+C->AA Ae 49 #[Am (G ⟨bf,0,U⟩),J H n,J H ((a+C:Nat):Int)] wr fun e w'=>e=Ag (J H 0)/\FlO w3 P d p X S N O kk F bf n Q (if C=0 then sz else max sz (a+C)) (wrL M a (l.take C)) (2*Jq a C) R5 w'):=by
 unfold WrK at h;rw[T5] at h;refine⟨?_,fun hn=>?_,fun hy=>?_⟩
 . obtain⟨P1,X1,N1,O1,F1,Q1,a1,b1,_⟩:=h
   have h4:=h3.cnt a1.ft b1;have h5:=a1.rm;unfold Fp;omega
 . have e:(if C=0 then sz else max sz (a+C))=sz:=by split <;> omega
   rw[e];exact h
 . obtain⟨P1,X1,N1,O1,F1,Q1,a1,b1,c1,d1,f1,_⟩:=h
   refine(a1.size h1 Bu (by omega) hx).mono ?_;rintro e w' ⟨he,ho⟩;have e2:(if C=0 then sz else max sz (a+C))=a+C:=by rw[AE (by omega)];omega
   rw[e2];exact⟨he,FlO.then (k:=0) b1 c1 d1 f1 ho⟩
theorem Rh(h:Flt w P d p X S N O kk F bf n sz M Q)(h1:1<=n)(Bu:n<48){v:Aq}{l:List Int}(hv:BSl w v l)(ak:Apt P v){a C:Nat}(hC:C=min l.length 1024)(hl:l.length<=9223372036854775807)(hQ:Q.length+2*Jq a C<=34)(hx:a+C<=35328):
 AA Ae 22 #[Am (G ⟨bf,0,U⟩),J H n,J H a,v] w (vF w P d p X S N O kk F bf n sz M Q a C l):=by
 have KF0:=MF h.md.rd h1 Bu h.ft.k0;have LF:=h.md.pl.tab.n.get Bu;have En:=h.ft.zs;have lT:=h.ft.sb;have HN:Hid (∀ (w3:I),At w.heap.size w w3->Flt w3 P d p X S N O kk F bf n sz M Q/\BSl w3 v l/\∀ k,P k->k<w.heap.size):=vJ fun w3 hb=>⟨h.low hb,hv.below hb,h.md.inv.lt⟩
 have HBY:=vJ hv.1;obtain⟨ao,cap,rfl,Cm⟩:=hv.shape;have HSL:Hid (0<C->∃ ub uo,ao=G ⟨ub,uo,U⟩):=vJ fun h0=>by
  obtain⟨ub,uo,uc,e,_⟩:=hv.open' (by omega);exact⟨ub,uo,(A0 e).1⟩
 have HAP:=vJ ak;obtain⟨x,Sl⟩:=nm (N.getD n []);rw[<- Sl] at KF0 LF En;obtain⟨kd,ln,sz',d0,d1,d2,d3,d4,d5,d6,d7,d8,d9,mp,rfl⟩:=JU LF;have Pa:sz'=(sz:Int):=En;subst Pa;have KF:Hid (AA Ae 46 #[Am (G ⟨bf,0,U⟩),J H n] w fun e w'=>e=Ag (AO #[BD #[J H kd,J H ln,J H sz,J H d0,J H d1,J H d2,J H d3,J H d4,J H d5,J H d6,J H d7,J H d8,J H d9,J H mp],J H 0])/\At w.heap.size w w'):=vJ KF0;have KS:=vJ (fun V=>Pg (a:=a) (K:=C) (Z:=(C:Int)) (AN rfl) (by omega) (by omega) V);obtain⟨L,hL⟩:=nm l.length;have HL:=vJ hL;have e1:(0:Int)<=(a:Int):=by omega
 have e2:min (L:Int) 1024=(C:Int):=by omega
 have e3:¬ (35328-(C:Int))<(a:Int):=by omega
 have eC:(C:Int)<=1024:=by omega
 have eL:(L:Int)<=9223372036854775807:=by omega
 have HCL:Hid (C<=l.length/\C<=L/\C<=1024):=vJ (by omega);have HX:=vJ hx;have HQ:=vJ hQ;have hsb2:(sz:Int)<=35328:=by omega
 have HCAP:Hid (L<=cap):=vJ (by omega);rw[<- hL];clear h hv ak KF0 LF En Sl hL hC hx hQ Cm hl;go_enter Tryz.func22,Tryz.ntmps22
 go_wp2_with (first
  |(go_at_call 46;refine KF.out.mono ?_;rintro e w2 ⟨rfl,hb2⟩
    have hr2:=Aw w2 (Ar #[J H kd,J H ln,J H sz,J H d0,J H d1,J H d2,J H d3,J H d4,J H d5,J H d6,J H d7,J H d8,J H d9,J H mp] 80);have hb3:=hb2.trans ((Ay w2 (Ar #[J H kd,J H ln,J H sz,J H d0,J H d1,J H d2,J H d3,J H d4,J H d5,J H d6,J H d7,J H d8,J H d9,J H mp] 80)).mono hb2.size);have GN:=hb2.size)
  |(go_at_call 47;refine(KS.out _).mono ?_;rintro e w4 ⟨sv,rfl,hv4,hb4⟩;obtain⟨so,scap,rfl,CX⟩:=hv4))
 have hb34:=hb3.trans (hb4.mono hb3.size);obtain⟨hf4,hv4,r9⟩:=HN.out w4 hb34;have hr4:=BA hr2 hb4;have HNB:Hid (∀ wr P1,Chg P P1 w4 wr->wr.cell? ⟨w2.heap.size,2,U⟩=G (J H sz)):=vJ fun wr P1 hg=>by
  have:=(hg.keep w2.heap.size (Al.1 hr4).1 fun hp=>by have:=r9 _ hp;omega).1.trans hr4;rw[Az _ _ _ _ _ _ this];rfl
 have HCE:Hid (∀ wr P1,Chg P P1 w4 wr->0<Jq a C->∃ g,so=G ⟨g,0,U⟩/\∀ k,k<Jq a C->wr.cell? ⟨g,k*3,U⟩=G (J H ((a / 256+k:Nat):Int))/\wr.cell? ⟨g,k*3+1,U⟩=G (J H (((a+Dz a C k)%256:Nat):Int))/\
  wr.cell? ⟨g,k*3+2,U⟩=G (J H (((a+Dz a C k)%256+(Dz a C (k+1)-Dz a C k):Nat):Int))):=vJ fun wr P1 hg h0=>by
  obtain⟨g,e,XK,Ok,hc⟩:=CX h0;have hgp:¬ P g:=fun hp=>by have:=r9 _ hp;have:=hb3.size;omega
  refine⟨g,e,fun k hk=>?_⟩;obtain⟨a0,a1,a2⟩:=hc k hk;exact⟨(hg.cell Ok hgp).trans a0,(hg.cell Ok hgp).trans a1,(hg.cell Ok hgp).trans a2⟩
 have H0:Hid (WrK w4 P d p X S N O kk F bf n sz M Q a C l 0 w4):=vJ (by
  unfold WrK;rw[NW,List.take_zero];exact hf4.here trivial)
 have KST:=vJ (fun wr V k (h:WrK w4 P d p X S N O kk F bf n sz M Q a C l k wr) (hV:At wr.heap.size wr V) (hk:k<Jq a C) u (hu:BSl w4 u ((l.drop (Dz a C k)).take (C-Dz a C k))) (ak:Apt P u)=>WrK.step hf4 h h1 Bu hV hk HQ.out HCL.out.1 HX.out HBY.out hu ak);have KLA:=vJ (fun wr (h:WrK w4 P d p X S N O kk F bf n sz M Q a C l (Jq a C) wr)=>WrK.last hf4 h h1 Bu HQ.out HX.out);have HLO:Hid (∀ wr k,WrK w4 P d p X S N O kk F bf n sz M Q a C l k wr->∃ P1,Chg P P1 w4 wr):=vJ fun wr k ⟨P1,X1,N1,O1,F1,Q1,a1,b1,c1,d1,f1,_⟩=>⟨P1,f1⟩
 have HLW:Hid (∀ wr wr' k,At wr.heap.size wr wr'->WrK w4 P d p X S N O kk F bf n sz M Q a C l k wr->WrK w4 P d p X S N O kk F bf n sz M Q a C l k wr'):=vJ fun wr wr' k hb ⟨P1,X1,N1,O1,F1,Q1,a1,b1,c1,d1,f1,r1⟩=>⟨P1,X1,N1,O1,F1,Q1,a1.low hb,b1,c1,d1,f1.trans (Chg.of_below hb),r1⟩
 have HW4:Hid (At w.heap.size w w4):=vJ hb34;have HV4:=vJ hv4;have HDZ:=vJ (NW a C);have HDS:=vJ (fun k (hk:k<Jq a C)=>Ko hk);have HDL:=vJ (fun k=>YH a C k);have HSC:Hid (0<Jq a C->0<C):=vJ fun h=>by
  have:=(Ko h).1;omega
 obtain⟨c,hc⟩:=nm (Jq a C);rw[<- hc] at HCE KST KLA HDS HSC |-
 have HCC:=vJ hc;have HCB:Hid (c<=1000):=vJ (by
  rw[hc];unfold Jq;have:=HCL.out;split <;> omega)
 clear hb2 hb3 hb4 hb34 hf4 hv4 r9 hr2 hr4 CX GN hc h1 Bu;go_loopw [13,40] (fun st i wr=>∃ k:Nat,k<=c/\i=J H k/\st=J H ((Dz a C k:Nat):Int)/\Hid (WrK w4 P d p X S N O kk F bf n sz M Q a C l k wr)) (fun _ i _=>c-(intOf i).toNat)
 case atStart=>exact⟨0,AX _,rfl,by rw[HDZ.out];rfl,H0⟩
 case round=>
  obtain⟨k,hk,rfl,rfl,HS⟩:=hrel;clear H0;by_cases hlt:k<c
  . obtain⟨P1,hg1⟩:=HLO.out _ _ HS.out
    obtain⟨g,rfl,cG⟩:=HCE.out _ _ hg1 (by omega);obtain⟨c0,c1,c2⟩:=cG k hlt;obtain⟨s1,s2,s3,s4⟩:=HDS.out k hlt;obtain⟨ub,uo,rfl⟩:=HSL.out (HSC.out (by omega));have hdl:=HDL.out (k+1);have hb5:=Ay wr (Ar #[J H ((a / 256+k:Nat):Int),J H (((a+Dz a C k)%256:Nat):Int),J H (((a+Dz a C k)%256+(Dz a C (k+1)-Dz a C k):Nat):Int)] 96);have hu:BSl w4 (Ak (G ⟨ub,uo+Dz a C k,U⟩) (C-Dz a C k) (cap-Dz a C k)) ((l.drop (Dz a C k)).take (C-Dz a C k)):=by
     have h1:=HV4.out;exact h1.mid _ _ (by have:=HCL.out;omega)
    have ak:Apt P (Ak (G ⟨ub,uo+Dz a C k,U⟩) (C-Dz a C k) (cap-Dz a C k)):=Apt.new (HAP.out _ _ _ rfl (by have:=HCL.out;omega));have hst:=KST.out wr _ k HS.out (hb5.trans ((AM _ _).drew.mono hb5.size)) hlt _ hu ak;have E3:=Aw wr (Ar #[J H ((a / 256+k:Nat):Int),J H (((a+Dz a C k)%256:Nat):Int),J H (((a+Dz a C k)%256+(Dz a C (k+1)-Dz a C k):Nat):Int)] 96);have HNEXT:Hid (Dz a C (k+1)=Dz a C k+(Dz a C (k+1)-Dz a C k)):=vJ (by omega);have hc1024:=HCL.out.2.2;have hcL:=HCL.out.2.1;have hLc:=HCAP.out;have HCC2:=HCC;obtain⟨D,hD⟩:=nm (Dz a C k);obtain⟨E,hE⟩:=nm (Dz a C (k+1));rw[<- hD] at c1 c2 s1 s2 s3 hu hst E3 HNEXT |-
    rw[<- hE] at c2 s2 s3 hdl hst E3 HNEXT;have HD:=vJ hD;have HE:=vJ hE;obtain⟨f,hf⟩:=nm ((a+D)%256);obtain⟨q,hq⟩:=nm (a / 256+k);rw[<- hf] at c1 c2 hst E3;rw[<- hq] at c0 hst E3;obtain⟨t,ht⟩:=nm (f+(E-D));rw[<- ht] at c2 hst E3;obtain⟨W5,hW5⟩:=nm (wr.alloc (Ar #[J H q,J H f,J H t] 96));have uR:W5.heap.size=wr.heap.size+1:=(by rw[hW5];simp);have HSZ5:=vJ uR;have H5:=vJ hW5.symm;rw[<- hW5] at hst E3;have HR5:=vJ E3;have y0:W5.cell? ⟨wr.heap.size,0,U⟩=G (J H q):=(by rw[Az _ _ _ _ _ _ E3];rfl);have y1:W5.cell? ⟨wr.heap.size,1,U⟩=G (J H f):=(by rw[Az _ _ _ _ _ _ E3];rfl);have y2:W5.cell? ⟨wr.heap.size,2,U⟩=G (J H t):=(by rw[Az _ _ _ _ _ _ E3];rfl);clear hW5 uR;have HT:Hid (t-f=E-D/\f<=t/\t<=256):=vJ (by omega);have hsl:∀ W,(Instr.slice 49 (Ak (G ⟨ub,uo,U⟩) L cap) (G (J H D)) (G (J H C)) U).run Ae W=.ok (Ak (G ⟨ub,uo+D,U⟩) (C-D) (cap-D)) W:=fun W=>Ew W ub uo L cap D C _ (Ba rfl) (by omega) (by omega) (by omega)
    have ek:(k:Int)<(c:Int):=(by omega);have Qv:f<=t:=(by omega);have tU:t<=256:=(by omega);have hD2:D<=1024:=(by omega);clear s1 s2 s3 s4 hdl hu ak hD hE hf hq ht cG hg1 HS hb5 E3;have hcb2:=HCB.out;rcases hst with hA|hB
    . have HA:=vJ hA
      clear hA;go_wp2;rw[H5.out];go_still_tail 7,(by kernel_rfl)
      go_wp2_with (go_at_call 48;refine HA.out.mono ?_;rintro e w6 ⟨rfl,h6,uI⟩
                   have HS6:=vJ h6;have hr6:w6.heap[wr.heap.size]? =G (Ar #[J H q,J H f,J H t] 96 (0,0)):=(uI _ (AB _) (by show _<W5.heap.size;have:=HSZ5.out;omega)).trans HR5.out;have x1:w6.cell? ⟨wr.heap.size,1,U⟩=G (J H f):=(by rw[Az _ _ _ _ _ _ hr6];rfl);have x2:w6.cell? ⟨wr.heap.size,2,U⟩=G (J H t):=(by rw[Az _ _ _ _ _ _ hr6];rfl);clear h6 uI hr6)
      clear x1 x2;have hk1:k+1<=c:=(by omega);go_roundw
      case rel=>exact⟨k+1,hk1,by go_num,by rw[<- HE.out,HNEXT.out,<- HT.out.1];go_num,HS6⟩
      case measure=>simp[intOf];omega
    . have HB:=vJ hB
      clear hB;go_wp2;rw[H5.out];go_still_tail 7,(by kernel_rfl)
      go_wp2_with (go_at_call 48;refine HB.out.mono ?_;rintro e w6 ⟨rfl,oT,h6⟩)
      go_ret2;exact Ba ⟨rfl,oT,h6.widen HW4.out⟩
  . obtain rfl:k=c:=by omega
    obtain⟨P1,hg1⟩:=HLO.out _ _ HS.out;have cn:=HNB.out _ _ hg1;obtain⟨IE,C6,EI⟩:=KLA.out _ HS.out;have HF:=vJ IE;clear IE hg1;by_cases uS:0<C
    . have eC0:(0:Int)<(C:Int):=by omega
      by_cases cQ:sz<a+C
      . have KZ:=vJ (EI ⟨uS,cQ⟩)
        have e5:(sz:Int)<(a:Int)+(C:Int):=(by omega);have e6:(((a+C:Nat):Nat):Int)=(a:Int)+(C:Int):=(by omega);rw[e6] at KZ;clear C6 EI uS cQ e6;go_wp2_with (go_at_call 49;refine KZ.out.mono ?_;rintro e w7 ⟨rfl,h7⟩)
        go_ret2;exact AN ⟨rfl,HF.out,by have h8:=h7.widen HW4.out;rw[HCC.out] at h8;exact h8⟩
      . have HN7:=vJ (C6 (fun e=>cQ e.2))
        have e5:¬ (sz:Int)<(a:Int)+(C:Int):=(by omega);clear C6 EI uS cQ;go_wp2;go_ret2;exact AN ⟨rfl,HF.out,by have h8:=HN7.out.widen HW4.out;rw[HCC.out] at h8;exact h8⟩
    . have HN7:=vJ (C6 (fun e=>uS e.1))
      have eC0:¬ (0:Int)<(C:Int):=(by omega);clear C6 EI uS;go_wp2;go_ret2;exact AN ⟨rfl,HF.out,by have h8:=HN7.out.widen HW4.out;rw[HCC.out] at h8;exact h8⟩
end
section
variable {w0 w:I}{d p:Aq}{kk bf n sz m sm:Nat}{M Mm:Nat->Option (List Int)}{P:Nat->Prop}
theorem Fsm.low{X:XSt}{S:List Int}{N:List (List Int)}{O:List (Int × Int)}{F:Nat->List Int}(h:Fsm w0 w P d p X S N O kk F bf){w':I}(hb:At w.heap.size w w'):Fsm w0 w' P d p X S N O kk F bf:=h.next (h.inv.low hb) h.wi (Onw.refl _) (Chg.of_below hb)
end
end
section
open Go.RowKit
def Fx(s:ByteArray):List Int:=s.data.toList.map fun c=>(c.toNat:Int)
theorem DP(s:ByteArray):(Fx s).length=s.size:=by
 rw[Fx,Bk,Array.length_toList];rfl
theorem ND(s:ByteArray):FJ (Fx s):=CE fun x hx=>by
 obtain⟨c,_,rfl⟩:=Cq.1 hx;have:=c.toNat_lt;omega
theorem ZH(s:ByteArray):strOfNums (Fx s)=s:=by
 obtain⟨⟨l⟩⟩:=s;unfold strOfNums Fx;congr 2;simp only[List.map_map]
 conv=>rhs;rw[<- List.map_id l]
 apply CN;intro c _;simp
theorem MP(s:ByteArray):Lib.strCells s=(Fx s).map (J .u8):=by
 unfold Lib.strCells Fx;rw[List.map_map];rfl
theorem lz(s:ByteArray)(k:Nat)(h:k<s.size):(Fx s).getD k 0=((s[k]).toNat:Int):=by
 have h2:k<s.data.toList.length:=by rw[Array.length_toList];exact h
 unfold Fx;rw[An,List.getElem?_map,AS h2];rfl
def jj(x:Int):Bool:=!(x==0 || x==47)
def MW(s:ByteArray):Bool:=(Fx s).all jj
def Lu(s:ByteArray)(k:Nat):Bool:=((Fx s).take k).all jj
theorem VF(s:ByteArray):Lu s 0=AL:=by simp[Lu]
theorem YN(s:ByteArray):Lu s s.size=MW s:=by
 unfold Lu MW;rw[<- DP,B8]
theorem Wk(s:ByteArray)(k:Nat)(h:k<s.size):Lu s (k+1)=(Lu s k && jj ((Fx s).getD k 0)):=by
 have hk:k<(Fx s).length:=by rw[DP];exact h
 unfold Lu;rw[Bn hk,List.all_append];simp[hk]
theorem dh(s:ByteArray)(k:Nat)(h:k<s.size)(hb:jj ((Fx s).getD k 0)=AI):MW s=AI:=by
 have hk:k<(Fx s).length:=by rw[DP];exact h
 unfold MW;rw[List.all_eq_false];refine⟨(Fx s)[k],Bf hk,?_⟩;rw[An,AS hk] at hb
 simpa using hb
theorem aJ(l:List UInt8)(c:UInt8):decide (Lib.indexByte l c<0)=l.all (fun b=>!(b==c)):=by
 induction l with
 |nil=>rfl
 |cons b l ih=>
  have hg:=Lib.indexByte_ge l c;unfold Lib.indexByte;rw[List.all_cons,<- ih];cases hb:b==c
  . rw[AE (by simp)]
    by_cases e:Lib.indexByte l c= -1
    . rw[e];rfl
    . rw[AE (by simpa using e),AG (by omega),AG (by omega)];rfl
  . rw[AC rfl];rfl
theorem dE(s:ByteArray):MW s=(decide (Lib.indexByte s.data.toList 0<0) && decide (Lib.indexByte s.data.toList 47<0)):=by
 rw[aJ,aJ];unfold MW Fx;rw[List.all_map];induction s.data.toList with
 |nil=>rfl
 |cons b l ih=>
  rw[List.all_cons,List.all_cons,List.all_cons,ih];have e:(jj ∘ fun c:UInt8=>(c.toNat:Int)) b=(!(b==0) && !(b==47)):=by
   have e0:((b.toNat:Int)==0)=(b==0):=by
    rw[Bool.eq_iff_iff,beq_iff_eq,beq_iff_eq];constructor
    . intro h;apply UInt8.toNat_inj.1;have:(0:UInt8).toNat=0:=rfl;omega
    . intro h;rw[h];rfl
   have e1:((b.toNat:Int)==47)=(b==47):=by
    rw[Bool.eq_iff_iff,beq_iff_eq,beq_iff_eq];constructor
    . intro h;apply UInt8.toNat_inj.1;have:(47:UInt8).toNat=47:=rfl;omega
    . intro h;rw[h];rfl
   show(!((b.toNat:Int)==0 || (b.toNat:Int)==47))=_
   rw[e0,e1,Bool.not_or]
  rw[e];cases (!(b==0)) <;> cases (!(b==47)) <;> simp
def dot1:ByteArray:=⟨#[46]⟩
def dot2:ByteArray:=⟨#[46,46]⟩
def Er(s:ByteArray):Bool:=decide (1<=s.size) && (decide (s.size<=13) && (!(s.toList==dot1.toList) && (!(s.toList==dot2.toList) && MW s)))
def C3(e:Int × ByteArray):Bool:=decide (1<=e.1) && (decide (e.1<48) && Er e.2)
theorem dH{s:ByteArray}(h:Er s=AL):1<=s.size/\s.size<=13:=by
 unfold Er at h;rw[AY,AY,Bd,Bd] at h;exact⟨h.1,h.2.1⟩
theorem Ln{e:Int × ByteArray}(h:C3 e=AL):1<=e.1/\e.1<48/\Er e.2=AL:=by
 unfold C3 at h;rw[AY,AY,Bd,Bd] at h;exact⟨h.1,h.2.1,h.2.2⟩
theorem CF{e:Int × ByteArray}(h:C3 e=AL):1<=e.2.size/\e.2.size<=13:=dH (Ln h).2.2
def Tg(e:Int × ByteArray):List Int:=BN e.1 2 ++ ((e.2.size:Int) :: Fx e.2)
def Db(e:Int × ByteArray):List Int:=Tg e ++ AD (13-e.2.size) 0
theorem MG(e:Int × ByteArray):(Tg e).length=3+e.2.size:=by
 rw[Tg,Ax,Bc,Ch,DP];omega
theorem Di{e:Int × ByteArray}(h:e.2.size<=13):(Db e).length=16:=by
 rw[Db,Ax,MG,A4];omega
theorem nh{e:Int × ByteArray}(h:e.2.size<=13):FJ (Tg e):=
 CS (CE (lm _ _)) (CE fun x hx=>by
  rcases Cy.1 hx with rfl|hx
  . omega
  . exact CZ (ND _) x hx)
theorem Oa{e:Int × ByteArray}(h:e.2.size<=13):FJ (Db e):=CS (nh h) (CW _)
theorem jU(n:Nat)(h:n<=13):BN (n:Int) 1=[(n:Int)]:=by
 rw[Hz,Hy,B0,Nat.mul_zero,Int.pow_zero,Int.ediv_one,Dw (by omega) (by omega)]
theorem fR(e:Int × ByteArray)(h:e.2.size<=13):Tg e=(([] ++ BN e.1 2) ++ BN (e.2.size:Int) 1) ++ Fx e.2:=by
 rw[jU _ h,Tg,B0];simp
def So(c:List Int):Int × ByteArray:=(Cc c 0 2,strOfNums ((c.drop 3).take (c.getD 2 0).toNat))
def UV(c:List Int):Prop:=1<=c.getD 2 0/\c.getD 2 0<=13
theorem NY(e:Int × ByteArray):(Db e).getD 2 0=e.2.size:=by
 have h2:=Bc e.1 2;rw[Db,Tg,AQ,An,BG (by omega),h2];rfl
theorem Nv{e:Int × ByteArray}(h:C3 e=AL):So (Db e)=e:=by
 obtain⟨h1,h2,_⟩:=Ln h;have hl:=Bc e.1 2;have e1:Cc (Db e) 0 2=e.1:=by
  unfold Cc;rw[CP,Db,Tg,AQ,CT (by omega),AV (by omega),Kq _ _ (by omega)];exact Dw (by omega) (by omega)
 have e2:((Db e).drop 3).take ((Db e).getD 2 0).toNat=Fx e.2:=by
  rw[NY,B5];have e3:Db e=(BN e.1 2 ++ [(e.2.size:Int)]) ++ (Fx e.2 ++ AD (13-e.2.size) 0):=by
   rw[Db,Tg];simp
  have e4:(BN e.1 2 ++ [(e.2.size:Int)]).length=3:=by simp[Bc]
  rw[e3,List.drop_left' e4,Dl (DP _)]
 rw[So,e1,e2,ZH]
theorem NP{e:Int × ByteArray}(h:C3 e=AL):UV (Db e):=by
 have:=CF h;unfold UV;rw[NY];omega
theorem Ky:¬ UV (AD 16 0):=by
 intro h;have e:(AD 16 (0:Int)).getD 2 0=0:=rfl;rw[UV,e] at h;omega
theorem Jp{α β:Type}{f:α->List β}{s:Nat}:∀ {L:List α},(∀ x∈L,(f x).length=s)->(L.flatMap f).length=L.length*s
 |[],_=>by simp
 |x :: L,h=>by
  rw[CD,Ax,Jp (fun z hz=>h z (CC _ hz)),h x (by simp),Ch,Nat.succ_mul];omega
theorem YY{α β:Type}{f:α->List β}{s:Nat}(R:List β):∀ {L:List α},(∀ x∈L,(f x).length=s)->∀ (i:Nat) (hi:i<L.length),(((L.flatMap f) ++ R).drop (i*s)).take s=f L[i]
 |[],_,i,hi=>by simp at hi
 |x :: L,h,0,_=>by
  rw[CD,Nat.zero_mul,CP,AQ,CT (by rw[h x (by simp)];exact AB _),<- h x (by simp),B8];rfl
 |x :: L,h,i+1,hi=>by
  have hx:=h x (by simp);rw[CD,show(i+1)*s=(f x).length+i*s by rw[hx,Nat.succ_mul];omega,AQ,List.drop_length_add_append];exact YY R (fun z hz=>h z (CC _ hz)) i (by simpa using hi)
def La(O:List (Int × ByteArray)):Bool:=decide (O.length<=16) && O.all C3
theorem Iw{O:List (Int × ByteArray)}(h:La O=AL):O.length<=16/\∀ x∈O,C3 x=AL:=by
 unfold La at h;rw[AY,Bd,DJ] at h;exact h
theorem QE{O:List (Int × ByteArray)}(hl:O.length<=16)(h:∀ x∈O,C3 x=AL):La O=AL:=by
 unfold La;rw[AY,Bd,DJ];exact⟨hl,h⟩
theorem fe{O:List (Int × ByteArray)}(hl:16<O.length):La O=AI:=by
 unfold La;rw[AG (by omega)];rfl
theorem nw{O:List (Int × ByteArray)}(k:Nat)(hk:k<O.length)(h:C3 (O.getD k default)=AI):La O=AI:=by
 cases e:La O
 . rfl
 . have:=(Iw e).2 O[k] (Bf hk)
   have e2:O.getD k default=O[k]:=(by simp[hk]);rw[e2,this] at h;cases h
def Kk(O:List (Int × ByteArray))(k:Nat):List Int:=(O.take k).flatMap Db
def Kf(O:List (Int × ByteArray)):List Int:=O.flatMap Db ++ AD (256-16*O.length) 0
theorem Zc{O:List (Int × ByteArray)}(k:Nat)(h:k<O.length):Kk O (k+1)=Kk O k ++ Db (O.getD k default):=by
 unfold Kk;rw[Bn h,Eb];simp[h]
theorem Zv(O:List (Int × ByteArray)):Kk O O.length=O.flatMap Db:=by unfold Kk;rw[B8]
theorem Nj{O:List (Int × ByteArray)}(k:Nat)(hk:k<=O.length)(h:∀ j,j<k->C3 (O.getD j default)=AL):(Kk O k).length=16*k:=by
 unfold Kk;rw[Jp (s:=16),AK,DF hk,Nat.mul_comm];intro x hx;obtain⟨j,hj,rfl⟩:=BW hx;rw[AK] at hj;have h1:=h j (by omega);rw[C7];have e2:O.getD j default=O[j]:=by simp[show j<O.length by omega]
 rw[e2] at h1;exact Di (CF h1).2
theorem Pn{O:List (Int × ByteArray)}(h:La O=AL):(Kf O).length=256:=by
 obtain⟨h1,h2⟩:=Iw h;rw[Kf,Ax,Jp (s:=16) (fun x hx=>Di (CF (h2 x hx)).2),A4];omega
theorem eZ{O:List (Int × ByteArray)}(k:Nat)(h:∀ j,j<k->C3 (O.getD j default)=AL):FJ (Kk O k):=CE fun x hx=>by
 unfold Kk at hx;obtain⟨e,he,hx⟩:=List.mem_flatMap.1 hx;obtain⟨j,hj,rfl⟩:=BW he;rw[AK] at hj;have h1:=h j (by omega);rw[C7] at hx;have e2:O.getD j default=O[j]:=by simp[show j<O.length by omega]
 rw[e2] at h1;exact CZ (Oa (CF h1).2) x hx
def EF(b:List Int)(k:Nat):List Int:=(b.drop (k*16)).take 16
theorem Mw{O:List (Int × ByteArray)}(h:La O=AL)(i:Nat)(hi:i<O.length):EF (Kf O) i=Db O[i]:=
 YY _ (fun x hx=>Di (CF ((Iw h).2 x hx)).2) i hi
theorem Re{O:List (Int × ByteArray)}(h:La O=AL)(M0:O.length<16):EF (Kf O) O.length=AD 16 0:=by
 obtain⟨h1,h2⟩:=Iw h;have hl:=Jp (f:=Db) (s:=16) (fun x hx=>Di (CF (h2 x hx)).2);unfold EF Kf;rw[<- hl,List.drop_left,List.take_replicate];congr 1;omega
def Nf(O:List (Int × ByteArray))(b:List Int):Prop:=La O=AL/\Kf O=b
def Gr(b:List Int)(k:Nat):List (Int × ByteArray):=(Co k).map fun i=>So (EF b i)
theorem NS(b:List Int)(k:Nat):(Gr b k).length=k:=by simp[Gr]
theorem aa(b:List Int)(k:Nat):Gr b (k+1)=Gr b k ++ [So (EF b k)]:=by
 unfold Gr;rw[Hi,Cv];rfl
theorem LV(P:List Int->Prop)(hP:∀ e,C3 e=AL->P (Db e))(h0:¬ P (AD 16 0)){b:List Int}{k:Nat}(hk:k<=16)(h1:∀ i,i<k->P (EF b i))(h2:k<16->¬ P (EF b k)){O:List (Int × ByteArray)}(hO:Nf O b):Gr b k=O:=by
 obtain⟨ha,rfl⟩:=hO;obtain⟨hl,hf⟩:=Iw ha;have hkl:k=O.length:=by
  rcases Nat.lt_trichotomy k O.length with h|h|h
  . refine absurd ?_ (h2 (by omega))
    rw[Mw ha k h];exact hP _ (hf _ (Bf h))
  . exact h
  . refine absurd (h1 O.length h) ?_
    rw[Re ha (by omega)];exact h0
 subst hkl;apply Bi (NS _ _);intro i h3 h4;have e:(Gr (Kf O) O.length)[i]=So (EF (Kf O) i):=by simp[Gr]
 rw[e,Mw ha i h4,Nv (hf _ (Bf h4))]
theorem dl{O O':List (Int × ByteArray)}{b:List Int}(h:Nf O b)(h':Nf O' b):O=O':=by
 have hb:=h.2;have ha:=h.1;obtain⟨hl,hf⟩:=Iw h.1;have h1:∀ i,i<O.length->UV (EF b i):=fun i hi=>by
  rw[<- hb,Mw ha i hi];exact NP (hf _ (Bf hi))
 have h2:O.length<16->¬ UV (EF b O.length):=fun M0=>by
  rw[<- hb,Re ha M0];exact Ky
 have a:=LV UV (fun e=>NP) Ky hl h1 h2 h;have b:=LV UV (fun e=>NP) Ky hl h1 h2 h';rw[<- a,b]
def ESl(w:I)(v:Aq)(O:List (Int × ByteArray)):Prop:=
 (v=Ak U 0 0/\O=[])\/∃ a cap,v=Ak (G a) O.length cap/\∀ j,j<O.length->a.block<w.heap.size/\a.spot=U/\
   w.cell? ⟨a.block,a.off+j*2,U⟩=G (J H (O.getD j default).1)/\w.cell? ⟨a.block,a.off+j*2+1,U⟩=G (.string (O.getD j default).2)
theorem UH(w:I):ESl w (Ak U 0 0) []:=AN ⟨rfl,rfl⟩
theorem ESl.below{w w':I}{v:Aq}{O:List (Int × ByteArray)}(h:ESl w v O)(hb:At w.heap.size w w'):ESl w' v O:=by
 rcases h with h| ⟨a,cap,hv,hc⟩
 . exact AN h
 . refine Ba ⟨a,cap,hv,fun j hj=>?_⟩
   obtain⟨h1,h2,h3,h4⟩:=hc j hj;exact⟨AH h1 hb.size,h2,by rw[hb.cell (p:=⟨a.block,a.off+j*2,U⟩) h1,h3],by rw[hb.cell (p:=⟨a.block,a.off+j*2+1,U⟩) h1,h4]⟩
theorem ESl.open'{w:I}{v:Aq}{O:List (Int × ByteArray)}(h:ESl w v O):∃ ao cap,v=Ak ao O.length cap/\(0<O.length->∃ b off,ao=G ⟨b,off,U⟩/\b<w.heap.size/\
 ∀ j,j<O.length->w.cell? ⟨b,off+j*2,U⟩=G (J H (O.getD j default).1)/\w.cell? ⟨b,off+j*2+1,U⟩=G (.string (O.getD j default).2)):=by
 rcases h with⟨hv,hk⟩| ⟨⟨b,off,spot⟩,cap,hv,hc⟩
 . exact⟨U,0,by rw[hv,hk];rfl,fun h=>by rw[hk] at h;simp at h⟩
 . refine⟨_,cap,hv,fun h0=>?_⟩
   obtain⟨h1,h2,_⟩:=hc 0 h0;obtain rfl:spot=U:=h2;exact⟨b,off,rfl,h1,fun j hj=>(hc j hj).2.2⟩
theorem ESl.shape{w:I}{v:Aq}{O:List (Int × ByteArray)}(h:ESl w v O):∃ ao cap,v=Ak ao O.length cap:=by
 obtain⟨ao,cap,hv,_⟩:=h.open';exact⟨ao,cap,hv⟩
def cE(x:Int × ByteArray):List Aq:=[J H x.1,.string x.2]
def It(O:List (Int × ByteArray)):List Aq:=O.flatMap cE
theorem IA:∀ x:Int × ByteArray,(cE x).length=2:=fun _=>rfl
theorem Dy(O:List (Int × ByteArray)):(It O).length=O.length*2:=CK fun x _=>IA x
theorem GV(O P:List (Int × ByteArray)):It (O ++ P)=It O ++ It P:=Eb
theorem GB(O:List (Int × ByteArray))(j:Nat)(h:j<O.length):(It O)[j*2]? =G (J H (O.getD j default).1)/\(It O)[j*2+1]? =G (.string (O.getD j default).2):=by
 have hg:=Gw (f:=cE) (s:=2) (L:=O) (fun x _=>IA x) j h;have e:O.getD j default=O[j]:=by simp[h]
 rw[e];have h0:=BH (fun z=>z[0]?) hg;have h1:=BH (fun z=>z[1]?) hg;simp only[AZ,Bp,Nat.add_zero] at h0 h1;rw[AC (by omega)] at h0 h1;exact⟨h0,h1⟩
def ER(w:I)(B:Nat)(T:TypeId)(v:Aq)(O:List (Int × ByteArray)):Prop:=w.ownsRow B T 2 v O.length (It O)
theorem UU(w:I)(B:Nat)(T:TypeId):ER w B T (Ak U 0 0) []:=E4 w B _ _
theorem ER.sl{w:I}{B:Nat}{T:TypeId}{v:Aq}{O:List (Int × ByteArray)}(h:ER w B T v O):ESl w v O:=by
 rcases h.2 with⟨hv,hl⟩| ⟨g,cap,cur,hv,hg,hh,Hn,LD,Hb,ht⟩
 . exact AN ⟨hv,Bb hl⟩
 . refine Ba ⟨_,cap,hv,fun j hj=>⟨(Al.1 hh).1,rfl,?_⟩⟩
   obtain⟨h1,h2⟩:=GB O j hj;rw[<- ht,AZ] at h1 h2;rw[AC (by omega)] at h1 h2;rw[Bm,Az _ _ _ _ _ _ hh,Az _ _ _ _ _ _ hh];exact⟨by simpa using h1,by simpa using h2⟩
theorem ER.below{w w':I}{B:Nat}{T:TypeId}{v:Aq}{O:List (Int × ByteArray)}(h:ER w B T v O)(hb:At w.heap.size w w'):ER w' B T v O:=by
 refine⟨h.1,?_⟩;rcases h.2 with h| ⟨g,cap,cur,hv,hg,hh,r⟩
 . exact AN h
 . exact Ba ⟨g,cap,cur,hv,hg,by rw[hb.block g (Al.1 hh).1];exact hh,r⟩
theorem px:(Ae.info? 38).map (fun i=>(i.zero,i.size,i.bytes))=G (G (BD #[J H 0,.string ByteArray.empty]),2,24):=by kernel_rfl
theorem N9(w1:I)(i:Int)(n:ByteArray){ops:Array BS}{rest:List BS}{o:BS}{a:Act}{Q:Exit->Act->I->Prop}(Dn:o.guard=U)(S T:TypeId)(s y:Operand)
 (ho:o.op=.call { callee:=.builtin .append,args:=#[s,y],argTypes:=#[S,S] })
 (hu:Ae.underlying S=G (.slice T)) (hi:(Ae.info? T).map (fun i=>(i.zero,i.size,i.bytes))=G (G (BD #[J H 0,.string ByteArray.empty]),2,24))
 (B:Nat) (v:Aq) (O:List (Int × ByteArray)) (hs:a.eval s=v) (hown:ER w1 B T v O) (hO:O.length<=1000000) (hy:a.eval y=Ak (G ⟨w1.heap.size,0,U⟩) 1 1) (hB:B<=w1.heap.size)
 (h:∀ v' w',ER w' B T v' (O ++ [(i,n)])->At B w1 w'->Cn Ae ops Q rest (a.put o.dst v') w'):Cn Ae ops Q (o :: rest) a (w1.alloc (Ar #[J H i,.string n] T)):=by
 obtain⟨t,h2,h3,h4,h5⟩:=By hi;have hbel:At w1.heap.size w1 (w1.alloc (Ar #[J H i,.string n] T)):=Ay _ _;have MZ:(w1.alloc (Ar #[J H i,.string n] T)).heap[w1.heap.size]? =G (Ar #[J H i,.string n] T (0,0)):=Aw w1 _;have hf:=hown.below hbel;refine Mh _ Dn s y S ho B T t _ 2 24 hu h2 h3 h4 h5 rfl (by decide) v O.length _ hs hf ⟨w1.heap.size,0,U⟩ 1 1 [J H i,.string n] hy rfl ?_ ?_ (by simp only[maxLen];omega) (by omega) (by simp;omega) fun v' w' h6 h7 _=>?_
 . intro m u hm
   have hm2:m<2:=by simpa using (Bj.1 hm).1
   rw[Cb,Bm,Az _ _ _ _ _ _ MZ,<- hm];have:m=0\/m=1:=(by omega);rcases this with rfl|rfl <;> rfl
 . intro u hu
   simp at hu;rcases hu with rfl|rfl <;> rfl
 . refine h v' w' ?_ ((hbel.mono hB).trans ((AM _ _).grown h7 (by simp;omega) fun k hk=>(Ck hf k hk).1))
   show w'.ownsRow B T 2 v' (O ++ [(i,n)]).length (It (O ++ [(i,n)]))
   rw[Ax,GV];exact h6
theorem NI(w:I){ops:Array BS}{rest:List BS}{o:BS}{a:Act}{Q:Exit->Act->I->Prop}(Dn:o.guard=U)(s x:Operand)
 (ho:o.op=.call { callee:=.builtin .append,args:=#[s,x],argTypes:=#[49,9] })
 (B:Nat) (v:Aq) (l:List Int) (hs:a.eval s=v) (hown:OB w B v l) (n:ByteArray) (hx:a.eval x=.string n) (hlen:l.length+n.size<=1000000) (hB:B<=w.heap.size)
 (h:∀ v' w',OB w' B v' (l ++ Fx n)->At B w w'->Cn Ae ops Q rest (a.put o.dst v') w'):Cn Ae ops Q (o :: rest) a w:=by
 obtain⟨i,h2,h3,h4,h5⟩:=By F7;refine Lib.wpList_append_own_string w Dn s x 49 9 ho B 5 i Tryz.underlying49 Tryz.underlying9 h2 h3 h4 h5 v l.length _ hs hown.2 n hx (by simp only[maxLen];omega) (by omega) hB fun v' w' h6 h7 _=>?_
 refine h v' w' ⟨CS hown.1 (ND n),?_⟩ ((AM _ _).grown h7 hB fun k hk=>(hown.2.lt k hk).1);rw[Ax,Cv,DP,<- MP];exact h6
end
section
open Go.RowKit BM
def DW(l:List (Int × ByteArray)):List Int:=l.flatMap Db
def FrmL(l:List (Int × ByteArray)):Prop:=∀ e∈l,C3 e=AL
theorem FrmL.len{l:List (Int × ByteArray)}(h:FrmL l):∀ e∈l,(Db e).length=16:=fun e he=>Di (CF (h e he)).2
theorem DG{l:List (Int × ByteArray)}(h:FrmL l):(DW l).length=16*l.length:=by
 unfold DW;rw[Jp h.len];omega
theorem GX(l m:List (Int × ByteArray)):DW (l ++ m)=DW l ++ DW m:=Eb
theorem i9(e:Int × ByteArray):DW [e]=Db e:=by unfold DW;simp
theorem Le{l:List (Int × ByteArray)}(h:FrmL l){i:Nat}(hi:i<l.length):((DW l).drop (16*i)).take 16=Db l[i]:=by
 have:=YY [] h.len i hi;rw[BB,Nat.mul_comm i 16] at this;exact this
theorem OH(l:List (Int × ByteArray))(h:FrmL l)(i:Nat)(hi:i<=l.length):(DW l).take (16*i)=DW (l.take i):=by
 have e:l=l.take i ++ l.drop i:=(Be i l).symm;have hl:(DW (l.take i)).length=16*i:=by
  rw[DG fun e he=>h e (Dg he),AK];omega
 conv=>lhs;rw[e,GX]
 rw[Dl hl]
theorem FrmL.append{l:List (Int × ByteArray)}(h:FrmL l){e:Int × ByteArray}(he:C3 e=AL):FrmL (l ++ [e]):=fun x hx=>by
 rcases C0.1 hx with h1|h1
 . exact h x h1
 . rw[Et.1 h1];exact he
theorem FrmL.take{l:List (Int × ByteArray)}(h:FrmL l)(k:Nat):FrmL (l.take k):=fun x hx=>h x (Dg hx)
theorem SL(l:List (Int × ByteArray))(h:FrmL l)(i:Nat)(hi:i<=l.length):(DW l).drop (16*i)=DW (l.drop i):=by
 have e:l=l.take i ++ l.drop i:=(Be i l).symm;have hl:(DW (l.take i)).length=16*i:=by
  rw[DG fun e he=>h e (Dg he),AK];omega
 conv=>lhs;rw[e,GX]
 rw[List.drop_left' hl]
section
variable {M:Nat->Option (List Int)}
theorem b7{l:List Int}{a n:Nat}(hl:l.length=n)(h:∀ i,i<n->Vr M (a+i)=l.getD i 0):Md M a n=l:=by
 apply Bi
 . rw[Ek,hl]
 . intro i h1 h2
   rw[Ek] at h1;have e1:=IT M a h1;rw[An,AS (by rw[Ek];exact h1)] at e1;have e2:=h i h1;rw[An,AS h2] at e2;exact e1.trans e2
theorem UP(hk:OkB M){l:List Int}(hb:FJ l){a n:Nat}(ha:a<=n):Md (wrL M a l) 0 (max n (a+l.length))=splice (Md M 0 n) a l:=by
 have hlen:=Ek M 0 n;refine b7 (by unfold splice;rw[Ax,Ax,AK,AU,hlen];omega) fun i hi=>?_
 rw[Bm,b_ l M a hk hb];unfold splice;by_cases c1:i<a
 . rw[AE (by omega),An,BT (by rw[AK,hlen];omega),AZ,AC c1,<- An,IT M 0 (by omega),Bm]
 . have ht:((Md M 0 n).take a).length=a:=by rw[AK,hlen];omega
   by_cases c2:i<a+l.length
   . rw[AC ⟨by omega,c2⟩,An,An,BG (by omega),ht,BT (by omega)]
   . rw[AE (by omega),An,BG (by omega),ht,BG (by omega),Bp,<- An,show a+l.length+(i-a-l.length)=i by omega,IT M 0 (by omega),Bm]
end
structure DirF (sz:Nat) (M:Nat->Option (List Int)) (l:List (Int × ByteArray)):Prop where
 ok:OkB M
 frm:FrmL l
 zs:sz=16*l.length
 by_:Md M 0 sz=DW l
section
variable {sz:Nat}{M:Nat->Option (List Int)}{l:List (Int × ByteArray)}
theorem DirF.nil{M:Nat->Option (List Int)}(h:OkB M):DirF 0 M []:=⟨h,fun x hx=>(by cases hx),rfl,rfl⟩
theorem DirF.add(h:DirF sz M l){e:Int × ByteArray}(he:C3 e=AL):DirF (16*(l.length+1)) (wrL M sz (Db e)) (l ++ [e]):=by
 have M0:=Di (CF he).2;have hb:=Oa (CF he).2;have hs:=h.zs;refine⟨h.ok.wrL _ _ hb,h.frm.append he,by rw[Ax,List.length_singleton],?_⟩;have:=UP h.ok hb (a:=sz) (n:=sz) (AB _);rw[M0,show max sz (sz+16)=16*(l.length+1) by omega,h.by_] at this;rw[this,GX,i9];have hl:=DG h.frm;unfold splice;rw[AV (by omega),BZ (by omega),BB]
end
end
section
open Go.RowKit
theorem i7(s:ByteArray)(c:Int)(w:I):AA Ae 157 #[.string s,J .u8 c] w fun e w'=>e=Ag (J H (Lib.indexByte s.data.toList c.toNat.toUInt8))/\w=w':=by
 go_enter Tryz.func157,Tryz.ntmps157;go_wp2;rw[run_callFunc_extern Tryz.func185 (by kernel_rfl) (by kernel_rfl) (by kernel_rfl) (e:=Extern.BytealgIndexByte.indexByte) (by kernel_rfl),Lib.run_indexByteString];simp only[Result.andThen];rw[BS.upon_value];go_wp2;go_ret;exact⟨rfl,rfl⟩
theorem bC(s:ByteArray)(c:Int)(w:I):AA Ae 108 #[.string s,J .u8 c] w fun e w'=>e=Ag (J H (Lib.indexByte s.data.toList c.toNat.toUInt8))/\w=w':=by
 go_enter Tryz.func108,Tryz.ntmps108;go_wp2_with (go_at_call 157;refine(i7 s c _).mono ?_;rintro e w' ⟨rfl,rfl⟩)
 go_ret;exact⟨rfl,rfl⟩
theorem dots_is:dot1.toList=[46]/\dot2.toList=[46,46]:=by
 rw[Fg,Fg];exact⟨rfl,rfl⟩
theorem lc(s:ByteArray)(B:Bool)(h:Er s=B)(w:I):AA Ae 68 #[.string s] w fun e w'=>e=Ag (A1 B)/\w=w':=by
 have K0:=vJ (fun W=>bC s 0 W);have K1:=vJ (fun W=>bC s 47 W);unfold Er at h;rw[dE,dots_is.1,dots_is.2] at h;by_cases h1:1<=s.size
 . by_cases h2:s.size<=13
   . rw[AF h1,AF h2] at h
     have g1:¬ (s.size:Int)<1:=(by omega);have g2:¬ 13<(s.size:Int):=(by omega);cases d1:s.toList==[46]
     . cases d2:s.toList==[46,46]
       . rw[d1,d2] at h
         obtain⟨I0,pP⟩:=nm (Lib.indexByte s.data.toList 0);obtain⟨I1,hI1⟩:=nm (Lib.indexByte s.data.toList 47);rw[<- pP,<- hI1] at h;have K0':Hid (∀ W,AA Ae 108 #[.string s,J .u8 0] W fun e w'=>e=Ag (J H I0)/\W=w'):=vJ (fun W=>by rw[pP];exact K0.out W);have K1':Hid (∀ W,AA Ae 108 #[.string s,J .u8 47] W fun e w'=>e=Ag (J H I1)/\W=w'):=vJ (fun W=>by rw[hI1];exact K1.out W);clear K0 K1 pP hI1;by_cases n0:I0<0
         . cases n1:decide (I1<0)
           all_goals
            rw[AF n0,n1] at h;have HB:=vJ h;clear h;go_enter Tryz.func68,Tryz.ntmps68;go_wp2_with (go_at_call 108;first|((with_reducible refine(K0'.out _).mono ?_);rintro e w' ⟨rfl,rfl⟩)|((with_reducible refine(K1'.out _).mono ?_);rintro e w' ⟨rfl,rfl⟩))
            go_ret;exact⟨CV HB.out,rfl⟩
         . rw[AG n0] at h
           have HB:=vJ h;clear h;go_enter Tryz.func68,Tryz.ntmps68;go_wp2_with (go_at_call 108;(with_reducible refine(K0'.out _).mono ?_);rintro e w' ⟨rfl,rfl⟩)
           go_ret;exact⟨CV HB.out,rfl⟩
       . rw[d1,d2] at h
         have HB:=vJ h;clear h;go_enter Tryz.func68,Tryz.ntmps68;go_wp2;go_ret;exact⟨CV HB.out,rfl⟩
     . rw[d1] at h
       have HB:=vJ h;clear h;go_enter Tryz.func68,Tryz.ntmps68;go_wp2;go_ret;exact⟨CV HB.out,rfl⟩
   . rw[AF h1,AG h2] at h
     have HB:=vJ h;clear h;have g1:¬ (s.size:Int)<1:=(by omega);have g2:13<(s.size:Int):=(by omega);go_enter Tryz.func68,Tryz.ntmps68;go_wp2;go_ret;exact⟨CV HB.out,rfl⟩
 . rw[AG h1] at h
   have HB:=vJ h;clear h;have g1:(s.size:Int)<1:=(by omega);go_enter Tryz.func68,Tryz.ntmps68;go_wp2;go_ret;exact⟨CV HB.out,rfl⟩
theorem Ju(s:ByteArray)(B:Bool)(h:Er s=B)(w:I):AA Ae 24 #[.string s] w fun e w'=>e=Ag (A1 B)/\w=w':=by
 unfold Er at h;rw[dots_is.1,dots_is.2] at h;by_cases h1:1<=s.size
 . by_cases h2:s.size<=13
   . rw[AF h1,AF h2] at h
     have g1:¬ (s.size:Int)<1:=(by omega);have g2:¬ 13<(s.size:Int):=(by omega);cases d1:s.toList==[46]
     . cases d2:s.toList==[46,46]
       . rw[d1,d2] at h
         have HNO:=vJ (fun k hk hb=>dh s k hk hb);have HSU:=vJ (fun k hk=>Wk s k hk);have HGE:=vJ (fun k hk=>lz s k hk);have HALL:=vJ (YN s);have HB:=vJ h;have HZ:=vJ (VF s);clear h;go_enter Tryz.func24,Tryz.ntmps24;go_wp2
         go_loop [22] (fun i=>∃ k:Nat,k<=s.size/\i=J H k/\Hid (Lu s k=AL)) (fun i=>s.size-(intOf i).toNat)
         case atStart=>exact⟨0,by omega,rfl,HZ.out⟩
         case round=>
          obtain⟨k,hk,rfl,HK⟩:=hrel;by_cases hlt:k<s.size
          . have hx:=HGE.out k hlt
            have l8:=HSU.out k hlt;have C6:=HNO.out k hlt;rw[hx] at l8 C6;have ek:(k:Int)<(s.size:Int):=(by omega);cases e0:(((s[k]).toNat:Int)==0)
            . cases e1:(((s[k]).toNat:Int)==47)
              . have hok:jj ((s[k]).toNat:Int)=AL:=by unfold jj;rw[e0,e1];rfl
                rw[HK.out,hok] at l8;have HSU':=vJ l8;clear C6 l8 hx hok;go_wp2
                go_round
                case rel=>exact⟨k+1,by omega,by go_num,HSU'.out⟩
                case measure=>simp[intOf];omega
              . have hok:jj ((s[k]).toNat:Int)=AI:=by unfold jj;rw[e0,e1];rfl
                have HN:=vJ (C6 hok);clear C6 l8 hx hok;go_wp2;go_ret;exact⟨CV (by rw[<- HB.out,HN.out];rfl),rfl⟩
            . have hok:jj ((s[k]).toNat:Int)=AI:=by unfold jj;rw[e0];rfl
              have HN:=vJ (C6 hok);clear C6 l8 hx hok;go_wp2;go_ret;exact⟨CV (by rw[<- HB.out,HN.out];rfl),rfl⟩
          . obtain rfl:k=s.size:=by omega
            go_wp2;go_ret;exact⟨CV (by rw[<- HB.out,<- HALL.out,HK.out];rfl),rfl⟩
       . rw[d1,d2] at h
         have HB:=vJ h;clear h;go_enter Tryz.func24,Tryz.ntmps24;go_wp2;go_ret;exact⟨CV HB.out,rfl⟩
     . rw[d1] at h
       have HB:=vJ h;clear h;go_enter Tryz.func24,Tryz.ntmps24;go_wp2;go_ret;exact⟨CV HB.out,rfl⟩
   . rw[AF h1,AG h2] at h
     have HB:=vJ h;clear h;have g1:¬ (s.size:Int)<1:=(by omega);have g2:13<(s.size:Int):=(by omega);go_enter Tryz.func24,Tryz.ntmps24;go_wp2;go_ret;exact⟨CV HB.out,rfl⟩
 . rw[AG h1] at h
   have HB:=vJ h;clear h;have g1:(s.size:Int)<1:=(by omega);go_enter Tryz.func24,Tryz.ntmps24;go_wp2;go_ret;exact⟨CV HB.out,rfl⟩
theorem JD(i:Int)(s:ByteArray)(B:Bool)(h:C3 (i,s)=B)(w:I):AA Ae 31 #[BD #[J H i,.string s]] w fun e w'=>e=Ag (A1 B)/\At w.heap.size w w':=by
 have hob:=Ay w (Ar #[J H i,.string s] 38);unfold C3 at h;by_cases h1:1<=i
 . by_cases h2:i<48
   . have hn:Er s=B:=by
      rw[<- h];show _=(decide (1<=i) && (decide (i<48) && Er s));rw[AF h1,AF h2];rfl
     have K:=vJ (fun W=>lc s B hn W);clear h hn;go_enter Tryz.func31,Tryz.ntmps31;go_wp2_with (go_at_call 68;refine(K.out _).mono ?_;rintro e w' ⟨rfl,rfl⟩)
     go_ret;exact⟨rfl,hob⟩
   . have HB:Hid (AI=B):=vJ (by rw[<- h];show _=(decide (1<=i) && (decide (i<48) && Er s));rw[AF h1,AG h2];rfl)
     clear h;go_enter Tryz.func31,Tryz.ntmps31;go_wp2;go_ret;exact⟨CV HB.out,hob⟩
 . have HB:Hid (AI=B):=vJ (by rw[<- h];show _=(decide (1<=i) && (decide (i<48) && Er s));rw[AG h1];rfl)
   clear h;go_enter Tryz.func31,Tryz.ntmps31;go_wp2;go_ret;exact⟨CV HB.out,hob⟩
theorem gN(i:Int)(s:ByteArray)(h:C3 (i,s)=AL)(w:I):AA Ae 109 #[BD #[J H i,.string s]] w (JZ w (Tg (i,s))):=by
 have hn:=Ln h;have hl:s.size<=13:=(CF h).2;have hi0:1<=i:=hn.1;have hi1:i<48:=hn.2.1;have HP:=vJ (fR (i,s) hl);have pJ:IntKind.u64.wrap i=i:=Dh _ (by omega);have hws:IntKind.u64.wrap (s.size:Int)=(s.size:Int):=Dh _ (by omega);have K1:=vJ (fun W=>FX (IL W) (by simp) i 2 2 (by omega) (by omega) rfl (by omega) (by omega));have K2:=vJ (fun W v (hv:BSl W v ([] ++ BN i 2))=>FX hv (by simp[Bc]) (s.size:Int) 1 1 (by omega) (by omega) rfl (by omega) (by omega));have HLE:Hid ((([] ++ BN i 2) ++ BN (s.size:Int) 1).length+s.size<=1000000):=vJ (by simp[Bc];omega);have hb1:=Ay w (Ar #[J H i,.string s] 38);have Sj:=Aw w (Ar #[J H i,.string s] 38);obtain⟨W1,hW1⟩:=nm (w.alloc (Ar #[J H i,.string s] 38));rw[<- hW1] at hb1 Sj;have H1:Hid (w.alloc (Ar #[J H i,.string s] 38)=W1):=vJ hW1.symm;have En:w.heap.size<W1.heap.size:=by rw[hW1];simp
 have HC1:Hid (W1.cell? ⟨w.heap.size,1,U⟩=G (.string s)):=vJ (by rw[Az _ _ _ _ _ _ Sj];rfl);have HB1:=vJ hb1;clear hn h hW1 Sj hb1;go_enter Tryz.func109,Tryz.ntmps109
 go_wp2_with (first
  |(go_at_call 158;rw[H1.out];(with_reducible refine(K1.out _).mono ?_);rintro e w2 ⟨v2,rfl,hob2,hb2⟩
    have c2:=(hb2.cell (p:=⟨w.heap.size,1,U⟩) En).trans HC1.out;have HB2:=vJ (HB1.out.trans (hb2.mono (BO En)));have Pa:=AH En hb2.size)
  |(go_at_call 158;(with_reducible refine(K2.out _ _ hob2.bsl).mono ?_);rintro e w3 ⟨v3,rfl,hob3,hb3⟩
    have c3:=(hb3.cell (p:=⟨w.heap.size,1,U⟩) Pa).trans c2;have HB3:=vJ (HB2.out.trans (hb3.mono HB2.out.size)))
  |(at_builtin;refine NI w3 rfl (.tmp 14) (.tmp 16) rfl w.heap.size _ (([] ++ BN i 2) ++ BN (s.size:Int) 1) rfl (hob3.more HB2.out.size) s rfl HLE.out HB3.out.size ?_
    intro v4 w4 hob4 hb4))
 go_ret;exact⟨_,rfl,by rw[HP.out];exact hob4,HB3.out.trans hb4⟩
theorem Sx{ops:Array BS}{o:BS}{a:Act}{w:I}{K:Act->I->Prop}{Q:Exit->Act->I->Prop}{E:Prop}(Dn:o.guard=U)(d s:Operand)
 (ho:o.op=.call { callee:=.builtin .copy,args:=#[d,s],argTypes:=#[49,49] })
 (g off dLen dCap:Nat) (hd:a.eval d=Ak (G ⟨g,off,U⟩) dLen dCap) (u:Aq) (m:List Int) (hs:a.eval s=u) (hr:BSl w u m) (hm:0<m.length)
 (cur:List Int) (hg:w.heap[g]? =G (Ar (cur.map (J .u8)).toArray 5 (0,0))) (Mi:m.length<=dLen) (IE:off+m.length<=cur.length)
 (h:∀ w',w'.heap[g]? =G (Ar ((splice cur off m).map (J .u8)).toArray 5 (0,0))->Wrote w w' g->K (a.put o.dst (goInt m.length)) w'):
 if Region.wanted o (yielded ops a.tmps)=AL then BS.wp Ae o a w K Q else E:=by
 have hw:Region.wanted o (yielded ops a.tmps)=AL:=by simp[Region.wanted,Dn]
 rw[AC hw];obtain⟨ao,cap,rfl,Cm⟩:=hr.shape;cases ao with
 |none=>
  rcases hr.2 with⟨_,hl⟩| ⟨_,_,hv,_⟩
  . rw[hl] at hm;simp at hm
  . simp at hv
 |some ad=>
  have CX:∀ j v,(m.map (J .u8))[j]? =G v->w.cell? (ad.add j)=G v:=by
   intro j v hj;have MY:j<m.length:=by simpa using (Bj.1 hj).1
   obtain⟨ad',he,hc⟩:=ED hr (fun _ _=>rfl) m.length (by simp;omega);obtain rfl:ad=ad':=by simpa using he
   exact hc j v (by simpa using hj)
  have DY:=run_copy_row (P:=Ae) w 49 49 o.type 5 g off dLen dCap ad m.length cap (cur.map (J .u8)).toArray 5 (m.map (J .u8)) Tryz.underlying49 (by kernel_rfl) hg (by rw[Bk];exact(DF Mi).symm) CX (by simpa using IE) (ints_oneCell _ _);unfold BS.wp;simp[execOp,ho,resolve,invoke,builtin,hd,hs,DY,Result.andThen];have e:(List.take off (cur.map (J .u8)) ++ ((m.map (J .u8)) ++ List.drop (off+m.length) (cur.map (J .u8))))=(splice cur off m).map (J .u8):=by
   simp[splice]
  refine h _ ?_ (Wrote.setRow _ _ _);rw[Cr w g _ _ 5 _ hg,<- e]
def MJ(O:List (Int × ByteArray))(k:Nat):List Int:=Kk O k ++ AD (256-16*k) 0
theorem da(O:List (Int × ByteArray)):MJ O 0=AD 256 0:=by
 show([]:List Int) ++ AD (256-16*0) 0=_
 rw[B0]
theorem gH(O:List (Int × ByteArray)):MJ O O.length=Kf O:=by unfold MJ Kf;rw[Zv]
theorem Xw{O:List (Int × ByteArray)}(k:Nat)(hk:k<=O.length)(M0:k<=16)(h:∀ j,j<k->C3 (O.getD j default)=AL):(MJ O k).length=256:=by
 unfold MJ;rw[Ax,Nj k hk h,A4];omega
theorem j9{O:List (Int × ByteArray)}(k:Nat)(hk:k<O.length)(M0:k<16)(h:∀ j,j<k->C3 (O.getD j default)=AL)(x:Int × ByteArray)(hx:x=O.getD k default)(hf:C3 x=AL):
 splice (MJ O k) (k*16) (Tg x)=MJ O (k+1):=by
 have hl:=Nj k (BO hk) h;have hn:=CF hf;have hh:=MG x;unfold MJ;rw[Zc k hk,<- hx];simp only[splice];rw[show k*16=(Kk O k).length by omega,List.take_left,AQ];congr 1;rw[List.drop_length_add_append,List.drop_replicate,Db,AQ];congr 1;rw[List.replicate_append_replicate];congr 1;omega
theorem k6{O:List (Int × ByteArray)}(k:Nat)(h:∀ j,j<k->C3 (O.getD j default)=AL):FJ (MJ O k):=CS (eZ k h) (CW _)
def pf(O:List (Int × ByteArray))(w:I)(e:Ending)(w':I):Prop:=
 (La O=AL/\∃ u,e=Ag (AO #[u,J H 0])/\OB w' w.heap.size u (Kf O)/\At w.heap.size w w')\/
 (La O=AI/\e=Ag (AO #[Ak U 0 0,J H 1])/\At w.heap.size w w')
theorem gO{w:I}(ao:Option Addr)(len cap:Nat)(h:16<len):AA Ae 71 #[Ak ao len cap] w fun e w'=>e=Ag (AO #[Ak U 0 0,J H 1])/\w=w':=by
 have h2:16<(len:Int):=by omega
 go_enter Tryz.func71,Tryz.ntmps71;go_wp2;go_ret2;exact⟨rfl,rfl⟩
theorem iG{O:List (Int × ByteArray)}(hl:O.length<=16)(h:∀ j,j<O.length->C3 (O.getD j default)=AL):La O=AL:=
 QE hl fun x hx=>by
  obtain⟨j,hj,rfl⟩:=BW hx;have:=h j hj;have e2:O.getD j default=O[j]:=by simp[hj]
  rw[<- e2];exact this
theorem qh(w:I)(M:Nat)(hM:M=256)(O:List (Int × ByteArray)):(w.alloc (Ar (A3 M (J .u8 0)) 5)).heap[w.heap.size]? =G (Ar ((MJ O 0).map (J .u8)).toArray 5 (0,0)):=by
 have e:MJ O 0=AD M 0:=by rw[hM];exact da O
 rw[Aw,e,List.map_replicate];simp
theorem nM{w:I}{B g M:Nat}{l:List Int}(hb:FJ l)(hM:l.length=M)(TT:M<=1000)(hB:B<=g)(h:w.heap[g]? =G (Ar (l.map (J .u8)).toArray 5 (0,0))):OB w B (Ak (G ⟨g,0,U⟩) M M) l:=by
 subst hM;exact OB.of_heap (rest:=[]) hb hB (by rw[BB];exact h) rfl (by unfold maxLen;omega)
theorem lf{w:I}{v:Aq}{O:List (Int × ByteArray)}(hs:ESl w v O)(M0:O.length<=16):AA Ae 71 #[v] w (pf O w):=by
 obtain⟨ao,cap,rfl,hc⟩:=hs.open';obtain⟨M,Oj⟩:∃ M:Nat,M=256:=⟨_,rfl⟩;have HMI:Hid ((256:Int)=(M:Int)):=vJ (by omega);have HMN:Hid (M=256):=vJ Oj;have TT:M<=1000:=by omega
 have HYE:=vJ (fun h=>iG M0 h);have HNO:=vJ (fun k hk h=>nw (O:=O) k hk h);have HSE:=vJ (fun k hk h1 h x hx hf=>j9 (O:=O) k hk h1 h x hx hf);have HLN:=vJ (fun k hk h1 h=>Xw (O:=O) k hk h1 h);have HBY:=vJ (fun k h=>k6 (O:=O) k h);have HFU:=vJ (gH O);have HR0:=vJ (qh w M Oj O);obtain⟨n,hn⟩:=nm O.length;rw[<- hn] at hc M0 HYE HNO HSE HLN HFU |-
 have HC:=vJ hc;have h16i:¬ 16<(n:Int):=by omega
 clear hs hc Oj hn;go_enter Tryz.func71,Tryz.ntmps71;go_wp2_with (at_make;refine DC _ rfl _ _ rfl 256 256 M M rfl rfl HMI.out HMI.out (AB _) (by omega) ?_)
 have O9:At w.heap.size w (w.alloc (Ar (A3 M (J .u8 0)) 5)):=Ay _ _;have hr3:=HR0.out;have J7:w.heap.size<(w.alloc (Ar (A3 M (J .u8 0)) 5)).heap.size:=by simp
 obtain⟨g,hg⟩:=nm w.heap.size;rw[<- hg] at hr3 J7 |-
 have HG:=vJ hg;have rQ:At g w (w.alloc (Ar (A3 M (J .u8 0)) 5)):=by rw[hg];exact O9
 clear HR0 hg O9;generalize w.alloc (Ar (A3 M (J .u8 0)) 5)=w3 at hr3 J7 rQ |-
 have HR3:=vJ hr3;clear hr3;go_loopw [13] (fun i wr=>∃ k:Nat,k<=n/\i=J H k/\Hid (wr.heap[g]? =G (Ar ((MJ O k).map (J .u8)).toArray 5 (0,0)))/\Hid (∀ j,j<k->C3 (O.getD j default)=AL)/\At g w wr/\g<wr.heap.size) (fun i _=>n-(intOf i).toNat)
 case atStart=>exact⟨0,by omega,rfl,HR3,fun j hj=>absurd hj (A8 _),rQ,J7⟩
 case round=>
  obtain⟨k,hk,rfl,HROW,HK,hbr,XY⟩:=hrel;clear HR3 rQ J7;by_cases hlt:k<n
  . obtain⟨b,off,rfl,hb,hcc⟩:=HC.out (by omega)
    have hck:=hcc k hlt;have C6:=HNO.out k hlt;have sK:=HSE.out k hlt (by omega) HK.out;have hln:=HLN.out k hk (by omega) HK.out;obtain⟨⟨x,y⟩,hx⟩:∃ x,x=O.getD k default:=⟨_,rfl⟩;rw[<- hx] at hck C6;have rR:=sK _ hx;rw[<- HG.out] at hb;have c1:=(hbr.cell (p:=⟨b,off+k*2,U⟩) hb).trans hck.1;have c2:=(hbr.cell (p:=⟨b,off+k*2+1,U⟩) hb).trans hck.2;have ek:(k:Int)<(n:Int):=(by omega);have HX:=vJ hx;have HN1:=vJ C6;have HS1:=vJ rR;have HL1:=vJ hln;cases hf:C3 (x,y)
    . have HF:=vJ hf
      have KF:=vJ (fun W=>JD x y AI hf W);clear hx hcc hck C6 sK rR hln hf;go_wp2_with (go_at_call 31;refine(KF.out _).mono ?_;rintro e w5 ⟨rfl,hb5⟩)
      go_ret2;have HB:=(hbr.trans ((Ay wr (Ar #[J H x,.string y] 38)).mono (BO XY))).trans (hb5.mono (by simp;omega));exact Ba ⟨HN1.out HF.out,rfl,by rw[<- HG.out];exact HB⟩
    . have HF:=vJ hf
      have KF:=vJ (fun W=>JD x y AL hf W);have KW:=vJ (fun W=>gN x y hf W);have HHL:Hid ((Tg (x,y)).length<=16/\0<(Tg (x,y)).length):=vJ (by have:=CF hf;rw[MG];omega);have hk16:k*16+16<=M:=(by have:=HMN.out;omega);have hsl:∀ W:I,(Instr.slice 49 (Ak (G ⟨g,0,U⟩) M M) (G (J H ((k:Int)*16))) U U).run Ae W=.ok (Ak (G ⟨g,k*16,U⟩) (M-k*16) (M-k*16)) W:=fun W=>by
       have:=Ew W g 0 M M (k*16) M U (AN ⟨rfl,rfl⟩) (by omega) (AB _) (by omega);have ee:Ae.elem 49=5:=(by kernel_rfl);rw[Bm,Int.natCast_mul,run_sliceAt_slice W 49 _ _ _ _ (by rw[ee];exact Tryz.underlying49)] at this;exact this
      clear hx hcc hck C6 sK rR hln hf
      go_wp2_with (first|(go_at_call 31
                          have hbx:=Ay wr (Ar #[J H x,.string y] 38);have Sh:=Aw wr (Ar #[J H x,.string y] 38);have sP:wr.heap.size<(wr.alloc (Ar #[J H x,.string y] 38)).heap.size:=(by simp);generalize wr.alloc (Ar #[J H x,.string y] 38)=W5 at hbx Sh sP |-
                          refine(KF.out _).mono ?_;rintro e w6 ⟨rfl,hb6⟩))
      have c50:W5.cell? ⟨wr.heap.size,0,U⟩=G (J H x):=(by rw[Az _ _ _ _ _ _ Sh];rfl);have c51:W5.cell? ⟨wr.heap.size,1,U⟩=G (.string y):=(by rw[Az _ _ _ _ _ _ Sh];rfl);have d0:w6.drew.cell? ⟨wr.heap.size,0,U⟩=G (J H x):=(hb6.cell (p:=⟨wr.heap.size,0,U⟩) sP).trans c50;have d1:w6.drew.cell? ⟨wr.heap.size,1,U⟩=G (.string y):=(hb6.cell (p:=⟨wr.heap.size,1,U⟩) sP).trans c51;have hb06:At wr.heap.size wr w6.drew:=A2 (hbx.trans (hb6.mono hbx.size)) 1;have HB6:=vJ hb06;have HR6:Hid (w6.drew.heap[g]? =G (Ar ((MJ O k).map (J .u8)).toArray 5 (0,0))):=vJ ((hb06.block g XY).trans HROW.out);have rI:g<w6.drew.heap.size:=AH XY hb06.size;have lR:wr.heap.size<w6.drew.heap.size:=AH sP hb6.size;obtain⟨q,hq⟩:=nm wr.heap.size;rw[<- hq] at d0 d1 lR |-
      have hgq:q≠g:=(by omega);have IE:k*16+(Tg (x,y)).length<=(MJ O k).length:=(by have:=HHL.out.1;have:=HMN.out;rw[HL1.out];omega);have Mi:(Tg (x,y)).length<=M-k*16:=(by have:=HHL.out.1;omega);have HFIT:=vJ IE;have hmul:H.wrap ((k:Int)*16)=(k:Int)*16:=A9 _ (by omega);have HLE:=vJ Mi;clear c50 c51 Sh hbx sP hb6 hb06 hq IE Mi c1 c2
      go_region_held3 (fun W=>W.cell? ⟨q,0,U⟩=G (J H x)/\W.cell? ⟨q,1,U⟩=G (.string y)) (first|exact⟨f0,f1⟩|exact⟨e0,e1⟩|exact⟨d0,d1⟩) (first
       |(go_at_call 109;(with_reducible refine(KW.out _).mono ?_);rintro e w7 ⟨v7,rfl,hob7,hb7⟩
         have HB7:=vJ (HB6.out.trans (hb7.mono HB6.out.size));have Vm:=(hb7.block g rI).trans HR6.out;have HR7:=vJ Vm;have e0:=(hb7.cell (p:=⟨q,0,U⟩) lR).trans d0;have e1:=(hb7.cell (p:=⟨q,1,U⟩) lR).trans d1;clear Vm)
       |(refine Sx rfl (.tmp 24) (.tmp 26) rfl g (k*16) (M-k*16) (M-k*16) rfl v7 (Tg (x,y)) rfl hob7.bsl HHL.out.2 (MJ O k) HR7.out HLE.out HFIT.out ?_
         intro w8 ie hw8;have f0:w8.cell? ⟨q,0,U⟩=G (J H x):=(by simp only[I.cell?];rw[hw8.2.2.2.2 q hgq];exact e0);have f1:w8.cell? ⟨q,1,U⟩=G (.string y):=by simp only[I.cell?];rw[hw8.2.2.2.2 q hgq];exact e1))
      go_wp2;go_roundw
      case rel=>
       have HB8:=(hbr.trans (HB7.out.mono (BO XY))).trans (hw8.below (AB g));refine⟨k+1,by omega,by go_num,?_,fun j hj=>?_,HB8,?_⟩
       . show w8.heap[g]? =_
         rw[<- HS1.out HF.out];exact ie
       . by_cases e:j=k
         . subst e;rw[<- HX.out];exact HF.out
         . exact HK.out j (by omega)
       . exact AH XY (AT HB7.out.size (by rw[hw8.2.2.2.1];exact AB _))
      case measure=>simp[intOf];omega
  . obtain rfl:k=n:=by omega
    have hln:=HLN.out k hk (by omega) HK.out;have hrow:=HROW.out;have hby:=HBY.out k HK.out;rw[HFU.out] at hrow hln hby;have HOB:=vJ (nM (B:=w.heap.size) hby (hln.trans HMN.out.symm) TT (by rw[HG.out];exact AB _) hrow);have HBG:=vJ (show At w.heap.size w wr by rw[<- HG.out];exact hbr);clear hln hrow hby;go_wp2;go_ret2;exact AN ⟨HYE.out HK.out,_,rfl,HOB.out,HBG.out⟩
theorem Nm{w:I}{v:Aq}{O:List (Int × ByteArray)}(hs:ESl w v O):AA Ae 71 #[v] w (pf O w):=by
 by_cases h:O.length<=16
 . exact lf hs h
 . obtain⟨ao,cap,rfl⟩:=hs.shape
   exact(gO ao _ cap (by omega)).mono fun e w' ⟨he,hw⟩=>Ba ⟨fe (by omega),he,by rw[<- hw];exact AM _ _⟩
theorem Pr:(Ae.info? 38).map (·.size)=G 2:=by kernel_rfl
theorem FV{ops:Array BS}{rest:List BS}{o:BS}{a:Act}{w:I}{Q:Exit->Act->I->Prop}(Dn:o.guard=U)(ty:TypeId)(hi:(Ae.info? ty).map (·.size)=G 2)(x y:Operand)(ho:o.op=.store ty x y)
 (g:Nat) (hx:a.eval x=Am (G ⟨g,0,U⟩)) (p q p' q':Aq) (hy:a.eval y=BD #[p,q]) (hp:p.oneCell'=AL) (hq:q.oneCell'=AL) (T:TypeId) (hg:w.heap[g]? =G (Ar #[p',q'] T (0,0)))
 (h:∀ w',Wrote w w' g->w'.heap[g]? =G (Ar #[p,q] T (0,0))->Cn Ae ops Q rest (a.put o.dst undef) w'):Cn Ae ops Q (o :: rest) a w:=
 Do Dn ty x y ho g #[p,q] hx hy T _ hg hi rfl (by simp[hp,hq]) (h _ (Wrote.setRow _ _ _) (Cr _ _ _ _ _ _ hg))
theorem Gf{fn:Func}{p u:Tmp}{ty:TypeId}{fs}(h:fn.results=#[.cell p ty,.tmp u])(hu:Ae.underlying ty=G (.struct fs))(hi:(Ae.info? ty).map (·.size)=G 2)
 (tmps:Array Aq) (w:I) (g:Nat) (T:TypeId) (a b x:Aq) (hp:tmps.getD p undef=Am (G ⟨g,0,U⟩)) (hg:w.heap[g]? =G (Ar #[a,b] T (0,0))) (hx:tmps.getD u undef=x):
 (results fn tmps).run Ae w=.ok (AO #[BD #[a,b],x]) w:=by
 rw[results_cell_tmp h,hp,hx];simp only[asAddr,Sem.run_pure,Result.andThen_ok];rw[run_loadVar_row w g T ty _ (0,0) _ hg hu rfl (by rw[hi];rfl)];rfl
theorem iw{w:I}{v:Aq}{c:List Int}(hs:BSl w v c)(hc:c.length<=100000)(a k:Nat)(A K:Int)(hA:A=a)(hK:K=k)(hk1:1<=k)(hk:k<=8)(ha:a+k<=c.length)(y:Int)(hy:y=Cc c a k):
 AA Ae 181 #[v,J H A,J H K] w fun e w'=>e=Ag (AO #[J .u64 y,A1 AL])/\w=w':=by
 subst hA hK;have hg:=NO hs (by omega) (a:Int) k (by omega) (by omega);have hn:Mg c (a:Int) k=y:=by unfold Mg;rw[AC (by omega),hy];rfl
 have hb:SB c (a:Int) k=AL:=AF (by omega);rw[hn,hb] at hg;exact hg
theorem f9{c:List Int}(hc:3<=c.length):c.getD 2 0=Cc c 2 1:=by
 rw[SY c 2 0 (by omega),On];omega
theorem cd{W:I}{b off cap n:Nat}{c:List Int}(hs:BSl W (Ak (G ⟨b,off,U⟩) c.length cap) c)(hn:3+n<=c.length):
 (convert 49 9 (Ak (G ⟨b,off+3,U⟩) n (cap-3))).run Ae W=.ok (.string (strOfNums ((c.drop 3).take n))) W:=G3 (hs.mid 3 n hn)
theorem kM{w:I}{v:Aq}{c:List Int}(hs:BSl w v c)(hc:c.length=16):
 (¬ UV c->AA Ae 184 #[v] w fun e w'=>(∃ i s,e=Ag (AO #[BD #[J H i,.string s],A1 AI]))/\At w.heap.size w w')/\
 (UV c->AA Ae 184 #[v] w fun e w'=>e=Ag (AO #[BD #[J H (So c).1,.string (So c).2],A1 AL])/\At w.heap.size w w'):=by
 obtain⟨b,off,cap,rfl,Cm,hb⟩:=hs.open' (by omega);have hb1:=Ay w (Ar #[J H 0,.string ⟨#[]⟩] 38);have Sj:=Aw w (Ar #[J H 0,.string ⟨#[]⟩] 38);obtain⟨W1,hW1⟩:=nm (w.alloc (Ar #[J H 0,.string ⟨#[]⟩] 38));rw[<- hW1] at hb1 Sj;have H1:Hid (w.alloc (Ar #[J H 0,.string ⟨#[]⟩] 38)=W1):=vJ hW1.symm;have hs1:=hs.below hb1;have hx0:=D4 (CZ hs.1) 0 2;have ma:=hs.1 2;have Om:=fun n=>cd (n:=n) hs1
 have e65:(256:Int) ^ 2=65536:=rfl;unfold UV So;rw[e65] at hx0;obtain⟨x,hx⟩:=nm (Cc c 0 2);obtain⟨y,hy⟩:=nm (c.getD 2 0);have G1:=vJ (iw hs1 (by omega) 0 2 0 2 rfl rfl (by omega) (by omega) (by omega) x hx);have G2:=vJ (iw hs1 (by omega) 2 1 2 1 rfl rfl (by omega) (by omega) (by omega) y (by rw[hy];exact f9 (by omega)));have u1:=Tryz.underlying38;have HB1:=vJ hb1;rw[<- hx] at hx0 |-
 rw[<- hy] at ma |-
 dsimp only
 rw[hc] at G1 G2 Cm Om |-
 clear hs hs1 hW1 hx hy hb1 e65;refine⟨fun C6=>?_,fun hok=>?_⟩
 . have hor:y<1\/13<y:=by omega
   clear C6 Om;rcases hor with h|h
   . go_enter Tryz.func184,Tryz.ntmps184
     go_wp2_with (first
      |(go_at_call 181;rw[H1.out];(with_reducible refine G1.out.mono ?_);rintro e w2 ⟨rfl,rfl⟩)
      |(go_at_call 181;(with_reducible refine G2.out.mono ?_);rintro e w2 ⟨rfl,rfl⟩)
      |(with_reducible refine FV rfl 38 Pr (.tmp 2) (.tmp 24) rfl w.heap.size rfl _ _ _ _ rfl rfl rfl _ Sj ?_;intro w3 hw3 hr3))
     exact Bv (Gf rfl Tryz.underlying38 Pr _ _ w.heap.size _ _ _ _ rfl hr3 rfl) rfl ⟨⟨_,_,rfl⟩,HB1.out.trans (hw3.below (AB _))⟩
   . have hn1:¬ y<1:=by omega
     go_enter Tryz.func184,Tryz.ntmps184
     go_wp2_with (first
      |(go_at_call 181;rw[H1.out];(with_reducible refine G1.out.mono ?_);rintro e w2 ⟨rfl,rfl⟩)
      |(go_at_call 181;(with_reducible refine G2.out.mono ?_);rintro e w2 ⟨rfl,rfl⟩)
      |(with_reducible refine FV rfl 38 Pr (.tmp 2) (.tmp 24) rfl w.heap.size rfl _ _ _ _ rfl rfl rfl _ Sj ?_;intro w3 hw3 hr3))
     exact Bv (Gf rfl Tryz.underlying38 Pr _ _ w.heap.size _ _ _ _ rfl hr3 rfl) rfl ⟨⟨_,_,rfl⟩,HB1.out.trans (hw3.below (AB _))⟩
 . obtain⟨n,rfl⟩:∃ n:Nat,y=(n:Int):=⟨y.toNat,by omega⟩
   have hn1:¬ (n:Int)<1:=(by omega);have Oh:¬ 13<(n:Int):=(by omega);have hcn:=Om n (by omega);have pJ:H.wrap x=x:=A9 _ (by omega);have hwn:H.wrap (n:Int)=(n:Int):=A9 _ (by omega);rw[B5];obtain⟨S,hS⟩:=nm (strOfNums ((c.drop 3).take n));rw[<- hS] at hcn |-
   have HE1:Hid (3+n-3=n):=vJ (by omega);have HE2:Hid ((3:Int)+(n:Int)=((3+n:Nat):Int)):=vJ (by omega);have hc1:3+n<=cap:=(by omega);have hc2:3<cap:=(by omega);clear Om hS;go_enter Tryz.func184,Tryz.ntmps184
   go_wp2_with (first
    |(go_at_call 181;rw[H1.out];(with_reducible refine G1.out.mono ?_);rintro e w2 ⟨rfl,rfl⟩)
    |(go_at_call 181;(with_reducible refine G2.out.mono ?_);rintro e w2 ⟨rfl,rfl⟩)
    |(with_reducible refine Ee rfl (.tmp 27) (.const (J H 3)) (.tmp 30) rfl b off 16 cap rfl 3 (3+(n:Int)) rfl rfl 3 (3+n) n HE1.out rfl HE2.out (Nat.le_add_right 3 n) hc1 hc2 ?_)
    |(with_reducible refine FV rfl 38 Pr (.tmp 2) (.tmp 33) rfl w.heap.size rfl _ _ _ _ rfl rfl rfl _ Sj ?_;intro w3 hw3 hr3))
   exact Bv (Gf rfl Tryz.underlying38 Pr _ _ w.heap.size _ _ _ _ rfl hr3 rfl) rfl ⟨rfl,HB1.out.trans (hw3.below (AB _))⟩
theorem LA(w1:I)(i:Int)(n:ByteArray){ops:Array BS}{rest:List BS}{o:BS}{a:Act}{Q:Exit->Act->I->Prop}(Dn:o.guard=U)(S T:TypeId)(s y:Operand)
 (ho:o.op=.call { callee:=.builtin .append,args:=#[s,y],argTypes:=#[S,S] })
 (hu:Ae.underlying S=G (.slice T)) (hi:(Ae.info? T).map (fun i=>(i.zero,i.size,i.bytes))=G (G (BD #[J H 0,.string ByteArray.empty]),2,24))
 (B:Nat) (v:Aq) (O:List (Int × ByteArray)) (hs:a.eval s=v) (hown:ER w1 B T v O) (hO:O.length<=1000000) (q:Nat) (hy:a.eval y=Ak (G ⟨q,0,U⟩) 1 1) (hq:q=w1.heap.size) (hB:B<=w1.heap.size)
 (h:∀ v' w',ER w' B T v' (O ++ [(i,n)])->At B w1 w'->Cn Ae ops Q rest (a.put o.dst v') w'):Cn Ae ops Q (o :: rest) a (w1.alloc (Ar #[J H i,.string n] T)):=by
 subst hq;exact N9 w1 i n Dn S T s y ho hu hi B v O hs hown hO hy hB h
def qw(b:List Int)(w:I)(e:Ending)(w':I):Prop:=
 ∃ (k:Nat) (u:Aq),e=Ag u/\k<=16/\(∀ j,j<k->UV (EF b j))/\(k<16->¬ UV (EF b k))/\ESl w' u (Gr b k)/\At w.heap.size w w'
theorem Sy{b:List Int}(hl:b.length=256)(k:Nat)(hk:k<16):(EF b k).length=16:=by
 unfold EF;rw[AK,AU];omega
theorem WR{w:I}{v:Aq}{l:List Int}(hs:BSl w v l)(hl:l.length=256):AA Ae 155 #[v] w (qw l w):=by
 obtain⟨b,off,cap,rfl,Cm,hb⟩:=hs.open' (by omega);have HS:=vJ hs;have HCH:=vJ (fun k hk=>Sy hl k hk);have HMID:=vJ (fun W (h:BSl W (Ak (G ⟨b,off,U⟩) l.length cap) l) lo (hm:lo+16<=l.length)=>h.mid lo 16 hm);have HRS:=vJ (fun k=>aa l k);have HRL:=vJ (fun k=>NS l k);rw[hl] at HS HMID Cm |-
 have u2:=Tryz.underlying51;have H0:Hid (ER w w.heap.size 38 (Ak U 0 0) (Gr l 0)):=vJ (UU _ _ _);clear hs hl;go_enter Tryz.func155,Tryz.ntmps155;go_wp2;go_loopw [3,7] (fun u i wr=>∃ k:Nat,k<=16/\i=J H k/\Hid (ER wr w.heap.size 38 u (Gr l k))/\Hid (∀ j,j<k->UV (EF l j))/\At w.heap.size w wr) (fun _ i _=>16-(intOf i).toNat)
 case atStart=>exact⟨0,by omega,rfl,H0,fun j hj=>absurd hj (A8 _),AM _ _⟩
 case round=>
  obtain⟨k,hk,rfl,HU,HK,hbr⟩:=hrel;clear H0;by_cases hlt:k<16
  . have ek:(k:Int)<16:=by omega
    have hsr:=HMID.out _ (HS.out.below hbr) (k*16) (by omega);have Sm:(l.drop (k*16)).take 16=EF l k:=rfl;rw[Sm] at hsr;have KR:=kM hsr (HCH.out k hlt);have oE:=HRS.out k;obtain⟨⟨x,y⟩,hx⟩:∃ x,x=So (EF l k):=⟨_,rfl⟩;rw[<- hx] at KR oE;have ee1:(k:Int)*16=((k*16:Nat):Int):=(by push_cast;omega);have ee2:((k:Int)+1)*16=((k*16+16:Nat):Int):=(by push_cast;omega);have HE32:Hid (k*16+16-k*16=16):=vJ (by omega);have HE1:=vJ ee1;have HE2:=vJ ee2;have hc1:k*16+16<=cap:=(by omega);have hc2:k*16<=k*16+16:=(by omega);have hc3:k*16<cap:=(by omega);have HNX:=vJ oE;have HLK:Hid ((Gr l k).length<=1000000):=vJ (by rw[HRL.out];omega);by_cases hok:UV (EF l k)
    . have KY:=vJ (KR.2 hok)
      have HOK:=vJ hok;clear hx hsr Sm ee1 ee2 KR oE hok
      go_wp2_with (first
       |(with_reducible refine Ee rfl (.tmp 11) (.tmp 13) (.tmp 16) rfl b off 256 cap rfl ((k:Int)*16) (((k:Int)+1)*16) rfl rfl (k*16) (k*16+16) 16 HE32.out HE1.out HE2.out hc2 hc1 hc3 ?_)
       |(go_at_call 184;refine KY.out.mono ?_;rintro e w3 ⟨rfl,hb3⟩
         have HB3:=vJ (hb3.trans ((Ay w3 (Ar #[J H x,.string y] 38)).mono hb3.size));have HN3:=vJ (HU.out.below HB3.out);have HBR3:=vJ (hbr.trans (HB3.out.mono hbr.size)))
       |(at_builtin;refine LA _ x y rfl 51 38 (.tmp 23) (.tmp 25) rfl u2 px w.heap.size _ (Gr l k) rfl HN3.out HLK.out (w3.heap.size+1) rfl (by simp) HBR3.out.size ?_
         intro v7 w7 hob7 hb7))
      go_roundw
      case rel=>
       refine⟨k+1,by omega,by go_num,by show ER _ _ _ _ (Gr l (k+1));rw[HNX.out];exact hob7,fun j hj=>?_,HBR3.out.trans hb7⟩;by_cases e:j=k
       . subst e;exact HOK.out
       . exact HK.out j (by omega)
      case measure=>simp[intOf];omega
    . have KN:=vJ (KR.1 hok)
      have HOK:=vJ hok;clear hx hsr Sm ee1 ee2 KR oE hok
      go_wp2_with (first
       |(with_reducible refine Ee rfl (.tmp 11) (.tmp 13) (.tmp 16) rfl b off 256 cap rfl ((k:Int)*16) (((k:Int)+1)*16) rfl rfl (k*16) (k*16+16) 16 HE32.out HE1.out HE2.out hc2 hc1 hc3 ?_)
       |(go_at_call 184;refine KN.out.mono ?_;rintro e w3 ⟨⟨i3,s3,rfl⟩,hb3⟩
         have HB3:=vJ (hb3.trans ((Ay w3 (Ar #[J H i3,.string s3] 38)).mono hb3.size));have HN3:=vJ (HU.out.below HB3.out);have HBR3:=vJ (hbr.trans (HB3.out.mono hbr.size))))
      go_ret;exact⟨k,_,rfl,hk,HK.out,fun _=>HOK.out,HN3.out.sl,HBR3.out⟩
  . obtain rfl:k=16:=by omega
    go_wp2;go_ret;exact⟨16,_,rfl,AB _,HK.out,fun h=>absurd h (Nat.lt_irrefl _),HU.out.sl,hbr⟩
def pc(b:List Int)(w:I)(e:Ending)(w':I):Prop:=
 (∃ O,Nf O b/\∃ u,e=Ag (AO #[u,J H 0])/\ESl w' u O/\At w.heap.size w w')\/
 ((∀ O,¬ Nf O b)/\e=Ag (AO #[Ak U 0 0,J H 18])/\At w.heap.size w w')
theorem iU{w:I}(ao:Option Addr)(len cap:Nat)(h:len≠256):AA Ae 107 #[Ak ao len cap] w fun e w'=>e=Ag (AO #[Ak U 0 0,J H 18])/\w=w':=by
 have hne:((len:Int) != 256)=AL:=by simp;omega
 go_enter Tryz.func107,Tryz.ntmps107;go_wp2;go_ret2;exact⟨rfl,rfl⟩
theorem c_{O:List (Int × ByteArray)}{b:List Int}(h:Nf O b):b.length=256:=by
 rw[<- h.2];exact Pn h.1
theorem kS{w:I}{v:Aq}{l:List Int}(hs:BSl w v l)(hl:l.length=256):AA Ae 107 #[v] w (pc l w):=by
 have KR:=vJ (WR hs hl);obtain⟨b,off,cap,rfl,Cm,hb⟩:=hs.open' (by omega);have HS:=vJ hs;rw[hl] at HS KR |-
 have K:=(KR.out)
 have key:∀ (k:Nat) (u:Aq) (W:I),k<=16->(∀ j,j<k->UV (EF l j))->(k<16->¬ UV (EF l k))->ESl W u (Gr l k)->At w.heap.size w W->
  ((∃ O,O=Gr l k/\Nf O l/\AA Ae 71 #[u] W fun e w'=>∃ u',e=Ag (AO #[u',J H 0])/\BSl w' u' l/\At W.heap.size W w')\/
   ((∀ O,¬ Nf O l)/\∃ (m:List Int) (E:Int),(E=1\/E=0/\m≠l)/\AA Ae 71 #[u] W fun e w'=>∃ u',e=Ag (AO #[u',J H E])/\BSl w' u' m/\At W.heap.size W w')):=by
  intro k u W hk h1 h2 hu hb;cases ha:La (Gr l k)
  . refine Ba ⟨fun O hO=>?_,[],1,AN rfl,(Nm hu).mono ?_⟩
    . have:=LV UV (fun e=>NP) Ky hk h1 h2 hO
      rw[this,hO.1] at ha;cases ha
    . rintro e w' (⟨ht,_⟩| ⟨_,he,hb⟩)
      . rw[ha] at ht;cases ht
      . exact⟨_,he,IL _,hb⟩
  . by_cases he:Kf (Gr l k)=l
    . refine AN ⟨_,rfl,⟨ha,he⟩,(Nm hu).mono ?_⟩
      rintro e w' (⟨_,u',h3,ho,hb⟩| ⟨ht,_⟩)
      . refine⟨u',h3,?_,hb⟩
        rw[he] at ho;exact ho.bsl
      . rw[ha] at ht;cases ht
    . refine Ba ⟨fun O hO=>?_,Kf (Gr l k),0,Ba ⟨rfl,he⟩,(Nm hu).mono ?_⟩
      . have:=LV UV (fun e=>NP) Ky hk h1 h2 hO
        rw[this] at he;exact he hO.2
      . rintro e w' (⟨_,u',h3,ho,hb⟩| ⟨ht,_⟩)
        . exact⟨u',h3,ho.bsl,hb⟩
        . rw[ha] at ht;cases ht
 have KEY:=vJ key;clear hs hl K key;go_enter Tryz.func107,Tryz.ntmps107
 go_wp2_with (go_at_call 155;refine KR.out.mono ?_;rintro e w2 ⟨k,u,rfl,hk,h1,h2,hu,hb2⟩
              have KK:=vJ (KEY.out k u w2 hk h1 h2 hu hb2);have HU:=vJ hu;clear h1 h2 hu hk)
 have HB2:=vJ hb2;have HV2:=vJ (HS.out.below hb2);rcases KK.out with⟨O,hO,hblk,JH⟩| ⟨C6,m,E,hE,JH⟩
 . have HBK:=vJ hblk
   have HC:=vJ JH;have HO:=vJ hO;clear hO hblk JH hb2 KK KEY KR
   go_wp2_with (first
    |(go_at_call 71;refine HC.out.mono ?_;rintro e w3 ⟨u3,rfl,hu3,hb3⟩
      have K4:=EC hu3 (HV2.out.below hb3);rw[AF (rfl:l=l)] at K4;have HB3:=vJ hb3)
    |(go_at_call 156;refine K4.mono ?_;rintro e w4 ⟨rfl,rfl⟩))
   go_ret2;exact AN ⟨O,HBK.out,_,rfl,by rw[HO.out];exact HU.out.below HB3.out,HB2.out.trans (HB3.out.mono HB2.out.size)⟩
 . have HN:=vJ C6
   have HC:=vJ JH;clear C6 JH hb2 KK KEY KR;rcases hE with rfl| ⟨rfl,hne⟩
   . go_wp2_with (go_at_call 71;refine HC.out.mono ?_;rintro e w3 ⟨u3,rfl,hu3,hb3⟩)
     go_ret2;exact Ba ⟨HN.out,rfl,HB2.out.trans (hb3.mono HB2.out.size)⟩
   . have HNE:=vJ hne
     clear hne
     go_wp2_with (first
      |(go_at_call 71;refine HC.out.mono ?_;rintro e w3 ⟨u3,rfl,hu3,hb3⟩
        have K4:=EC hu3 (HV2.out.below hb3);rw[AG HNE.out] at K4;have HB3:=vJ hb3)
      |(go_at_call 156;refine K4.mono ?_;rintro e w4 ⟨rfl,rfl⟩))
     go_ret2;exact Ba ⟨HN.out,rfl,HB2.out.trans (HB3.out.mono HB2.out.size)⟩
theorem jC{w:I}{v:Aq}{l:List Int}(hs:BSl w v l):AA Ae 107 #[v] w (pc l w):=by
 by_cases h:l.length=256
 . exact kS hs h
 . obtain⟨ao,cap,rfl,_⟩:=hs.shape
   exact(iU ao _ cap h).mono fun e w' ⟨he,hw⟩=>Ba ⟨fun O hO=>h (c_ hO),he,by rw[<- hw];exact AM _ _⟩
end
section
open Go.RowKit BM
def EA(l:List Int)(j:Nat):List Int:=(l.drop (256*j)).take 256
theorem Jy(l:List Int)(j:Nat):(EA l j).length=min 256 (l.length-256*j):=by unfold EA;rw[AK,AU]
def VE(l:List Int)(j:Nat):List Int:=EA l j ++ AD (256-(EA l j).length) 0
theorem Ny(l:List Int)(j:Nat):(VE l j).length=256:=by
 unfold VE;rw[Ax,A4,Jy];omega
def GoodB(l:List Int)(j:Nat)(O:List (Int × ByteArray)):Prop:=Nf O (VE l j)/\O.length=(EA l j).length / 16
theorem Th(l:List Int):∀ k,(Co k).flatMap (EA l)=l.take (256*k)
 |0=>by simp
 |k+1=>by
  rw[Hi,Eb,Th l k,List.flatMap_singleton,show 256*(k+1)=256*k+256 by omega,List.take_add];rfl
theorem GoodB.dir{l:List Int}{j:Nat}{O:List (Int × ByteArray)}(h:GoodB l j O)(M0:(EA l j).length%16=0):FrmL O/\DW O=EA l j:=by
 obtain⟨⟨a,b⟩,c⟩:=h;have hf:=(Iw a).2;refine⟨hf,?_⟩;have hl:=DG hf;have e:DW O ++ AD (256-16*O.length) 0=EA l j ++ AD (256-(EA l j).length) 0:=b;exact(List.append_inj e (by omega)).1
theorem n_{l:List Int}{O:List (Int × ByteArray)}(hf:FrmL O)(hl:DW O=l)(j:Nat):GoodB l j ((O.drop (16*j)).take 16):=by
 have hlen:=DG hf;have hf2:FrmL (O.drop (16*j)):=fun e he=>hf e (List.mem_of_mem_drop he)
 have hb:DW ((O.drop (16*j)).take 16)=EA l j:=by
  unfold EA;rw[<- hl];by_cases c:16*j<=O.length
  . rw[show 256*j=16*(16*j) by omega,SL O hf _ c]
    by_cases c2:16<=(O.drop (16*j)).length
    . rw[show(256:Nat)=16*16 from rfl,OH _ hf2 16 c2]
    . have:=DG hf2
      rw[AV (l:=O.drop (16*j)) (by omega),AV (by omega)]
  . rw[BZ (l:=O) (by omega),BZ (l:=DW O) (by omega)];rfl
 have Mu:(EA l j).length=16*((O.drop (16*j)).take 16).length:=by rw[<- hb];exact DG (hf2.take 16)
 refine⟨⟨QE (by rw[AK];omega) (hf2.take 16),?_⟩,by rw[Mu];omega⟩;unfold VE;rw[Mu,<- hb];rfl
def PartsD(l:List Int)(xs:List Nat)(E:List (Int × ByteArray)):Prop:=FrmL E/\DW E=xs.flatMap (EA l)
theorem PartsD.nil(l:List Int):PartsD l [] []:=⟨fun x hx=>(by cases hx),rfl⟩
theorem PartsD.more{l:List Int}{xs:List Nat}{E O:List (Int × ByteArray)}{j:Nat}(h:PartsD l xs E)(k:GoodB l j O)(M0:(EA l j).length%16=0):PartsD l (xs ++ [j]) (E ++ O):=by
 obtain⟨a,b⟩:=k.dir M0;refine⟨fun e he=>(C0.1 he).elim (h.1 e) (a e),?_⟩;rw[GX,h.2,b,Eb,List.flatMap_singleton]
theorem PartsD.all{l:List Int}{k:Nat}{E:List (Int × ByteArray)}(h:PartsD l (Co k) E)(hk:l.length<=256*k):FrmL E/\DW E=l:=by
 refine⟨h.1,?_⟩;rw[h.2,Th,AV hk]
theorem Is(w:I){ops:Array BS}{rest:List BS}{o:BS}{a:Act}{Q:Exit->Act->I->Prop}(Dn:o.guard=U)(S T:TypeId)(s y:Operand)
 (ho:o.op=.call { callee:=.builtin .append,args:=#[s,y],argTypes:=#[S,S] })
 (hu:Ae.underlying S=G (.slice T)) (hi:(Ae.info? T).map (fun i=>(i.zero,i.size,i.bytes))=G (G (BD #[J H 0,.string ByteArray.empty]),2,24))
 (B:Nat) (v u:Aq) (E O:List (Int × ByteArray)) (hs:a.eval s=v) (hown:ER w B T v E) (hE:E.length<=1000000) (hO:O.length<=1000000) (hO0:0<O.length) (hy:a.eval y=u) (hsl:ESl w u O) (hB:B<=w.heap.size)
 (h:∀ v' w',ER w' B T v' (E ++ O)->At B w w'->KeepsOthers w w'->Cn Ae ops Q rest (a.put o.dst v') w'):Cn Ae ops Q (o :: rest) a w:=by
 obtain⟨t,h2,h3,h4,h5⟩:=By hi;obtain⟨ao,cap,rfl,hc⟩:=hsl.open';obtain⟨b,off,rfl,hlt,CX⟩:=hc hO0;refine Mh _ Dn s y S ho B T t _ 2 24 hu h2 h3 h4 h5 rfl (by decide) v E.length _ hs hown ⟨b,off,U⟩ O.length cap (It O) hy (Dy O) ?_ ?_ (by simp only[maxLen];omega) (by omega) (by omega) fun v' w' h6 h7 _=>?_
 . intro m x hm
   have hm2:m<O.length*2:=(by rw[<- Dy];exact(Bj.1 hm).1);have hg:=GB O (m / 2) (by omega);have hcc:=CX (m / 2) (by omega);rw[Cb];rcases FD m with e|e
   . have e2:m / 2*2=m:=by omega
     rw[e2] at hg hcc;rw[hcc.1,<- hg.1,hm]
   . have e2:m / 2*2+1=m:=by omega
     have e3:off+m / 2*2+1=off+m:=(by omega);rw[e2] at hg;rw[e3] at hcc;rw[hcc.2,<- hg.2,hm]
 . intro x hx
   unfold It at hx;obtain⟨z,_,hz⟩:=List.mem_flatMap.1 hx;simp[cE] at hz;rcases hz with rfl|rfl <;> rfl
 . refine h v' w' ?_ ((AM _ _).grown h7 hB fun k hk=>(Ck hown k hk).1) ⟨h7.size,fun k o hk ho=>(h7.block k (Al.1 hk).1 fun e=>?_).trans hk⟩
   rotate_left
   . rcases hown.2 with⟨e2,_⟩| ⟨g,cap',cur,hv,XK,hh,r⟩
     . rw[e2] at e;cases e
     . rw[hv] at e
       cases e
       rw[hh] at hk;cases hk
       cases ho
   show w'.ownsRow B T 2 v' (E ++ O).length (It (E ++ O))
   rw[Ax,GV];exact h6
def JK(a b:ByteArray):Prop:=a.data.toList<b.data.toList
theorem JV(a:ByteArray):¬ JK a a:=List.lt_irrefl _
theorem Ib{a b c:ByteArray}(h:JK a b)(k:JK b c):JK a c:=List.lt_trans h k
theorem L4{a b:ByteArray}(h:JK a b):¬ JK b a:=fun k=>JV a (Ib h k)
theorem Rn{a b:ByteArray}(h:a≠b):JK a b\/JK b a:=by
 unfold JK;rcases Decidable.em (a.data.toList<b.data.toList) with c|c
 . exact AN c
 . refine Ba ?_
   have c2:b.data.toList<=a.data.toList:=List.not_lt.1 c;rcases Decidable.em (b.data.toList<a.data.toList) with e|e
   . exact e
   . exfalso
     have e2:a.data.toList<=b.data.toList:=List.not_lt.1 e;apply h;apply ByteArray.ext;apply Array.ext';exact List.le_antisymm e2 c2
instance (a b:ByteArray):Decidable (JK a b):=by unfold JK;infer_instance
abbrev BC:=Int × ByteArray
def Ii(x y:BC):Prop:=¬ JK y.2 x.2
instance (x y:BC):Decidable (Ii x y):=by unfold Ii;infer_instance
def Ord(l:List BC):Prop:=l.Pairwise Ii
theorem ix(x:BC):Ii x x:=JV _
theorem LN{x y:BC}(h:JK x.2 y.2):Ii x y:=L4 h
theorem TF{x y z:BC}(h:Ii x y)(k:Ii y z):Ii x z:=by
 intro c;rcases Decidable.em (x.2=y.2) with e|e
 . exact k (e ▸ c)
 . rcases Rn e with e|e
   . exact k (Ib c e)
   . exact h e
theorem Ord.nil:Ord []:=List.Pairwise.nil
theorem Ord.one(x:BC):Ord [x]:=List.pairwise_singleton _ _
theorem ord_append{l m:List BC}:Ord (l ++ m) ↔ Ord l/\Ord m/\∀ x∈l,∀ y∈m,Ii x y:=List.pairwise_append
theorem Ord.get{l:List BC}(h:Ord l){i j:Nat}(hj:j<l.length)(l6:i<=j):Ii (l[i]'(by omega)) l[j]:=by
 rcases Nat.lt_or_eq_of_le l6 with c|c
 . exact Em.1 h i j (by omega) hj c
 . subst c;exact ix _
theorem Ord.sub{l m:List BC}(h:Ord l)(k:m.Sublist l):Ord m:=h.sublist k
theorem RZ{P Q:List BC}{v:BC}(h:Ord (P ++ Q))(h1:∀ x∈P,Ii x v)(h2:∀ y∈Q,Ii v y):Ord (P ++ v :: Q):=by
 obtain⟨a,b,c⟩:=ord_append.1 h;refine ord_append.2 ⟨a,Cl.2 ⟨h2,b⟩,fun x hx y hy=>?_⟩;rcases Cy.1 hy with rfl|hy
 . exact h1 x hx
 . exact c x hx y hy
theorem ou{X1 X2 Y1 Y2 Z1 Z2:List BC}(hX:Ord (X1 ++ X2))(hY:Ord (Y1 ++ Y2))(hA:∀ x∈X1,∀ y∈Y2,Ii x y)(hB:∀ y∈Y1,∀ x∈X2,Ii y x)
 (p1:Z1.Perm (X1 ++ Y1)) (o1:Ord Z1) (p2:Z2.Perm (X2 ++ Y2)) (o2:Ord Z2):Ord (Z1 ++ Z2)/\(Z1 ++ Z2).Perm ((X1 ++ X2) ++ (Y1 ++ Y2)):=by
 constructor
 . refine ord_append.2 ⟨o1,o2,fun u hu v hv=>?_⟩
   have hu:=p1.subset hu;have hv:=p2.subset hv;rcases C0.1 hu with hu|hu <;> rcases C0.1 hv with hv|hv
   . exact(ord_append.1 hX).2.2 u hu v hv
   . exact hA u hu v hv
   . exact hB u hu v hv
   . exact(ord_append.1 hY).2.2 u hu v hv
 . refine(p1.append p2).trans ?_
   rw[AQ,AQ];refine List.Perm.append_left X1 ?_;rw[<- AQ,<- AQ];exact List.Perm.append_right Y2 List.perm_append_comm
theorem IQ{X:List BC}(h:Ord X){s:Nat}{v:BC}(hs:s<=X.length)(hv:∀ h:0<s,Ii (X[s-1]'(by omega)) v):∀ x∈X.take s,Ii x v:=fun x hx=>by
 obtain⟨i,hi,rfl⟩:=BW hx;rw[AK] at hi;rw[C7];exact TF (h.get (i:=i) (j:=s-1) (by omega) (by omega)) (hv (by omega))
theorem Ld{Y:List BC}(h:Ord Y){e:Nat}{v:BC}(hv:∀ h:e<Y.length,Ii v Y[e]):∀ y∈Y.drop e,Ii v y:=fun y hy=>by
 obtain⟨i,hi,rfl⟩:=BW hy;rw[AU] at hi;rw[List.getElem_drop];exact TF (hv (by omega)) (h.get (i:=e) (j:=e+i) (by omega) (by omega))
theorem fV{X Y:List BC}(hX:Ord X)(hY:Ord Y){s e:Nat}(hs:s<=X.length)(he:e<=Y.length)
 (a:∀ (h1:0<s) (h2:e<Y.length),Ii (X[s-1]'(by omega)) Y[e]) (b:∀ (h1:s<X.length) (h2:0<e),Ii (Y[e-1]'(by omega)) X[s]):
 (∀ x∈X.take s,∀ y∈Y.drop e,Ii x y)/\∀ y∈Y.take e,∀ x∈X.drop s,Ii y x:=by
 constructor
 . intro x hx y hy
   have h0:0<s:=by
    rcases Nat.eq_zero_or_pos s with c|c
    . rw[c] at hx;cases hx
    . exact c
   have h1:e<Y.length:=by
    by_cases c:e<Y.length
    . exact c
    . rw[BZ (by omega)] at hy;cases hy
   exact Ld hY (fun h=>IQ hX hs (fun h2=>a h2 h) x hx) y hy
 . intro y hy x hx
   have h0:0<e:=by
    rcases Nat.eq_zero_or_pos e with c|c
    . rw[c] at hy;cases hy
    . exact c
   have h1:s<X.length:=by
    by_cases c:s<X.length
    . exact c
    . rw[BZ (by omega)] at hx;cases hx
   exact Ld hX (fun h=>IQ hY he (fun h2=>b h h2) y hy) x hx
def MrgP(X Y Z:List BC):Prop:=Z.Perm (X ++ Y)/\Ord Z
theorem MrgP.nilL{Y:List BC}(h:Ord Y):MrgP [] Y Y:=⟨List.Perm.refl _,h⟩
theorem MrgP.nilR{X:List BC}(h:Ord X):MrgP X [] X:=⟨by rw[BB],h⟩
theorem mG{X Y Z1 Z2:List BC}(hX:Ord X)(hY:Ord Y){s e:Nat}(hs:s<=X.length)(he:e<=Y.length)
 (a:∀ (h1:0<s) (h2:e<Y.length),Ii (X[s-1]'(by omega)) Y[e]) (b:∀ (h1:s<X.length) (h2:0<e),Ii (Y[e-1]'(by omega)) X[s])
 (m1:MrgP (X.take s) (Y.take e) Z1) (m2:MrgP (X.drop s) (Y.drop e) Z2):MrgP X Y (Z1 ++ Z2):=by
 obtain⟨k1,k2⟩:=fV hX hY hs he a b;have:=ou (X1:=X.take s) (X2:=X.drop s) (Y1:=Y.take e) (Y2:=Y.drop e) (by rw[Be];exact hX) (by rw[Be];exact hY) k1 k2 m1.1 m1.2 m2.1 m2.2;rw[Be,Be] at this;exact⟨this.2,this.1⟩
theorem mv{Y:List BC}(hY:Ord Y){v:BC}{i:Nat}(hi:i<=Y.length)(a:∀ h:0<i,Ii (Y[i-1]'(by omega)) v)(b:∀ h:i<Y.length,Ii v Y[i]):MrgP [v] Y (Y.take i ++ v :: Y.drop i):=by
 refine⟨?_,RZ (by rw[Be];exact hY) (IQ hY hi a) (Ld hY b)⟩;refine List.perm_middle.trans ?_;rw[Be];exact List.Perm.refl _
theorem MrgP.comm{X Y Z:List BC}(h:MrgP X Y Z):MrgP Y X Z:=⟨h.1.trans List.perm_append_comm,h.2⟩
def aX(D:List BC)(i j:Nat):List BC:=(D.set i (D.getD j default)).set j (D.getD i default)
theorem IM(A:List BC)(u:BC)(B:List BC){i:Nat}(h:A.length=i):(A ++ u :: B).getD i default=u:=by
 rw[An,BG (by omega),h,Nat.sub_self];rfl
theorem jG(A:List BC)(u v:BC)(B:List BC){i:Nat}(h:A.length=i):(A ++ u :: B).set i v=A ++ v :: B:=by
 rw[List.set_append_right _ _ (by omega),h,Nat.sub_self];rfl
theorem bW(A:List BC)(u:BC)(M:List BC)(v:BC)(B:List BC){i j:Nat}(hi:A.length=i)(hj:A.length+1+M.length=j):aX (A ++ u :: (M ++ v :: B)) i j=A ++ v :: (M ++ u :: B):=by
 have e1:∀ t:BC,A ++ t :: (M ++ v :: B)=(A ++ t :: M) ++ v :: B:=fun t=>by simp
 have hl:∀ t:BC,(A ++ t :: M).length=j:=fun t=>by simp;omega
 unfold aX;rw[IM A u _ hi,e1 u,IM (A ++ u :: M) v B (hl u),<- e1 u,jG A u v _ hi,e1 v,jG (A ++ v :: M) v u B (hl v)];simp
theorem j8(D:List BC){i j:Nat}(h:i≠j):aX D i j=aX D j i:=by
 unfold aX;rw[List.set_comm _ _ h]
theorem Xy(A:List BC)(u v:BC)(B:List BC){i:Nat}(hi:A.length=i):aX (A ++ u :: v :: B) i (i+1)=A ++ v :: u :: B:=by
 have:=bW A u [] v B hi (j:=i+1) (by simp;omega)
 simpa using this
def RwE(w:I)(g C:Nat)(D:List BC):Prop:=∃ cur:Array Aq,w.heap[g]? =G (Ar cur 38 (0,0))/\cur.size=C/\cur.toList.take (D.length*2)=It D/\D.length*2<=C
section
variable {w w':I}{g C:Nat}{D:List BC}
theorem RwE.keep(h:RwE w g C D)(e:w'.heap[g]? =w.heap[g]?):RwE w' g C D:=by
 obtain⟨cur,a,r⟩:=h;exact⟨cur,e.trans a,r⟩
theorem RwE.lt(h:RwE w g C D):g<w.heap.size:=by
 obtain⟨cur,a,r⟩:=h;exact(Al.1 a).1
theorem RwE.below(h:RwE w g C D)(hb:At w.heap.size w w'):RwE w' g C D:=h.keep (hb.block g h.lt)
theorem RwE.cells(h:RwE w g C D){j:Nat}(hj:j<D.length):w.cell? ⟨g,j*2,U⟩=G (J H (D.getD j default).1)/\w.cell? ⟨g,j*2+1,U⟩=G (.string (D.getD j default).2):=by
 obtain⟨cur,a,b,c,d⟩:=h;obtain⟨h1,h2⟩:=GB D j hj;rw[<- c,AZ] at h1 h2;rw[AC (by omega)] at h1 h2;rw[Az _ _ _ _ _ _ a,Az _ _ _ _ _ _ a];exact⟨by simpa using h1,by simpa using h2⟩
theorem RwE.esl(h:RwE w g C D)(cap:Nat):ESl w (Ak (G ⟨g,0,U⟩) D.length cap) D:=
 Ba ⟨_,cap,rfl,fun j hj=>⟨h.lt,rfl,by rw[Bm];exact(h.cells hj).1,by rw[Bm];exact(h.cells hj).2⟩⟩
abbrev ChE (g:Nat) (w w':I):Prop:=Chg (fun j=>j=g) (fun j=>j=g) w w'
theorem ChE.of_below{g:Nat}{w w':I}(h:At w.heap.size w w'):ChE g w w':=Chg.of_below h
theorem Tx{e:BC}{k:Nat}(h:RwE w g C D)(hk:k<D.length):∃ cur:Array Aq,w.heap[g]? =G (Ar cur 38 (0,0))/\
 RwE (w.setCells g (k*2) (cE e)) g C (D.set k e)/\Wrote w (w.setCells g (k*2) (cE e)) g:=by
 obtain⟨cur,hg,hs,hc,hd⟩:=h;have hg':w.heap[g]? =G (Ar cur.toList.toArray 38 (0,0)):=by rw[Array.toArray_toList];exact hg
 have hl:k*2+(cE e).length<=cur.toList.length:=by rw[IA];simpa using (show k*2+2<=cur.size by omega)
 have h1:∀ v∈cE e,v.oneCell'=AL:=fun v hv=>by simp[cE] at hv;rcases hv with rfl|rfl <;> rfl
 have e2:=DH hg' hl h1;rw[e2];refine⟨cur,hg,⟨(splice cur.toList (k*2) (cE e)).toArray,Cr _ _ _ _ _ _ hg,?_,?_,by rw[AJ];exact hd⟩,Wrote.setRow _ _ _⟩
 . simp[splice,cE];omega
 . rw[AJ,List.toList_toArray,Lt (show k*2+2<=D.length*2 by omega) (by have:cur.toList.length=cur.size:=Array.length_toList;omega),hc,It,G4 (f:=cE) (s:=2) (fun x _=>IA x) k hk e (IA _)]
   rfl
end
theorem ij{ops:Array BS}{rest:List BS}{op:BS}{a:Act}{w:I}{Q:Exit->Act->I->Prop}(Dn:op.guard=U)(x y:Operand)(ho:op.op=.store 38 x y)
 (g C k:Nat) (D:List BC) (i:Int) (s:ByteArray) (hx:a.eval x=Am (G ⟨g,k*2,U⟩)) (hy:a.eval y=BD #[J H i,.string s])
 (hr:RwE w g C D) (hk:k<D.length) (h:∀ w',Wrote w w' g->RwE w' g C (D.set k (i,s))->Cn Ae ops Q rest (a.put op.dst undef) w'):Cn Ae ops Q (op :: rest) a w:=by
 obtain⟨cur,hg,h1,h2⟩:=Tx (e:=(i,s)) hr hk;obtain⟨cur',hg2,hs,hc,hd⟩:=hr;obtain rfl:cur'=cur:=by rw[hg] at hg2;injection hg2 with e;injection e with e;exact e.symm
 have hg':w.heap[g]? =G (Ar cur'.toList.toArray 38 (0,0)):=by rw[Array.toArray_toList];exact hg
 have hl:k*2+(cE (i,s)).length<=cur'.toList.length:=by rw[IA];simpa using (show k*2+2<=cur'.size by omega)
 have h3:∀ v∈cE (i,s),v.oneCell'=AL:=fun v hv=>by simp[cE] at hv;rcases hv with rfl|rfl <;> rfl
 exact wpList_store_mid Dn 38 x y ho g (k*2) #[J H i,.string s] hx hy (DX hg' hl) (by rw[Pr];rfl) (Dv (cs:=cE (i,s)) h3) (h _ h2 h1)
theorem DO{ops:Array BS}{op:BS}{a:Act}{w:I}{K:Act->I->Prop}{Q:Exit->Act->I->Prop}{E:Prop}(Dn:op.guard=U)(x y:Operand)(ho:op.op=.store 38 x y)
 (g C k:Nat) (D:List BC) (i:Int) (s:ByteArray) (hx:a.eval x=Am (G ⟨g,k*2,U⟩)) (hy:a.eval y=BD #[J H i,.string s])
 (hr:RwE w g C D) (hk:k<D.length) (h:∀ w',Wrote w w' g->RwE w' g C (D.set k (i,s))->K (a.put op.dst undef) w'):if Region.wanted op (yielded ops a.tmps)=AL then BS.wp Ae op a w K Q else E:=by
 rw[AC (by simp[Region.wanted,Dn])];obtain⟨cur,hg,h1,h2⟩:=Tx (e:=(i,s)) hr hk;obtain⟨cur',hg2,hs,hc,hd⟩:=hr;obtain rfl:cur'=cur:=by rw[hg] at hg2;injection hg2 with e;injection e with e;exact e.symm
 have hg':w.heap[g]? =G (Ar cur'.toList.toArray 38 (0,0)):=by rw[Array.toArray_toList];exact hg
 have hl:k*2+(cE (i,s)).length<=cur'.toList.length:=by rw[IA];simpa using (show k*2+2<=cur'.size by omega)
 have h3:∀ v∈cE (i,s),v.oneCell'=AL:=fun v hv=>by simp[cE] at hv;rcases hv with rfl|rfl <;> rfl
 exact wp_store_mid 38 x y ho g (k*2) #[J H i,.string s] hx hy (DX hg' hl) (by rw[Pr];rfl) (Dv (cs:=cE (i,s)) h3) (h _ h2 h1)
theorem cp:∀ a b:List UInt8,Lib.compareBytes a b<0 ↔ a<b
 |[],[]=>by simp[Lib.compareBytes]
 |[],_ :: _=>by simp[Lib.compareBytes]
 |_ :: _,[]=>by simp[Lib.compareBytes]
 |a :: l,b :: m=>by
  have ih:=cp l m;unfold Lib.compareBytes;rw[List.cons_lt_cons_iff];by_cases h1:a<b
  . rw[AC h1];exact⟨fun _=>AN h1,fun _=>by decide⟩
  . rw[AE h1]
    by_cases h2:b<a
    . rw[AC h2]
      refine⟨fun e=>absurd e (by decide),fun e=>?_⟩;rcases e with e| ⟨e,_⟩
      . exact absurd e h1
      . exact absurd h2 (by rw[e];exact UInt8.lt_irrefl b)
    . rw[AE h2,ih]
      have e:a=b:=UInt8.le_antisymm (UInt8.not_lt.1 h2) (UInt8.not_lt.1 h1);exact⟨fun h=>Ba ⟨e,h⟩,fun h=>h.elim (fun h=>absurd h h1) fun h=>h.2⟩
def WZ(x y:BC):Int:=Lib.compareBytes x.2.data.toList y.2.data.toList
theorem Kv(x y:BC):WZ x y<0 ↔ JK x.2 y.2:=cp _ _
theorem Qk(x y:BC):¬ WZ x y<0 ↔ Ii y x:=by rw[Kv];rfl
abbrev Fy:Aq:=.func (.func 44) #[] #[]
theorem kB(a b:ByteArray)(w:I):AA Ae 87 #[.string a,.string b] w fun e w'=>e=Ag (J H (Lib.compareBytes a.data.toList b.data.toList))/\w=w':=by
 go_enter Tryz.func87,Tryz.ntmps87;go_wp2;rw[run_callFunc_extern Tryz.func131 (by kernel_rfl) (by kernel_rfl) (by kernel_rfl) (e:=Extern.BytealgCompare.compare) (by kernel_rfl),Lib.run_compareString];simp only[Result.andThen];rw[BS.upon_value];go_wp2;go_ret;exact⟨rfl,rfl⟩
theorem eh(a b:ByteArray)(w:I):AA Ae 45 #[.string a,.string b] w fun e w'=>e=Ag (J H (Lib.compareBytes a.data.toList b.data.toList))/\w=w':=by
 go_enter Tryz.func45,Tryz.ntmps45;go_wp2_with (go_at_call 87;refine(kB a b _).mono ?_;rintro e w' ⟨rfl,rfl⟩)
 go_ret;exact⟨rfl,rfl⟩
theorem LQ(x y:BC)(w:I):AA Ae 44 #[BD #[J H x.1,.string x.2],BD #[J H y.1,.string y.2]] w fun e w'=>e=Ag (J H (WZ x y))/\At w.heap.size w w':=by
 obtain⟨i,s⟩:=x;obtain⟨j,t⟩:=y;obtain⟨c,hc⟩:=nm (WZ (i,s) (j,t));have K:Hid (∀ W,AA Ae 45 #[.string s,.string t] W fun e w'=>e=Ag (J H c)/\W=w'):=vJ fun W=>by rw[hc];exact eh s t W
 rw[<- hc];clear hc;go_enter Tryz.func44,Tryz.ntmps44;go_wp2_with (go_at_call 45;refine(K.out _).mono ?_;rintro e w' ⟨rfl,rfl⟩)
 go_ret;exact⟨rfl,((AM _ _).alloc (AB _) _).alloc (by simp) _⟩
section
variable {S:I->Prop}{m:Nat}{L:Array Bool}{w:I}
theorem Cp(h:L.getD m AL=AL):m8 m S L w:=fun e=>by rw[h] at e;cases e
end
def OJ(A X M Y B:List BC)(j:Nat):List BC:=A ++ ((Y.take j ++ X.drop j) ++ (M ++ ((X.take j ++ Y.drop j) ++ B)))
theorem ll(A X M Y B:List BC):OJ A X M Y B 0=A ++ (X ++ (M ++ (Y ++ B))):=by simp[OJ]
theorem mD(A X M Y B:List BC)(h:X.length=Y.length):OJ A X M Y B X.length=A ++ (Y ++ (M ++ (X ++ B))):=by
 unfold OJ;rw[AV (l:=Y) (by omega),BZ (l:=X) (by omega),AV (l:=X) (by omega),BZ (l:=Y) (by omega)];simp
theorem nr(A X M Y B:List BC)(h:X.length=Y.length){j:Nat}(hj:j<=X.length):(OJ A X M Y B j).length=A.length+X.length+M.length+Y.length+B.length:=by
 unfold OJ;simp;omega
theorem kZ(A X M Y B:List BC)(h:X.length=Y.length){j:Nat}(hj:j<X.length){a b:Nat}(ha:a=A.length+j)(hb:b=A.length+X.length+M.length+j):aX (OJ A X M Y B j) a b=OJ A X M Y B (j+1):=by
 have e1:OJ A X M Y B j=(A ++ Y.take j) ++ X[j] :: ((X.drop (j+1) ++ (M ++ X.take j)) ++ Y[j]'(by omega) :: (Y.drop (j+1) ++ B)):=by
  unfold OJ;rw[Dq hj,Dq (l:=Y) (by omega)];simp only[AQ,List.cons_append]
 have e2:OJ A X M Y B (j+1)=(A ++ Y.take j) ++ Y[j]'(by omega) :: ((X.drop (j+1) ++ (M ++ X.take j)) ++ X[j] :: (Y.drop (j+1) ++ B)):=by
  unfold OJ;rw[Bn hj,Bn (l:=Y) (by omega)];simp only[AQ,List.cons_append,B0]
 rw[e1,e2];exact bW _ _ _ _ _ (by simp;omega) (by simp;omega)
theorem MA{w:I}{g C n cap:Nat}(A X M Y B:List BC)(h:RwE w g C (A ++ (X ++ (M ++ (Y ++ B)))))(hxy:X.length=Y.length){a b m:Nat}(hm:X.length=m)(ha:A.length=a)(hb:A.length+X.length+M.length=b)(hn:(A ++ (X ++ (M ++ (Y ++ B)))).length=n)(EJ:n<=1000000):
 AA Ae 197 #[Ak (G ⟨g,0,U⟩) n cap,J H a,J H b,J H m,Fy] w fun e w'=>e=Ag (AO #[])/\RwE w' g C (A ++ (Y ++ (M ++ (X ++ B))))/\ChE g w w':=by
 have h0:RwE w g C (OJ A X M Y B 0):=by rw[ll];exact h
 have hN:a+m+m<=b+m/\b+m<=n:=by
  simp only[Ax] at hn;omega
 have HLEN:Hid (∀ j,j<=m->(OJ A X M Y B j).length=n):=vJ fun j hj=>by
  rw[nr A X M Y B hxy (by omega),<- hn];simp only[Ax];omega
 have HSTEP:Hid (∀ k,k<m->∀ i j,a+k=i->b+k=j->aX (OJ A X M Y B k) i j=OJ A X M Y B (k+1)):=vJ fun k hk i j hi hj=>kZ A X M Y B hxy (by omega) (by omega) (by omega)
 have HALL:Hid (OJ A X M Y B m=A ++ (Y ++ (M ++ (X ++ B)))):=vJ (by rw[<- hm];exact mD A X M Y B hxy);have HR0:=vJ h0;obtain⟨hN1,hN2⟩:=hN;clear h h0 hxy hm ha hb hn;go_enter Tryz.func197,Tryz.ntmps197;go_wp2;go_loopw [10] (fun i wr=>∃ k:Nat,k<=m/\i=J H k/\Hid (RwE wr g C (OJ A X M Y B k))/\Hid (ChE g w wr)) (fun i _=>m-(intOf i).toNat)
 case atStart=>exact⟨0,AX _,rfl,HR0,vJ (Chg.refl _ _)⟩
 case round=>
  obtain⟨k,hk,rfl,HR,HC⟩:=hrel;by_cases hlt:k<m
  . have J6:(k:Int)<(m:Int):=by omega
    obtain⟨i,hi⟩:∃ i,a+k=i:=⟨_,rfl⟩;obtain⟨j,hj⟩:∃ j,b+k=j:=⟨_,rfl⟩;have hiz:(a:Int)+(k:Int)=(i:Int):=(by omega);have hjz:(b:Int)+(k:Int)=(j:Int):=(by omega);have hin:i<n:=(by omega);have hjn:j<n:=(by omega);have o6:(i:Int)<(n:Int):=(by omega);have hjnz:(j:Int)<(n:Int):=(by omega);have hk1:k+1<=m:=(by omega);have rU:H.wrap (i:Int)=(i:Int):=A9 _ (by omega);have hwj:H.wrap (j:Int)=(j:Int):=A9 _ (by omega);have HS1:=HSTEP.out k hlt i j hi hj;have HL:=HLEN.out k hk;have hc1:=HR.out.below (w':=wr.drew) ((AM _ wr).drew);obtain⟨c1,c2⟩:=hc1.cells (j:=i) (by omega);obtain⟨c3,c4⟩:=hc1.cells (j:=j) (by omega);have HRW:=vJ hc1;have HI:Hid (i<(OJ A X M Y B k).length):=vJ (by omega);have lU:aX (OJ A X M Y B k) i j=((OJ A X M Y B k).set i ((OJ A X M Y B k).getD j default)).set j ((OJ A X M Y B k).getD i default):=rfl;rw[HS1] at lU;have Sf:∀ e:BC,((OJ A X M Y B k).set i e).length=n:=fun e=>by rw[AJ];exact HL
    generalize (OJ A X M Y B k).getD i default=u at c1 c2 lU;generalize (OJ A X M Y B k).getD j default=v at c3 c4 lU;obtain⟨x1,s1⟩:=u;obtain⟨x2,s2⟩:=v;have HJ:Hid (j<((OJ A X M Y B k).set i (x2,s2)).length):=vJ (by rw[Sf];exact hjn);have HSW:=vJ lU;have HS:Hid (wr.drew.cell? ⟨g,i*2,U⟩=G (J H x1)/\wr.drew.cell? ⟨g,i*2+1,U⟩=G (.string s1)/\wr.drew.cell? ⟨g,j*2,U⟩=G (J H x2)/\wr.drew.cell? ⟨g,j*2+1,U⟩=G (.string s2)):=vJ ⟨c1,c2,c3,c4⟩;clear HS1 HL hc1 c1 c2 c3 c4 lU Sf hi hj;go_wp2;refine wp_region_any (by kernel_rfl) ?_
    (try (change wpAny _ _ _ _ _ _ _ (I.drew _)))
    refine AW (i:=0) (v:=Ak (G ⟨g,0,U⟩) n cap) rfl (by kernel_rfl) (by kernel_rfl) (by kernel_rfl) (fun _ _ _ h=>h) (AN ⟨by rfl,?_⟩) ?_
    . intro W;go_simp
    (try simp only[AR,Aj,Av,Au,As,Ao])
    refine AW (i:=1) (v:=J H a) rfl (by kernel_rfl) (by kernel_rfl) (by kernel_rfl) (fun _ _ _ h=>h) (AN ⟨by rfl,?_⟩) ?_
    . intro W;go_simp
    (try simp only[AR,Aj,Av,Au,As,Ao,Ap])
    refine AW (i:=2) (v:=J H k) rfl (by kernel_rfl) (by kernel_rfl) (by kernel_rfl) (fun _ _ _ h=>h) (AN ⟨by rfl,?_⟩) ?_
    . intro W;go_simp
    (try simp only[AR,Aj,Av,Au,As,Ao,Ap])
    refine AW (i:=3) (v:=J H i) rfl (by kernel_rfl) (by kernel_rfl) (by kernel_rfl) (fun _ _ _ h=>h) (AN ⟨by rfl,?_⟩) ?_
    . intro W;go_simp
    (try simp only[AR,Aj,Av,Au,As,Ao,Ap])
    refine AW (i:=4) (v:=Ak (G ⟨g,0,U⟩) n cap) rfl (by kernel_rfl) (by kernel_rfl) (by kernel_rfl) (fun _ _ _ h=>h) (AN ⟨by rfl,?_⟩) ?_
    . intro W;go_simp
    (try simp only[AR,Aj,Av,Au,As,Ao,Ap])
    refine AW (i:=5) (v:=J H b) rfl (by kernel_rfl) (by kernel_rfl) (by kernel_rfl) (fun _ _ _ h=>h) (AN ⟨by rfl,?_⟩) ?_
    . intro W;go_simp
    (try simp only[AR,Aj,Av,Au,As,Ao,Ap])
    refine AW (i:=6) (v:=J H k) rfl (by kernel_rfl) (by kernel_rfl) (by kernel_rfl) (fun _ _ _ h=>h) (AN ⟨by rfl,?_⟩) ?_
    . intro W;go_simp
    (try simp only[AR,Aj,Av,Au,As,Ao,Ap])
    refine AW (i:=7) (v:=J H j) rfl (by kernel_rfl) (by kernel_rfl) (by kernel_rfl) (fun _ _ _ h=>h) (AN ⟨by rfl,?_⟩) ?_
    . intro W;go_simp
    (try simp only[AR,Aj,Av,Au,As,Ao,Ap])
    refine AW (i:=8) (v:=Ak (G ⟨g,0,U⟩) n cap) rfl (by kernel_rfl) (by kernel_rfl) (by kernel_rfl) (fun _ _ _ h=>h) (AN ⟨by rfl,?_⟩) ?_
    . intro W;go_simp
    (try simp only[AR,Aj,Av,Au,As,Ao,Ap])
    refine AW (i:=9) (v:=J H b) rfl (by kernel_rfl) (by kernel_rfl) (by kernel_rfl) (fun _ _ _ h=>h) (AN ⟨by rfl,?_⟩) ?_
    . intro W;go_simp
    (try simp only[AR,Aj,Av,Au,As,Ao,Ap])
    refine AW (i:=10) (v:=J H k) rfl (by kernel_rfl) (by kernel_rfl) (by kernel_rfl) (fun _ _ _ h=>h) (AN ⟨by rfl,?_⟩) ?_
    . intro W;go_simp
    (try simp only[AR,Aj,Av,Au,As,Ao,Ap])
    refine AW (i:=11) (v:=J H j) rfl (by kernel_rfl) (by kernel_rfl) (by kernel_rfl) (fun _ _ _ h=>h) (AN ⟨by rfl,?_⟩) ?_
    . intro W;go_simp
    (try simp only[AR,Aj,Av,Au,As,Ao,Ap])
    refine AW (i:=12) (v:=Am (G ⟨g,j*2,U⟩)) rfl (by kernel_rfl) (by kernel_rfl) (by kernel_rfl) (fun _ _ _ h=>h) (AN ⟨by rfl,?_⟩) ?_
    . intro W;go_simp
    (try simp only[AR,Aj,Av,Au,As,Ao,Ap])
    refine AW (i:=14) (v:=Ak (G ⟨g,0,U⟩) n cap) rfl (by kernel_rfl) (by kernel_rfl) (by kernel_rfl) (fun _ _ _ h=>h) (AN ⟨by rfl,?_⟩) ?_
    . intro W;go_simp
    (try simp only[AR,Aj,Av,Au,As,Ao,Ap])
    refine AW (i:=15) (v:=J H a) rfl (by kernel_rfl) (by kernel_rfl) (by kernel_rfl) (fun _ _ _ h=>h) (AN ⟨by rfl,?_⟩) ?_
    . intro W;go_simp
    (try simp only[AR,Aj,Av,Au,As,Ao,Ap])
    refine AW (i:=16) (v:=J H k) rfl (by kernel_rfl) (by kernel_rfl) (by kernel_rfl) (fun _ _ _ h=>h) (AN ⟨by rfl,?_⟩) ?_
    . intro W;go_simp
    (try simp only[AR,Aj,Av,Au,As,Ao,Ap])
    refine AW (i:=17) (v:=J H i) rfl (by kernel_rfl) (by kernel_rfl) (by kernel_rfl) (fun _ _ _ h=>h) (AN ⟨by rfl,?_⟩) ?_
    . intro W;go_simp
    (try simp only[AR,Aj,Av,Au,As,Ao,Ap])
    refine AW (i:=18) (v:=Am (G ⟨g,i*2,U⟩)) rfl (by kernel_rfl) (by kernel_rfl) (by kernel_rfl) (fun _ _ _ h=>h) (AN ⟨by rfl,?_⟩) ?_
    . intro W;go_simp
    (try simp only[AR,Aj,Av,Au,As,Ao,Ap])
    refine Ej (S:=fun W=>W.cell? ⟨g,i*2,U⟩=G (J H x1)/\W.cell? ⟨g,i*2+1,U⟩=G (.string s1)/\W.cell? ⟨g,j*2,U⟩=G (J H x2)/\W.cell? ⟨g,j*2+1,U⟩=G (.string s2)) (m:=21) _ _ _ _ ?_;refine De (i:=13) (v:=BD #[J H x2,.string s2]) rfl rfl (by kernel_rfl) (by kernel_rfl) (by kernel_rfl) (by kernel_rfl) (by kernel_rfl) (fun _ _ _ h=>h) (AN ⟨by rfl,?_⟩) HS.out ?_
    . intro W EM;obtain⟨z1,z2,z3,z4⟩:=EM;go_simp
    (try simp only[AR,Aj,Av,Au,As,Ao,Ap])
    refine De (i:=19) (v:=BD #[J H x1,.string s1]) rfl rfl (by kernel_rfl) (by kernel_rfl) (by kernel_rfl) (by kernel_rfl) (by kernel_rfl) (fun _ _ _ h=>h) (AN ⟨by rfl,?_⟩) HS.out ?_
    . intro W EM;obtain⟨z1,z2,z3,z4⟩:=EM;go_simp
    (try simp only[AR,Aj,Av,Au,As,Ao,Ap])
    refine De (i:=20) (v:=Am (G ⟨g,i*2,U⟩)) rfl rfl (by kernel_rfl) (by kernel_rfl) (by kernel_rfl) (by kernel_rfl) (by kernel_rfl) (fun _ _ _ h=>h) (AN ⟨by rfl,?_⟩) HS.out ?_
    . intro W EM;go_simp
    (try simp only[AR,Aj,Av,Au,As,Ao,Ap])
    refine BX (rs:=[21]) (by kernel_rfl) (by simp) (TillReady.cons rfl (fun K hK=>?_) TillReady.nil);refine DO (by rfl) (.tmp 36) (.tmp 29) (by rfl) g C i _ x2 s2 (by rfl) (by rfl) HRW.out HI.out ?_;intro w5 hw5 E3;have HR5:=vJ E3;have HW5:=vJ hw5;clear E3 hw5;refine hK.out _ _ (Cp (by kernel_rfl)) ?_;clear hK K
    (try simp only[AR,As,Ao,Ap])
    refine BX (rs:=[22]) (by kernel_rfl) (by simp) (TillReady.cons rfl (fun K hK=>?_) TillReady.nil)
    go_simp
    refine hK.out _ _ (Cp (by kernel_rfl)) ?_;clear hK K
    (try simp only[AR,Aj,Av,Au,As,Ao,Ap])
    refine BX (rs:=[23]) (by kernel_rfl) (by simp) (TillReady.cons rfl (fun K hK=>?_) TillReady.nil);refine DO (by rfl) (.tmp 37) (.tmp 35) (by rfl) g C j _ x1 s1 (by rfl) (by rfl) HR5.out HJ.out ?_;intro w6 hw6 hr6;have HR6:=vJ hr6;have HW6:=vJ hw6;clear hr6 hw6;refine hK.out _ _ (Cp (by kernel_rfl)) ?_;clear hK K
    (try simp only[AR,As,Ao,Ap])
    refine Gd (by kernel_rfl) ?_ _;go_wp2;go_roundw
    case rel=>exact⟨k+1,hk1,by go_num,vJ (by rw[HSW.out];exact HR6.out),vJ ((HC.out.trans (ChE.of_below ((AM _ wr).drew))).trans ((Chg.of_wrote1 HW5.out).trans (Chg.of_wrote1 HW6.out)))⟩
    case measure=>simp[intOf];omega
  . obtain rfl:k=m:=by omega
    rw[HALL.out] at HR;go_wp2
    go_end0
    exact⟨rfl,HR.out,HC.out⟩
end
end Go.Proofs.YtdefiimcmecnnaaGreat
