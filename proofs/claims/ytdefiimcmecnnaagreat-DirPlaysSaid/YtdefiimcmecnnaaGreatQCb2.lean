/- What the law rests on. -/
import Derived.Test.YtdefiimcmecnnaaGreatQC14
import Derived.Test.YtdefiimcmecnnaaGreatQCb1
open Go.Value renaming int->Y,slice->Ak,pointer->Am,tuple->AO,bool->A1,agg->BD
open Go.IntKind renaming i64->J
open Go.Proofs.Tryz renaming prog->I
open Option renaming none->G,some->R
open Go.Ending renaming returned->Ag
open Go renaming World->U,Value->Aq,Calls->AA,Oper->BS,wpList->Cn
open List renaming getElem_cons_zero->Ao,getElem_cons_succ->Ap,getElem_toArray->As,set_cons_succ->Au,set_cons_zero->A,nil_append->B0,range->Co
open Go.Obj renaming cells->Ar
open Go.RowKit renaming Below->At
open Bool renaming false->AI,true->AL
open Or renaming inl->AN,inr->Ba
open Go.Act renaming put->C
open Go.Proofs.Tryz
namespace Go.Proofs.YtdefiimcmecnnaaGreat
set_option maxHeartbeats 12000000
set_option linter.unusedVariables false
set_option maxRecDepth 100000
section
open Go.RowKit BM
theorem Qf(l:List BC)(s:ByteArray):C4 l s<=l.length:=List.findIdx_le_length
theorem Ls{l:List BC}{s:ByteArray}(h:C4 l s<l.length):(l[C4 l s]).2=s:=eqS_iff.1 (List.findIdx_getElem (w:=h))
section
variable {sz:Nat}{M:Nat->Option (List Int)}{l:List BC}
theorem eu(k:Nat):z256.getD k 0=0:=by
 unfold z256;rw[An,BF];split <;> rfl
theorem DirF.some(h:DirF sz M l){i:Nat}(hi:i<l.length):(M (16*i / 256)).isSome=AL:=by
 cases hm:M (16*i / 256) with
 |some x=>rfl
 |none=>
  exfalso;have e:=h.get hi;have hf:=CF (h.frm _ (Bf hi));have e2:(Md M (16*i) 16).getD 2 0=Vr M (16*i+2):=IT M (16*i) (by decide);rw[e,NY] at e2;unfold Vr Ga at e2;rw[show(16*i+2) / 256=16*i / 256 by omega,hm] at e2;have:(G:Option (List Int)).getD z256=z256:=rfl;rw[this,eu] at e2;omega
theorem DirF.inside(h:DirF sz M l){i:Nat}(hi:i<l.length){e:BC}(he:C3 e=AL):DL (wrL M (16*i) (Db e))=DL M:=by
 refine PB fun b _=>⟨fun k=>?_,RF _ _ _ _⟩
 rcases Q4 _ _ _ k with k| ⟨j,k1,k2⟩
 . exact k
 . rw[Di (CF he).2] at k1
   rw[k2,show(16*i+j) / 256=16*i / 256 by omega];exact h.some hi
theorem DirN.set(h:DirN sz M l){e:BC}(he:C3 e=AL){i:Nat}(hi:i<l.length):DirN sz (wrL M (16*i) (Db e)) (l.set i e):=by
 refine⟨h.f.set he hi,fun b hb=>RV _ _ _ (h.hi b hb) fun j hj=>?_⟩;rw[Di (CF he).2] at hj;have:=h.f.zs;omega
theorem jO(M:Nat->Option (List Int)){n i:Nat}(h:n<=256*i):Vq M n i=G:=by unfold Vq;rw[AC h]
theorem DirN.cut(h:DirN sz M l){k:Nat}(hk:k<=l.length):DirN (16*k) (Vq M (16*k)) (l.take k):=⟨h.f.cut hk,fun i hi=>jO M hi⟩
end
section
variable {w:U}{P:Nat->Prop}{d p:Aq}{X:XSt}{S:List Int}{N:List (List Int)}{O:List (Int × Int)}{kk:Nat}{F:Nat->List Int}{bf n sz:Nat}{M:Nat->Option (List Int)}{Q:List Int}{l:List BC}
theorem My(h:Frd w P d p X S N O kk F bf)(ft:Fat X.cur N F n sz M)(hk:Ca N n=2)(h1:1<=n)(Bu:n<48)(hd:DirF sz M l):
 AA I 21 #[Am (R ⟨bf,0,G⟩),Y J n] w fun e w'=>∃ v Z,e=Ag (AO #[v,Y J 0])/\Z.Perm l/\Ord Z/\ESl w' v Z/\At w.heap.size w w':=by
 have hlen:=hd.len ft.sb;have KR:=vJ (GJ h ft hk h1 Bu hd);have KS:Hid (∀ (V:U) (v:Aq),At w.heap.size w V->ER V w.heap.size 38 v l->AA I 43 #[v,Fy] V fun e w'=>e=Ag (AO #[])/\∃ Z,Z.Perm l/\Ord Z/\ESl w' v Z/\At w.heap.size w w'):=vJ fun V v hV hv=>by
  refine(RJ hv (by omega)).mono ?_;rintro e w' ⟨he,Z,z1,z2,z3,z4⟩;have:=hV.size;exact⟨he,Z,z1,z2,z3,hV.trans (z4.mono (by omega))⟩
 clear h ft hk h1 Bu hd hlen;go_enter func21,ntmps21
 go_wp2_with (first
  |(go_at_call 30;(with_reducible refine KR.out.mono ?_);rintro e w2 ⟨v,rfl,hv,hb2⟩;obtain⟨ao,cap,rfl⟩:=hv.sl.shape;have KS2:=vJ (KS.out _ _ hb2 hv);clear hv hb2)
  |(go_at_call 43;(with_reducible refine KS2.out.mono ?_);rintro e w3 ⟨rfl,Z,z1,z2,z3,z4⟩))
 go_ret2;exact⟨_,Z,rfl,z1,z2,z3,z4⟩
def vz(w:U)(P:Nat->Prop)(d p:Aq)(X:XSt)(S:List Int)(N:List (List Int))(O:List (Int × Int))(kk:Nat)(F:Nat->List Int)(bf n sz:Nat)(M:Nat->Option (List Int))(Q:List Int)(l:List BC)(x:BC)(e:Ending)(w':U):Prop:=
 (C3 x=AI/\e=Ag (Y J 1)/\At w.heap.size w w')\/(C3 x=AL/\¬ C4 l x.2<l.length/\e=Ag (Y J 4)/\At w.heap.size w w')\/
 (C3 x=AL/\C4 l x.2<l.length/\e=Ag (Y J 0)/\FlO w P d p X S N O kk F bf n Q sz (wrL M (16*C4 l x.2) (Db x)) 2 R5 w')
theorem WrE.inside{a:Nat}{x:BC}{e:Ending}{w':U}(h:Flt w P d p X S N O kk F bf n sz M Q)(hd:DirF sz M l)(ha:a<l.length)(hx:C3 x=AL)(hw:WrE w P d p X S N O kk F bf n sz M Q a x e w'):e=Ag (Y J 0)/\FlO w P d p X S N O kk F bf n Q sz (wrL M (16*a) (Db x)) 2 R5 w':=by
 have hu:=hd.inside ha hx;have hz:=hd.zs;have hr:=h.rm;rcases hw with⟨a1,a2,a3⟩| ⟨a1,a2,a3⟩
 . rw[Nat.max_eq_left (by omega)] at a3
   exact⟨a1,a3⟩
 . exfalso
   apply a2;unfold Fp;rw[hu];omega
theorem gu(h:Flt w P d p X S N O kk F bf n sz M Q)(hk:Ca N n=2)(h1:1<=n)(Bu:n<48)(hQ:Q.length<=32)(hd:DirF sz M l)(x:BC):
 AA I 12 #[Am (R ⟨bf,0,G⟩),Y J n,BD #[Y J x.1,.string x.2]] w (vz w P d p X S N O kk F bf n sz M Q l x):=by
 have hl:=hd.len h.ft.sb;obtain⟨i,s⟩:=x;have hb1:=Ay w (Ar #[Y J i,.string s] 38);have hn1:=Aw w (Ar #[Y J i,.string s] 38);obtain⟨w1,hw1⟩:=nm (w.alloc (Ar #[Y J i,.string s] 38));rw[<- hw1] at hb1 hn1;have H1:Hid (w.alloc (Ar #[Y J i,.string s] 38)=w1):=vJ hw1.symm;have HCB:Hid (∀ W,At w1.heap.size w1 W->W.cell? ⟨w.heap.size,0,G⟩=R (Y J i)/\W.cell? ⟨w.heap.size,1,G⟩=R (.string s)):=vJ fun W hW=>by
  have:=(hW.block _ (Al.1 hn1).1).trans hn1;rw[Az _ _ _ _ _ _ this,Az _ _ _ _ _ _ this];exact⟨rfl,rfl⟩
 have Qv:Fat X.cur N F n sz M:=by rw[h.md.cur];exact h.ft
 have KR:=vJ (GJ (h.md.low hb1).rd Qv hk h1 Bu hd);have KX:Hid (∀ (V:U) (v:Aq),ESl V v l->AA I 32 #[v,.string s] V fun e w'=>e=Ag (Y J (DU l s))/\At V.heap.size V w'):=vJ fun V v hv=>JT hv (by omega) s
 have HB1:=vJ hb1;obtain⟨m,hm⟩:=nm l.length;have HSH:Hid (∀ (V:U) (v:Aq) (B:Nat),ER V B 38 v l->∃ ao cap,v=Ak ao m cap):=vJ fun V v B hv=>by rw[hm];exact hv.sl.shape
 cases hf:C3 (i,s)
 . have KF:=vJ fun V=>JD i s AI hf V
   have HF:=vJ hf;clear h hk h1 Bu hQ hd hl hw1 hn1 hb1 Qv hm hf;go_enter func12,ntmps12;go_upto_region 1 with(fail)
   rw[H1.out]
   go_wp2_with (first
    |(go_at_call 30;(with_reducible refine KR.out.mono ?_);rintro e w2 ⟨v,rfl,hv,hb2⟩;obtain⟨ao,cap,rfl⟩:=HSH.out _ _ _ hv;obtain⟨c1,c2⟩:=HCB.out _ hb2;have HB2:=vJ (HB1.out.trans (hb2.mono HB1.out.size));clear hv hb2)
    |(go_at_call 31;(with_reducible refine(KF.out _).mono ?_);rintro e w3 ⟨rfl,hb3⟩))
   go_ret;exact AN ⟨HF.out,rfl,HB2.out.trans (hb3.mono HB2.out.size)⟩
 . have KF:=vJ fun V=>JD i s AL hf V
   have HF:=vJ hf;by_cases hx:C4 l s<l.length
   . obtain⟨k,I3⟩:=nm (C4 l s)
     have e3:DU l s=(k:Int):=(by unfold DU;rw[AC hx,I3]);rw[e3] at KX;have HX:=vJ hx;have HWR:Hid (∀ V,At w.heap.size w V->AA I 33 #[Am (R ⟨bf,0,G⟩),Y J n,Y J k,BD #[Y J i,.string s]] V fun e w'=>e=Ag (Y J 0)/\FlO w P d p X S N O kk F bf n Q sz (wrL M (16*C4 l s) (Db (i,s))) 2 R5 w'):=vJ fun V hV=>by
      rw[I3];exact(MK (h.low hV) h1 Bu hQ (a:=C4 l s) (by omega) hf).mono fun e w' hw=>(hw.pre hV).inside h hd hx hf
     clear h hk h1 Bu hQ hd hl hw1 hn1 hb1 Qv hm hf e3 hx I3;go_enter func12,ntmps12;go_upto_region 1 with(fail)
     rw[H1.out]
     go_wp2_with (first
      |(go_at_call 30;(with_reducible refine KR.out.mono ?_);rintro e w2 ⟨v,rfl,hv,hb2⟩;obtain⟨ao,cap,rfl⟩:=HSH.out _ _ _ hv;obtain⟨c1,c2⟩:=HCB.out _ hb2;have HV2:=vJ hv.sl;have HB2:=vJ hb2;clear hv hb2)
      |(go_at_call 31;(with_reducible refine(KF.out _).mono ?_);rintro e w3 ⟨rfl,hb3⟩;have HB3:=vJ (HB2.out.trans (hb3.mono HB2.out.size));obtain⟨d1,d2⟩:=HCB.out _ HB3.out;have KX3:=vJ (KX.out _ _ (HV2.out.below hb3));clear hb3)
      |(go_at_call 32;(with_reducible refine KX3.out.mono ?_);rintro e w4 ⟨rfl,hb4⟩;have HB4:=vJ (HB3.out.trans (hb4.mono HB3.out.size));obtain⟨f1,f2⟩:=HCB.out _ HB4.out;have KW4:=vJ (HWR.out _ (HB1.out.trans (HB4.out.mono HB1.out.size)));clear hb4)
      |(go_at_call 33;(with_reducible refine KW4.out.mono ?_);rintro e w5 ⟨rfl,hw5⟩))
     go_ret;exact Ba (Ba ⟨HF.out,HX.out,rfl,hw5⟩)
   . have e3:DU l s= -1:=by unfold DU;rw[AE hx]
     rw[e3] at KX;have HX:=vJ hx;clear h hk h1 Bu hQ hd hl hw1 hn1 hb1 Qv hm hf e3 hx;go_enter func12,ntmps12;go_upto_region 1 with(fail)
     rw[H1.out]
     go_wp2_with (first
      |(go_at_call 30;(with_reducible refine KR.out.mono ?_);rintro e w2 ⟨v,rfl,hv,hb2⟩;obtain⟨ao,cap,rfl⟩:=HSH.out _ _ _ hv;obtain⟨c1,c2⟩:=HCB.out _ hb2;have HV2:=vJ hv.sl;have HB2:=vJ hb2;clear hv hb2)
      |(go_at_call 31;(with_reducible refine(KF.out _).mono ?_);rintro e w3 ⟨rfl,hb3⟩;have HB3:=vJ (HB2.out.trans (hb3.mono HB2.out.size));obtain⟨d1,d2⟩:=HCB.out _ HB3.out;have KX3:=vJ (KX.out _ _ (HV2.out.below hb3));clear hb3)
      |(go_at_call 32;(with_reducible refine KX3.out.mono ?_);rintro e w4 ⟨rfl,hb4⟩;have HB4:=vJ (HB3.out.trans (hb4.mono HB3.out.size));clear hb4))
     go_ret;exact Ba (AN ⟨HF.out,HX.out,rfl,HB1.out.trans (HB4.out.mono HB1.out.size)⟩)
def Wx(l:List BC)(i:Nat):List BC:=(l.set i (l.getD (l.length-1) default)).take (l.length-1)
def ZJ(M:Nat->Option (List Int))(l:List BC)(i:Nat):Nat->Option (List Int):=Vq (if i<l.length-1 then wrL M (16*i) (Db (l.getD (l.length-1) default)) else M) (16*(l.length-1))
theorem DirN.rem(h:DirN sz M l){i:Nat}(hi:i<l.length):DirN (16*(l.length-1)) (ZJ M l i) (Wx l i):=by
 unfold ZJ Wx;by_cases c:i<l.length-1
 . rw[AC c]
   have hf:C3 (l.getD (l.length-1) default)=AL:=(by rw[EY _ (by omega)];exact h.f.frm _ (Bf _));have:=(h.set hf hi).cut (k:=l.length-1) (by rw[AJ];omega);exact this
 . rw[AE c]
   have e:i=l.length-1:=(by omega);have e2:l.set i (l.getD (l.length-1) default)=l:=by
    rw[<- e,EY _ hi];exact List.set_getElem_self _
   rw[e2];exact h.cut (by omega)
def vC(w:U)(P:Nat->Prop)(d p:Aq)(X:XSt)(S:List Int)(N:List (List Int))(O:List (Int × Int))(kk:Nat)(F:Nat->List Int)(bf n sz:Nat)(M:Nat->Option (List Int))(Q:List Int)(l:List BC)(s:ByteArray)(e:Ending)(w':U):Prop:=
 (¬ C4 l s<l.length/\e=Ag (Y J 4)/\At w.heap.size w w')\/
 (C4 l s<l.length/\e=Ag (Y J 0)/\FlO w P d p X S N O kk F bf n Q (16*(l.length-1)) (ZJ M l (C4 l s)) 3 R5 w')
theorem UW(h:Flt w P d p X S N O kk F bf n sz M Q)(hk:Ca N n=2)(h1:1<=n)(Bu:n<48)(hQ:Q.length<=32)(hd:DirF sz M l)(s:ByteArray):
 AA I 14 #[Am (R ⟨bf,0,G⟩),Y J n,.string s] w (vC w P d p X S N O kk F bf n sz M Q l s):=by
 have hl:=hd.len h.ft.sb;have Qv:Fat X.cur N F n sz M:=by rw[h.md.cur];exact h.ft
 have KR:=vJ (GJ h.md.rd Qv hk h1 Bu hd);have KX:Hid (∀ (V:U) (v:Aq),ESl V v l->AA I 32 #[v,.string s] V fun e w'=>e=Ag (Y J (DU l s))/\At V.heap.size V w'):=vJ fun V v hv=>JT hv (by omega) s
 obtain⟨m,hm⟩:=nm l.length;have HSH:Hid (∀ (V:U) (v:Aq) (B:Nat),ER V B 38 v l->∃ ao cap,v=Ak ao m cap):=vJ fun V v B hv=>by rw[hm];exact hv.sl.shape
 by_cases hx:C4 l s<l.length
 . obtain⟨k,I3⟩:=nm (C4 l s)
   have e3:DU l s=(k:Int):=(by unfold DU;rw[AC hx,I3]);rw[e3] at KX;obtain⟨m1,hm1⟩:∃ m1,m1+1=m:=⟨m-1,by omega⟩;have hm1z:(m:Int)-1=(m1:Int):=(by omega);have HX:=vJ hx;have o8:m1=l.length-1:=(by omega);have hmul:J.wrap ((m1:Int)*16)=(m1:Int)*16:=A9 _ (by omega);have hwm:J.wrap (m1:Int)=(m1:Int):=A9 _ (by omega);have hwm2:J.wrap ((m:Int)-1)=(m1:Int):=(by rw[hm1z];exact hwm);have hmm:m1<m:=(by omega);have hmmz:(m1:Int)<(m:Int):=(by omega);have hmb:m<=2208:=(by omega);have ez:((16*m1:Nat):Int)=(m1:Int)*16:=(by omega);by_cases hlt:k<m1
   . have J6:(k:Int)<(m1:Int):=by omega
     have Qt:C3 (l.getD m1 default)=AL:=(by rw[EY _ (by omega)];exact hd.frm _ (Bf _));have HCE:Hid (∀ (V:U) (v:Aq),ER V w.heap.size 38 v l->∃ b cap,v=Ak (R ⟨b,0,G⟩) m cap/\∀ W,At V.heap.size V W->W.cell? ⟨b,m1*2,G⟩=R (Y J (l.getD m1 default).1)/\W.cell? ⟨b,m1*2+1,G⟩=R (.string (l.getD m1 default).2)):=vJ fun V v hv=>by
      obtain⟨b,cap,e,hc⟩:=hv.cell2 (j:=m1) (by omega);exact⟨b,cap,by rw[hm];exact e,hc⟩
     have HWR:Hid (∀ V,At w.heap.size w V->AA I 33 #[Am (R ⟨bf,0,G⟩),Y J n,Y J k,BD #[Y J (l.getD m1 default).1,.string (l.getD m1 default).2]] V fun e w'=>e=Ag (Y J 0)/\AA I 35 #[Am (R ⟨bf,0,G⟩),Y J n,Y J ((m1:Int)*16)] w' fun e w''=>e=Ag (Y J 0)/\FlO w P d p X S N O kk F bf n Q (16*(l.length-1)) (ZJ M l (C4 l s)) 3 R5 w''):=vJ fun V hV=>by
      refine(MK (h.low hV) h1 Bu hQ (a:=k) (by omega) Qt).mono fun e w' hw=>?_
      obtain⟨he,ho⟩:=(hw.pre hV).inside h hd (by omega) Qt;refine⟨he,?_⟩;obtain⟨P2,X2,N2,O2,F2,Q2,a2,b2,c2,d2,f2,_⟩:=ho;rw[<- ez];refine(Py a2 h1 Bu (by omega) (v:=16*m1) (by omega)).mono ?_;rintro e2 w2 ⟨mf,ho2⟩;have h3:=FlO.then (j:=2) b2 c2 d2 f2 ho2;refine⟨mf,?_⟩;unfold ZJ;rw[<- I3,AC (by omega),<- o8];exact h3
     generalize l.getD m1 default=z at HCE HWR;obtain⟨zi,zs⟩:=z;clear h hk h1 Bu hQ hd hl Qv hm e3 hx I3 hm1 o8 ez Qt;go_enter func14,ntmps14
     go_wp2_with (first
      |(go_at_call 30;(with_reducible refine KR.out.mono ?_);rintro e w2 ⟨v,rfl,hv,hb2⟩;obtain⟨b,cap,rfl,hc⟩:=HCE.out _ _ hv;have HC:=vJ hc;have KX2:=vJ (KX.out _ _ hv.sl);have HB2:=vJ hb2;clear hv hb2 hc)
      |(go_at_call 32;(with_reducible refine KX2.out.mono ?_);rintro e w4 ⟨rfl,hb4⟩;obtain⟨f1,f2⟩:=HC.out _ hb4;have KW4:=vJ (HWR.out _ (HB2.out.trans (hb4.mono HB2.out.size)));clear hb4)
      |(go_at_call 33;(with_reducible refine KW4.out.mono ?_);rintro e w5 ⟨rfl,hr⟩;have KZ:=vJ hr;clear hr)
      |(go_at_call 35;(with_reducible refine KZ.out.mono ?_);rintro e w6 ⟨rfl,Vx⟩))
     go_ret;exact Ba ⟨HX.out,rfl,Vx⟩
   . have J6:¬ (k:Int)<(m1:Int):=by omega
     have KZ0:Hid (∀ V,At w.heap.size w V->AA I 35 #[Am (R ⟨bf,0,G⟩),Y J n,Y J ((m1:Int)*16)] V fun e w''=>e=Ag (Y J 0)/\FlO w P d p X S N O kk F bf n Q (16*(l.length-1)) (ZJ M l (C4 l s)) 3 R5 w''):=vJ fun V hV=>by
      rw[<- ez];refine(Py (h.low hV) h1 Bu (by omega) (v:=16*m1) (by omega)).mono ?_;rintro e2 w2 ⟨mf,ho2⟩;refine⟨mf,?_⟩;unfold ZJ;rw[<- I3,AE (by omega),<- o8];obtain⟨P',X',N',O',F',Q',a,b,c,e,f,g⟩:=ho2.pre hV;exact⟨P',X',N',O',F',Q',a,b,c,by omega,f,g⟩
     clear h hk h1 Bu hQ hd hl Qv hm e3 hx I3 hm1 o8 ez;go_enter func14,ntmps14
     go_wp2_with (first
      |(go_at_call 30;(with_reducible refine KR.out.mono ?_);rintro e w2 ⟨v,rfl,hv,hb2⟩;obtain⟨ao,cap,rfl⟩:=HSH.out _ _ _ hv;have KX2:=vJ (KX.out _ _ hv.sl);have HB2:=vJ hb2;clear hv hb2)
      |(go_at_call 32;(with_reducible refine KX2.out.mono ?_);rintro e w4 ⟨rfl,hb4⟩;have KZ:=vJ (KZ0.out _ (HB2.out.trans (hb4.mono HB2.out.size)));clear hb4)
      |(go_at_call 35;(with_reducible refine KZ.out.mono ?_);rintro e w6 ⟨rfl,Vx⟩))
     go_ret;exact Ba ⟨HX.out,rfl,Vx⟩
 . have e3:DU l s= -1:=by unfold DU;rw[AE hx]
   rw[e3] at KX;have HX:=vJ hx;clear h hk h1 Bu hQ hd hl Qv hm e3 hx;go_enter func14,ntmps14
   go_wp2_with (first
    |(go_at_call 30;(with_reducible refine KR.out.mono ?_);rintro e w2 ⟨v,rfl,hv,hb2⟩;obtain⟨ao,cap,rfl⟩:=HSH.out _ _ _ hv;have KX2:=vJ (KX.out _ _ hv.sl);have HB2:=vJ hb2;clear hv hb2)
    |(go_at_call 32;(with_reducible refine KX2.out.mono ?_);rintro e w4 ⟨rfl,hb4⟩;have HB4:=vJ (HB2.out.trans (hb4.mono HB2.out.size));clear hb4))
   go_ret;exact AN ⟨HX.out,rfl,HB4.out⟩
end
def RowC(w:U)(v:Aq)(w':U)(v':Aq):Prop:=Chg (fun k=>v.ownBlock=R k) (fun k=>v.ownBlock=R k) w w'/\∀ g,v'.ownBlock=R g->v.ownBlock=R g\/w.heap.size<=g
theorem RowC.same{w w':U}{v:Aq}(h:At w.heap.size w w'):RowC w v w' v:=⟨Chg.of_below h,fun g hg=>AN hg⟩
theorem RowC.new{w w':U}{v v':Aq}(h:At w.heap.size w w')(hv:∀ g,v'.ownBlock=R g->w.heap.size<=g):RowC w v w' v':=⟨Chg.of_below h,fun g hg=>Ba (hv g hg)⟩
theorem ER.lo{w:U}{B:Nat}{T:TypeId}{v:Aq}{l:List BC}(h:ER w B T v l){g:Nat}(hg:v.ownBlock=R g):B<=g/\g<w.heap.size:=by
 rcases h.2 with⟨e,_⟩| ⟨g',cap,cur,hv,hB,hh,_⟩
 . rw[e] at hg;cases hg
 . rw[hv] at hg
   cases hg
   exact⟨hB,(Al.1 hh).1⟩
theorem LO{w:U}{v:Aq}{l:List BC}(hs:ESl w v l)(hl:l.length<=1000000)(s:ByteArray):AA I 17 #[v,.string s] w fun e w'=>e=Ag (Y J (DU l s))/\w=w':=by
 obtain⟨ao,cap,rfl,FU⟩:=hs.open';obtain⟨n,hn⟩:=nm l.length;have HK:Hid (∀ (k:Nat),k<n->∃ b off i t,ao=R ⟨b,off,G⟩/\w.cell? ⟨b,off+k*2,G⟩=R (Y J i)/\w.cell? ⟨b,off+k*2+1,G⟩=R (.string t)/\t=(l.getD k default).2):=vJ fun k hk=>by
  obtain⟨b,off,e,hlt,hc2⟩:=FU (by omega);obtain⟨a1,a2⟩:=hc2 k (by omega);exact⟨b,off,_,_,e,a1,a2,rfl⟩
 have HN:=vJ hn;rw[<- hn] at hl |-
 clear hs FU hn;go_enter func17,ntmps17;go_wp2;go_loopw [5,8] (fun _ s8 wr=>w=wr/\∃ k:Nat,k<=n/\s8=Y J k/\Hid (∀ j,j<k->Yc (l.getD j default).2 s=AI)) (fun _ s8 _=>n-(intOf s8).toNat)
 case atStart=>exact⟨rfl,0,AX _,rfl,vJ fun j hj=>absurd hj (A8 j)⟩
 case round=>
  obtain⟨rfl,k,hk,rfl,HA⟩:=hrel;by_cases hlt:k<n
  . have J6:(k:Int)<(n:Int):=by omega
    obtain⟨b,off,i,t,rfl,c1,c2,ht⟩:=HK.out k hlt;have HT:=vJ ht;clear ht HK;cases hq:t.toList==s.toList
    . have HQ:Hid (Yc t s=AI):=vJ hq
      go_wp2;go_roundw
      case rel=>exact⟨by trivial,k+1,by omega,by go_num,vJ fun j hj=>(by
       rcases Nat.lt_or_eq_of_le (Nat.le_of_lt_succ hj) with h|h
       . exact HA.out j h
       . rw[h,<- HT.out];exact HQ.out)⟩
      case measure=>simp[intOf];omega
    . have HI:Hid (DU l s=(k:Int)):=vJ (aU (by have:=HN.out;omega) (by rw[<- HT.out];exact hq) HA.out)
      go_wp2;go_ret;exact⟨by rw[HI.out];rfl,rfl⟩
  . obtain rfl:k=n:=by omega
    have HI:Hid (DU l s= -1):=vJ (TR fun j hj=>HA.out j (by have:=HN.out;omega));go_wp2;go_ret;exact⟨by rw[HI.out];rfl,rfl⟩
theorem MT(w1:U)(i:Int)(n:ByteArray){ops:Array BS}{rest:List BS}{o:BS}{a:Act}{Q:Exit->Act->U->Prop}(Dn:o.guard=G)(s y:Operand)
 (ho:o.op=.call { callee:=.builtin .append,args:=#[s,y],argTypes:=#[28,28] })
 (B:Nat) (v:Aq) (O:List BC) (hs:a.eval s=v) (hown:ER w1 B 30 v O) (hO:O.length<=1000000) (hy:a.eval y=Ak (R ⟨w1.heap.size,0,G⟩) 1 1) (hB:B<=w1.heap.size)
 (h:∀ g cap w',ER w' B 30 (Ak (R ⟨g,0,G⟩) (O.length+1) cap) (O ++ [(i,n)])->(w1.alloc (Ar #[Y J i,.string n] 30)).grownBy w' v.ownBlock->(v.ownBlock=R g\/w1.heap.size<=g)->Cn I ops Q rest (a.put o.dst (Ak (R ⟨g,0,G⟩) (O.length+1) cap)) w'):Cn I ops Q (o :: rest) a (w1.alloc (Ar #[Y J i,.string n] 30)):=by
 obtain⟨t,h2,h3,h4,h5⟩:=By UC;have hbel:At w1.heap.size w1 (w1.alloc (Ar #[Y J i,.string n] 30)):=Ay _ _;have MZ:(w1.alloc (Ar #[Y J i,.string n] 30)).heap[w1.heap.size]? =R (Ar #[Y J i,.string n] 30 (0,0)):=Aw w1 _;have hf:=hown.below hbel;refine wpList_append_lies _ Dn s y 28 ho B 30 t _ 2 24 underlying28 h2 h3 h4 h5 rfl (by decide) v O.length _ hs hf ⟨w1.heap.size,0,G⟩ 1 1 [Y J i,.string n] hy rfl ?_ ?_ (by decide) (by simp only[maxLen];omega) (by omega) (AT hB hbel.size) (w1.heap.size+1) (by simp) fun g cap w' h6 h7 h8 _=>?_
 . intro m u hm
   have hm2:m<2:=by simpa using (Bj.1 hm).1
   rw[Cb,Bm,Az _ _ _ _ _ _ MZ,<- hm];have:m=0\/m=1:=(by omega);rcases this with rfl|rfl <;> rfl
 . intro u hu
   simp at hu;rcases hu with rfl|rfl <;> rfl
 . refine h g cap w' ?_ h7 (h8.imp id fun e=>by omega)
   show w'.ownsRow B 30 2 _ (O ++ [(i,n)]).length (It (O ++ [(i,n)]))
   rw[Ax,GV];exact h6
def setL(l:List BC)(x:BC):List BC:=if C3 x=AL/\C4 l x.2<l.length then l.set (C4 l x.2) x else l
def Ja(l:List BC)(x:BC):Int:=if C3 x=AL then if C4 l x.2<l.length then 0 else 4 else 1
def rmvL(l:List BC)(s:ByteArray):List BC:=if C4 l s<l.length then Wx l (C4 l s) else l
def Lk(l:List BC)(s:ByteArray):Int:=if C4 l s<l.length then 0 else 4
theorem kI{w:U}{B:Nat}{v:Aq}{l:List BC}(hs:ER w B 30 v l)(hB:B<=w.heap.size)(hl:l.length<=1000)(x:BC):AA I 11 #[v,BD #[Y J x.1,.string x.2]] w fun e w'=>∃ v',e=Ag (AO #[v',Y J (GE l x)])/\ER w' B 30 v' (addL l x)/\RowC w v w' v':=by
 obtain⟨i,s⟩:=x;obtain⟨ao,cap,rfl⟩:=hs.sl.shape;have hb1:=Ay w (Ar #[Y J i,.string s] 30);have hn1:=Aw w (Ar #[Y J i,.string s] 30);obtain⟨w1,hw1⟩:=nm (w.alloc (Ar #[Y J i,.string s] 30));rw[<- hw1] at hb1 hn1;have H1:Hid (w.alloc (Ar #[Y J i,.string s] 30)=w1):=vJ hw1.symm;have c1:w1.cell? ⟨w.heap.size,0,G⟩=R (Y J i):=by rw[Az _ _ _ _ _ _ hn1];rfl
 have c2:w1.cell? ⟨w.heap.size,1,G⟩=R (.string s):=by rw[Az _ _ _ _ _ _ hn1];rfl
 have HCB:Hid (∀ W,At w1.heap.size w1 W->W.cell? ⟨w.heap.size,0,G⟩=R (Y J i)/\W.cell? ⟨w.heap.size,1,G⟩=R (.string s)):=vJ fun W hW=>by
  have:=(hW.block _ (Al.1 hn1).1).trans hn1;rw[Az _ _ _ _ _ _ this,Az _ _ _ _ _ _ this];exact⟨rfl,rfl⟩
 have KX:=vJ fun(V:U) (hV:At w.heap.size w V)=>LO (hs.sl.below hV) (by omega) s
 obtain⟨m,hm⟩:=nm l.length;rw[<- hm] at KX;have HS:Hid (ER w B 30 (Ak ao m cap) l):=vJ (by rw[hm];exact hs);have HB1:=vJ hb1;have HBB:=vJ hB;rw[<- hm];have HM:Hid (m=l.length/\m<=1000):=vJ ⟨hm,by omega⟩;cases hf:C3 (i,s)
 . have KF:=vJ fun V=>GL i s AI hf V
   have e1:GE l (i,s)=1:=(by unfold GE;rw[hf,AE (by decide)]);have e2:addL l (i,s)=l:=(by unfold addL;rw[hf,AE (fun h=>by cases h.1)]);rw[e1,e2];clear hs hB hl hw1 hn1 hb1 hm hf e1 e2;go_enter func11,ntmps11;go_upto_region 1 with(fail)
   rw[H1.out];go_wp2_with (go_at_call 34;(with_reducible refine(KF.out _).mono ?_);rintro e w3 ⟨rfl,hb3⟩)
   go_ret2;have hb:=HB1.out.trans (hb3.mono HB1.out.size);exact⟨_,rfl,HS.out.below hb,RowC.same hb⟩
 . have KF:=vJ fun V=>GL i s AL hf V
   by_cases hx:C4 l s<l.length
   . obtain⟨k,I3⟩:=nm (C4 l s)
     have e3:DU l s=(k:Int):=(by unfold DU;rw[AC hx,I3]);have e1:GE l (i,s)=5:=(by unfold GE;rw[hf,AC rfl,AC hx]);have e2:addL l (i,s)=l:=(by unfold addL;rw[AE (fun h=>h.2 hx)]);rw[e3] at KX;rw[e1,e2];clear hs hB hl hw1 hn1 hb1 hm hf e1 e2 e3 hx I3;go_enter func11,ntmps11;go_upto_region 1 with(fail)
     rw[H1.out]
     go_wp2_with (first
      |(go_at_call 34;(with_reducible refine(KF.out _).mono ?_);rintro e w3 ⟨rfl,hb3⟩;obtain⟨d1,d2⟩:=HCB.out _ hb3;have HB3:=vJ (HB1.out.trans (hb3.mono HB1.out.size));have KX3:=vJ (KX.out _ HB3.out);clear hb3)
      |(go_at_call 17;(with_reducible refine KX3.out.mono ?_);rintro e w4 ⟨rfl,rfl⟩))
     go_ret2;exact⟨_,rfl,HS.out.below HB3.out,RowC.same HB3.out⟩
   . have e3:DU l s= -1:=by unfold DU;rw[AE hx]
     have e1:GE l (i,s)=0:=(by unfold GE;rw[hf,AC rfl,AE hx]);have e2:addL l (i,s)=l ++ [(i,s)]:=(by unfold addL;rw[AC ⟨hf,hx⟩]);rw[e3] at KX;rw[e1,e2];clear hs hB hl hw1 hn1 hb1 hm hf e1 e2 e3 hx;go_enter func11,ntmps11;go_upto_region 1 with(fail)
     rw[H1.out]
     go_wp2_with (first
      |(go_at_call 34;(with_reducible refine(KF.out _).mono ?_);rintro e w3 ⟨rfl,hb3⟩;obtain⟨d1,d2⟩:=HCB.out _ hb3;have HB3:=vJ (HB1.out.trans (hb3.mono HB1.out.size));have KX3:=vJ (KX.out _ HB3.out);clear hb3)
      |(go_at_call 17;(with_reducible refine KX3.out.mono ?_);rintro e w4 ⟨rfl,rfl⟩)
      |(refine MT _ i s rfl _ _ rfl B (Ak ao m cap) l rfl (HS.out.below HB3.out) (by have:=HM.out;omega) rfl (AT HBB.out HB3.out.size) ?_;intro g9 c9 w9 hr9 hg9 ho9))
     go_ret2;refine⟨_,rfl,hr9,?_,fun g hg=>?_⟩
     . have hb:=HB3.out
       have hb2:=Ay w3 (Ar #[Y J i,.string s] 30);refine⟨hg9.os.trans (hb2.os.trans hb.os),hg9.tape.trans (hb2.tape.trans hb.tape),hg9.output.trans (hb2.output.trans hb.output),AT hb.size (AT hb2.size hg9.size),fun k hk hn=>⟨?_,hn⟩⟩;have hk3:=AH hk hb.size;exact((hg9.block k (AH hk3 hb2.size) (fun e=>hn e.symm)).trans (hb2.block k hk3)).trans (hb.block k hk)
     . cases hg
       exact ho9.imp id fun e=>AT HB3.out.size e
def ErG(w:U)(T:TypeId)(g cap:Nat)(l:List BC):Prop:=∃ cur:Array Aq,w.heap[g]? =R (Ar cur T (0,0))/\l.length<=cap/\cap<=maxLen/\cur.size=cap*2/\cur.toList.take (l.length*2)=It l
section
variable {w w':U}{B g cap:Nat}{T:TypeId}{l:List BC}
theorem ErG.er(h:ErG w T g cap l)(hB:B<=g):ER w B T (Ak (R ⟨g,0,G⟩) l.length cap) l:=by
 obtain⟨cur,a,b,c,d,e⟩:=h;exact⟨Dy l,Ba ⟨g,cap,cur,rfl,hB,a,b,c,d,e⟩⟩
theorem ER.blk{v:Aq}(h:ER w B T v l)(hl:0<l.length):∃ g cap,v=Ak (R ⟨g,0,G⟩) l.length cap/\B<=g/\ErG w T g cap l:=by
 rcases h.2 with⟨_,e⟩| ⟨g,cap,cur,hv,hg,r⟩
 . omega
 . exact⟨g,cap,hv,hg,cur,r⟩
theorem ErG.lt(h:ErG w T g cap l):g<w.heap.size:=by
 obtain⟨cur,a,_⟩:=h;exact(Al.1 a).1
theorem ErG.cells(h:ErG w T g cap l){j:Nat}(hj:j<l.length):w.cell? ⟨g,j*2,G⟩=R (Y J (l.getD j default).1)/\w.cell? ⟨g,j*2+1,G⟩=R (.string (l.getD j default).2):=by
 obtain⟨cur,a,b,_,d,c⟩:=h;obtain⟨h1,h2⟩:=GB l j hj;rw[<- c,AZ] at h1 h2;rw[AC (by omega)] at h1 h2;rw[Az _ _ _ _ _ _ a,Az _ _ _ _ _ _ a];exact⟨by simpa using h1,by simpa using h2⟩
theorem ErG.take(h:ErG w T g cap l){n:Nat}(hn:n<=l.length):ErG w T g cap (l.take n):=by
 obtain⟨cur,a,b,b2,d,c⟩:=h;have e1:(l.take n).length=n:=by rw[AK];omega
 refine⟨cur,a,by omega,b2,d,?_⟩;have e2:It l=It (l.take n) ++ It (l.drop n):=by rw[<- GV,Be]
 have e3:n*2<=l.length*2:=by omega
 rw[e1,<- DF e3,<- List.take_take,c,e2,Dl (by rw[Dy,e1])]
theorem ErG.stored{e:BC}{k:Nat}(h:ErG w T g cap l)(hk:k<l.length):∃ cur:Array Aq,w.heap[g]? =R (Ar cur T (0,0))/\k*2+2<=cur.size/\
 ErG (w.setCells g (k*2) (cE e)) T g cap (l.set k e)/\Wrote w (w.setCells g (k*2) (cE e)) g:=by
 obtain⟨cur,hg,hd,h0,hs,hc⟩:=h;have hg':w.heap[g]? =R (Ar cur.toList.toArray T (0,0)):=by rw[Array.toArray_toList];exact hg
 have hl:k*2+(cE e).length<=cur.toList.length:=by rw[IA];simpa using (show k*2+2<=cur.size by omega)
 have h1:∀ v∈cE e,v.oneCell'=AL:=fun v hv=>by simp[cE] at hv;rcases hv with rfl|rfl <;> rfl
 have e2:=DH hg' hl h1;rw[e2];refine⟨cur,hg,by omega,⟨(splice cur.toList (k*2) (cE e)).toArray,Cr _ _ _ _ _ _ hg,by rw[AJ];exact hd,h0,?_,?_⟩,Wrote.setRow _ _ _⟩
 . simp[splice,cE];omega
 . rw[AJ,List.toList_toArray,Lt (show k*2+2<=l.length*2 by omega) (by have:cur.toList.length=cur.size:=Array.length_toList;omega),hc,It,G4 (f:=cE) (s:=2) (fun x _=>IA x) k hk e (IA _)]
   rfl
theorem ErG.set0(h:ErG w T g cap l){k:Nat}(hk:k<l.length)(i:Int):w.frozen? ⟨g,k*2,G⟩=AI/\ErG (w.setCell ⟨g,k*2,G⟩ (Y J i)) T g cap (l.set k (i,(l.getD k default).2)):=by
 obtain⟨cur,hg,hd,h0,hs,hc⟩:=h;refine⟨by simp[U.frozen?,hg],cur.setIfInBounds (k*2) (Y J i),Bs w g _ _ _ _ hg,by rw[AJ];exact hd,h0,by simpa using hs,?_⟩;have ecl:cur.toList.length=cur.size:=Array.length_toList;have hx:=GB l k hk;rw[AJ,Array.toList_setIfInBounds,List.take_set,hc];refine List.ext_getElem? fun j=>?_
 by_cases hj:j<l.length*2
 . have hy:=GB (l.set k (i,(l.getD k default).2)) (j / 2) (by rw[AJ];omega)
   have hz:=GB l (j / 2) (by omega);rw[List.getElem?_set];have e0:j=j / 2*2\/j=j / 2*2+1:=(by omega);have e9:(l.set k (i,(l.getD k default).2)).getD (j / 2) default=if j / 2=k then (i,(l.getD k default).2) else l.getD (j / 2) default:=by
    rw[An,List.getElem?_set];by_cases e:k=j / 2
    . rw[AC e,AC (by omega),AC e.symm];rfl
    . rw[AE e,AE (fun h=>e h.symm),An]
   rw[e9] at hy;rw[Dy];rcases e0 with e|e
   . rw[<- e] at hy hz
     by_cases h:j / 2=k
     . rw[AC (by omega),AC (by omega),hy.1,AC h]
     . rw[AE (by omega),hy.1,AE h,hz.1]
   . rw[<- e] at hy hz
     rw[AE (by omega),hy.2,hz.2];by_cases h:j / 2=k
     . rw[AC h,h]
     . rw[AE h]
 . rw[A5 (by rw[AJ,Dy];omega),A5 (by rw[Dy,AJ];omega)]
end
theorem li(w:U):ER (w.alloc (Ar #[] 30)) w.heap.size 30 (Ak (R ⟨w.heap.size,0,G⟩) 0 0) []:=
 ErG.er (l:=[]) (cap:=0) ⟨#[],Aw w _,AB _,by decide,rfl,rfl⟩ (AB _)
theorem Jh(w:U){ops:Array BS}{rest:List BS}{o:BS}{a:Act}{Q:Exit->Act->U->Prop}(Dn:o.guard=G)(s y:Operand)
 (ho:o.op=.call { callee:=.builtin .append,args:=#[s,y],argTypes:=#[28,28] })
 (O:List BC) (u:Aq) (hs:a.eval s=Ak (R ⟨w.heap.size,0,G⟩) 0 0) (hO:O.length<=1000000) (hO0:0<O.length) (hy:a.eval y=u) (hsl:ESl w u O)
 (h:∀ g cap w',w.heap.size<=g->ErG w' 30 g cap O->At w.heap.size w w'->Cn I ops Q rest (a.put o.dst (Ak (R ⟨g,0,G⟩) O.length cap)) w'):Cn I ops Q (o :: rest) a (w.alloc (Ar #[] 30)):=by
 have hb:=Ay w (Ar #[] 30);refine Is _ Dn 28 30 s y ho underlying28 UC w.heap.size _ u [] O hs (li w) (by simp) hO hO0 hy (hsl.below hb) hb.size fun v' w' h1 h2 _=>?_
 rw[B0] at h1;obtain⟨g,cap,rfl,hB,hG⟩:=h1.blk hO0;exact h g cap w' hB hG (hb.trans h2)
theorem PR{ops:Array BS}{rest:List BS}{op:BS}{a:Act}{w:U}{Q:Exit->Act->U->Prop}(Dn:op.guard=G)(x y:Operand)(ho:op.op=.store 30 x y)
 (g cap k:Nat) (l:List BC) (i:Int) (s:ByteArray) (hx:a.eval x=Am (R ⟨g,k*2,G⟩)) (hy:a.eval y=BD #[Y J i,.string s])
 (hr:ErG w 30 g cap l) (hk:k<l.length) (h:∀ w',Wrote w w' g->ErG w' 30 g cap (l.set k (i,s))->Cn I ops Q rest (a.put op.dst undef) w'):Cn I ops Q (op :: rest) a w:=by
 obtain⟨cur,hg,hs,h1,h2⟩:=hr.stored (e:=(i,s)) hk;have hg':w.heap[g]? =R (Ar cur.toList.toArray 30 (0,0)):=by rw[Array.toArray_toList];exact hg
 have hl:k*2+(cE (i,s)).length<=cur.toList.length:=by rw[IA];simpa using hs
 have h3:∀ v∈cE (i,s),v.oneCell'=AL:=fun v hv=>by simp[cE] at hv;rcases hv with rfl|rfl <;> rfl
 have hz:(I.info? 30).map (·.size)=R 2:=by obtain⟨t,a1,a2,a3,a4⟩:=By UC;rw[a1,Option.map_some,a3]
 exact wpList_store_mid Dn 30 x y ho g (k*2) #[Y J i,.string s] hx hy (DX hg' hl) hz (Dv (cs:=cE (i,s)) h3) (h _ h2 h1)
theorem iz{w:U}{B:Nat}{v:Aq}{l:List BC}(hs:ER w B 30 v l)(hB:B<=w.heap.size)(hl:l.length<=1000)(x:BC):AA I 13 #[v,BD #[Y J x.1,.string x.2]] w fun e w'=>∃ v',e=Ag (AO #[v',Y J (Ja l x)])/\ER w' B 30 v' (setL l x)/\RowC w v w' v':=by
 obtain⟨i,s⟩:=x;obtain⟨ao,cap,rfl⟩:=hs.sl.shape;have hb1:=Ay w (Ar #[Y J i,.string s] 30);have hn1:=Aw w (Ar #[Y J i,.string s] 30);obtain⟨w1,hw1⟩:=nm (w.alloc (Ar #[Y J i,.string s] 30));rw[<- hw1] at hb1 hn1;have H1:Hid (w.alloc (Ar #[Y J i,.string s] 30)=w1):=vJ hw1.symm;have c1:w1.cell? ⟨w.heap.size,0,G⟩=R (Y J i):=by rw[Az _ _ _ _ _ _ hn1];rfl
 have c2:w1.cell? ⟨w.heap.size,1,G⟩=R (.string s):=by rw[Az _ _ _ _ _ _ hn1];rfl
 have HCB:Hid (∀ W,At w1.heap.size w1 W->W.cell? ⟨w.heap.size,0,G⟩=R (Y J i)/\W.cell? ⟨w.heap.size,1,G⟩=R (.string s)):=vJ fun W hW=>by
  have:=(hW.block _ (Al.1 hn1).1).trans hn1;rw[Az _ _ _ _ _ _ this,Az _ _ _ _ _ _ this];exact⟨rfl,rfl⟩
 have KX:=vJ fun(V:U) (hV:At w.heap.size w V)=>LO (hs.sl.below hV) (by omega) s
 obtain⟨m,hm⟩:=nm l.length;rw[<- hm] at KX;have HS:Hid (ER w B 30 (Ak ao m cap) l):=vJ (by rw[hm];exact hs);have HB1:=vJ hb1;have HBB:=vJ hB;rw[<- hm];have HM:Hid (m=l.length/\m<=1000):=vJ ⟨hm,by omega⟩;cases hf:C3 (i,s)
 . have KF:=vJ fun V=>GL i s AI hf V
   have e1:Ja l (i,s)=1:=(by unfold Ja;rw[hf,AE (by decide)]);have e2:setL l (i,s)=l:=(by unfold setL;rw[hf,AE (fun h=>by cases h.1)]);rw[e1,e2];clear hs hB hl hw1 hn1 hb1 hm hf e1 e2;go_enter func13,ntmps13;go_upto_region 1 with(fail)
   rw[H1.out];go_wp2_with (go_at_call 34;(with_reducible refine(KF.out _).mono ?_);rintro e w3 ⟨rfl,hb3⟩)
   go_ret2;have hb:=HB1.out.trans (hb3.mono HB1.out.size);exact⟨_,rfl,HS.out.below hb,RowC.same hb⟩
 . have KF:=vJ fun V=>GL i s AL hf V
   by_cases hx:C4 l s<l.length
   . obtain⟨k,I3⟩:=nm (C4 l s)
     have e3:DU l s=(k:Int):=(by unfold DU;rw[AC hx,I3]);have e1:Ja l (i,s)=0:=(by unfold Ja;rw[hf,AC rfl,AC hx]);have e4:(l.getD k default).2=s:=by
      rw[I3,An,AS hx];exact Ls hx
     have e2:setL l (i,s)=l.set k (i,(l.getD k default).2):=(by unfold setL;rw[AC ⟨hf,hx⟩,e4,I3]);have sW:(k:Int)<(m:Int):=(by omega);have HK:Hid (k<l.length):=vJ (by omega);rw[e3] at KX;rw[e1,e2];clear hs hB hl hw1 hn1 hb1 hf e1 e2 e3 e4 hx I3;go_enter func13,ntmps13;go_upto_region 1 with(fail)
     rw[H1.out];have HMM:=vJ hm;clear hm
     go_wp2_with (first
      |(go_at_call 34;(with_reducible refine(KF.out _).mono ?_);rintro e w3 ⟨rfl,hb3⟩;obtain⟨d1,d2⟩:=HCB.out _ hb3;have HB3:=vJ (HB1.out.trans (hb3.mono HB1.out.size));have HB13:=vJ hb3;have KX3:=vJ (KX.out _ HB3.out);clear hb3)
      |(go_at_call 17;(with_reducible refine KX3.out.mono ?_);rintro e w4 ⟨rfl,rfl⟩)
      |(at_builtin;refine Jh _ rfl _ _ rfl l (Ak ao m cap) rfl (by have:=HM.out;omega) (by have:=HK.out;omega) rfl (HS.out.below HB3.out).sl ?_;intro g9 c9 w9 hg9 hG9 hb9;rw[<- HMM.out];obtain⟨f1,f2⟩:=HCB.out _ (HB13.out.trans (hb9.mono HB13.out.size));have k1:=(hG9.cells HK.out).1;obtain⟨k2,o9⟩:=hG9.set0 HK.out i;have HG10:=vJ o9;have HB9:=vJ (And.intro hb9 hg9);clear hG9 o9 hb9 hg9))
     go_ret2;have hb:=HB3.out;have hb9:=hb.trans (HB9.out.1.mono hb.size);have hge:=AT hb.size HB9.out.2;refine⟨_,rfl,?_,RowC.new (hb9.setCell (p:=⟨g9,k*2,G⟩) hge _) fun g hg=>by cases hg;exact hge⟩;have:=HG10.out.er (B:=B) (AT HBB.out hge);rw[AJ,<- HMM.out] at this;exact this
   . have e3:DU l s= -1:=by unfold DU;rw[AE hx]
     have e1:Ja l (i,s)=4:=(by unfold Ja;rw[hf,AC rfl,AE hx]);have e2:setL l (i,s)=l:=(by unfold setL;rw[AE (fun h=>hx h.2)]);rw[e3] at KX;rw[e1,e2];clear hs hB hl hw1 hn1 hb1 hm hf e1 e2 e3 hx;go_enter func13,ntmps13;go_upto_region 1 with(fail)
     rw[H1.out]
     go_wp2_with (first
      |(go_at_call 34;(with_reducible refine(KF.out _).mono ?_);rintro e w3 ⟨rfl,hb3⟩;obtain⟨d1,d2⟩:=HCB.out _ hb3;have HB3:=vJ (HB1.out.trans (hb3.mono HB1.out.size));have KX3:=vJ (KX.out _ HB3.out);clear hb3)
      |(go_at_call 17;(with_reducible refine KX3.out.mono ?_);rintro e w4 ⟨rfl,rfl⟩))
     go_ret2;exact⟨_,rfl,HS.out.below HB3.out,RowC.same HB3.out⟩
theorem Ws{w:U}{B:Nat}{v:Aq}{l:List BC}(hs:ER w B 30 v l)(hB:B<=w.heap.size)(hl:l.length<=1000)(s:ByteArray):AA I 15 #[v,.string s] w fun e w'=>∃ v',e=Ag (AO #[v',Y J (Lk l s)])/\ER w' B 30 v' (rmvL l s)/\RowC w v w' v':=by
 obtain⟨ao,cap,rfl⟩:=hs.sl.shape;have KX:=vJ (LO hs.sl (by omega) s);obtain⟨m,hm⟩:=nm l.length;rw[<- hm] at KX;have HS:Hid (ER w B 30 (Ak ao m cap) l):=vJ (by rw[hm];exact hs);have HBB:=vJ hB;rw[<- hm];have HM:Hid (m=l.length/\m<=1000):=vJ ⟨hm,by omega⟩;by_cases hx:C4 l s<l.length
 . obtain⟨k,I3⟩:=nm (C4 l s)
   have e3:DU l s=(k:Int):=(by unfold DU;rw[AC hx,I3]);have e1:Lk l s=0:=(by unfold Lk;rw[AC hx]);obtain⟨y,hy⟩:=nm (l.getD (m-1) default);have e2:rmvL l s=(l.set k y).take (m-1):=(by unfold rmvL Wx;rw[AC hx,hy,hm,I3]);have sW:(k:Int)<(m:Int):=(by omega);have XT:k<m:=(by omega);have HK:Hid (k<l.length):=vJ (by omega);have HY:=vJ hy;have HMM:=vJ hm;rw[e3] at KX;rw[e1,e2];clear hs hB hl e1 e2 e3 hx I3 hy hm;have hm1:((m:Int)-1)=((m-1:Nat):Int):=(by omega);have hm2:((m-1:Nat):Int)<(m:Int):=(by omega);have sE:m-1<=1000:=(by have:=HM.out;omega);go_enter func15,ntmps15
   go_wp2_with (first
    |(go_at_call 17;(with_reducible refine KX.out.mono ?_);rintro e w4 ⟨rfl,rfl⟩)
    |(at_builtin;refine Jh _ rfl _ _ rfl l (Ak ao m cap) rfl (by have:=HM.out;omega) (by have:=HK.out;omega) rfl HS.out.sl ?_;intro g9 c9 w9 hg9 hG9 hb9;rw[<- HMM.out];obtain⟨f1,f2⟩:=hG9.cells (j:=m-1) (by have:=HMM.out;omega);rw[<- HY.out] at f1 f2;have hc9:m<=c9+1:=(by obtain⟨_,_,z,_⟩:=hG9;have:=HMM.out;omega);have HG9:=vJ hG9;have HB9:=vJ (And.intro hb9 hg9);clear hG9 hb9 hg9)
    |(with_reducible refine PR rfl (.tmp 25) (.tmp 24) rfl g9 c9 k l y.1 y.2 rfl rfl HG9.out HK.out ?_;intro w10 hw10 o9))
   go_ret2;have hge:=HB9.out.2;have hbb:=HB9.out.1.trans (hw10.below hge);refine⟨_,rfl,?_,RowC.new hbb fun g hg=>by cases hg;exact hge⟩;have h1:ErG w10 30 g9 c9 (l.set k y):=o9;have h2:=(h1.take (n:=m-1) (by rw[AJ];have:=HMM.out;omega)).er (B:=B) (AT HBB.out hge);rw[AK,AJ,DF (by have:=HMM.out;omega)] at h2;exact h2
 . have e3:DU l s= -1:=by unfold DU;rw[AE hx]
   have e1:Lk l s=4:=(by unfold Lk;rw[AE hx]);have e2:rmvL l s=l:=(by unfold rmvL;rw[AE hx]);rw[e3] at KX;rw[e1,e2];clear hs hB hl e1 e2 e3 hx hm;go_enter func15,ntmps15;go_wp2_with (go_at_call 17;(with_reducible refine KX.out.mono ?_);rintro e w4 ⟨rfl,rfl⟩)
   go_ret2;exact⟨_,rfl,HS.out,RowC.same (AM _ _)⟩
theorem SX:∀ (l out:List BC) (e:BC),Hr out (l ++ [e])=JE e (Hr out l)
 |[],out,e=>rfl
 |x :: l,out,e=>SX l (JE x out) e
theorem Zy{a b:ByteArray}(h:JK a b):Op.bytesLess a.toList b.toList=AL:=by
 rw[bytesLess_eq,Lib.toList_data,Lib.toList_data];exact AF h
theorem nW{a b:ByteArray}(h:¬ JK a b):Op.bytesLess a.toList b.toList=AI:=by
 rw[bytesLess_eq,Lib.toList_data,Lib.toList_data];exact AG h
theorem DV{ops:Array BS}{o:BS}{a:Act}{w:U}{K:Act->U->Prop}{Q:Exit->Act->U->Prop}{E':Prop}
 (hg:o.guard=G) (s x:Operand) (Mr:o.op=Op.call { callee:=Callee.builtin Builtin.append,args:=#[s,x],argTypes:=#[28,28] })
 (E O:List BC) (ne:Nat) (hne:ne=E.length) (ao:Option Addr) (u:Aq) (hs:a.eval s=Ak ao ne ne) (he:ESl w (Ak ao ne ne) E) (hx:a.eval x=u) (hu:ESl w u O) (hl:E.length+O.length<=1000000)
 (hK:∀ v' w',ESl w' v' (E ++ O)->(0<O.length->ER w' w.heap.size 30 v' (E ++ O))->At w.heap.size w w'->K (a.put o.dst v') w'):
 if Region.wanted o (yielded ops a.tmps)=AL then BS.wp I o a w K Q else E':=by
 subst hne;obtain⟨t,h2,h3,h4,h5⟩:=By UC;by_cases hO:0<O.length
 . obtain⟨au,cu,rfl,hc⟩:=hu.open'
   obtain⟨b,off,rfl,hlt,CX⟩:=hc hO;obtain⟨ae,ce,ev,cG⟩:=he.open';cases ev
   refine step_append_grows hg s x 28 Mr 30 t _ 2 24 underlying28 h2 h3 h4 h5 rfl (by decide) ao E.length E.length (It E) hs ?_ (Dy E) ?_ ⟨b,off,G⟩ O.length cu (It O) hx (Dy O) ?_ ?_ (by omega) (by simp only[maxLen];omega) (by omega) fun v' w' k1 k2=>?_
   . intro hn
     have:¬ 0<E.length:=fun h=>by obtain⟨_,_,e,_⟩:=cG h;rw[hn] at e;cases e
     omega
   . intro b' hb' m u hm
     have hm2:m<E.length*2:=(by rw[<- Dy];exact(Bj.1 hm).1);obtain⟨be,oe,e1,_,hcc'⟩:=cG (by omega);rw[e1] at hb';cases hb'
     have hg:=GB E (m / 2) (by omega);have hcc:=hcc' (m / 2) (by omega);rw[Cb];rcases FD m with e|e
     . have e2:m / 2*2=m:=by omega
       rw[e2] at hg hcc;rw[hcc.1,<- hg.1,hm]
     . have e2:m / 2*2+1=m:=by omega
       have e3:oe+m / 2*2+1=oe+m:=(by omega);rw[e2] at hg;rw[e3] at hcc;rw[hcc.2,<- hg.2,hm]
   . intro m u hm
     have hm2:m<O.length*2:=(by rw[<- Dy];exact(Bj.1 hm).1);have hg:=GB O (m / 2) (by omega);have hcc:=CX (m / 2) (by omega);rw[Cb];rcases FD m with e|e
     . have e2:m / 2*2=m:=by omega
       rw[e2] at hg hcc;rw[hcc.1,<- hg.1,hm]
     . have e2:m / 2*2+1=m:=by omega
       have e3:off+m / 2*2+1=off+m:=(by omega);rw[e2] at hg;rw[e3] at hcc;rw[hcc.2,<- hg.2,hm]
   . intro u hu
     unfold It at hu;obtain⟨z,_,hz⟩:=List.mem_flatMap.1 hu;simp[cE] at hz;rcases hz with rfl|rfl <;> rfl
   . have hr:ER w' w.heap.size 30 v' (E ++ O):=by
      show w'.ownsRow w.heap.size 30 2 v' (E ++ O).length (It (E ++ O))
      rw[Ax,GV];exact k1
     exact hK v' w' hr.sl (fun _=>hr) ((AM _ _).grown k2 (AB _) fun k hk=>by cases hk)
 . obtain rfl:O=[]:=Bb (by omega)
   have Vi:Src I t.size 28 u 0 [] w:=by
    rcases hu with⟨rfl,_⟩| ⟨a',cap,rfl,_⟩
    . exact Src.ofNil w underlying28 0
    . exact Src.ofSlice w underlying28 a' 0 cap [] (by simp) (fun j u h=>by simp at h) (fun u hu=>by cases hu)
   have DY:=run_append_nothing (P:=I) w 28 28 o.type 30 t underlying28 h2 ao E.length E.length (AB _) u Vi;rw[AC (by simp[Region.wanted,hg])];unfold BS.wp;simp[execOp,Mr,resolve,invoke,builtin,hs,hx,DY,Result.andThen];exact hK _ w (by rw[BB];exact he) (fun h=>absurd h (by simp)) (AM _ _)
theorem ErG.ahead{w:U}{T:TypeId}{g cap:Nat}{l:List BC}(h:ErG w T g cap l){k:Nat}(hk:k<=l.length):ESl w (Ak (R ⟨g,0,G⟩) k k) (l.take k):=by
 have e1:(l.take k).length=k:=by rw[AK];omega
 refine Ba ⟨⟨g,0,G⟩,k,by rw[e1],fun j hj=>⟨h.lt,rfl,?_⟩⟩;rw[e1] at hj;have hc:=h.cells (j:=j) (by omega);have e2:(l.take k).getD j default=l.getD j default:=by rw[An,AZ,AC hj,An]
 rw[e2,Bm];exact hc
theorem ErG.behind{w:U}{T:TypeId}{g cap:Nat}{l:List BC}(h:ErG w T g cap l){k:Nat}(hk:k<=l.length):ESl w (.slice (if cap=k then R ⟨g,0,G⟩ else R ⟨g,k*2,G⟩) (l.length-k) (cap-k)) (l.drop k):=by
 have e1:(l.drop k).length=l.length-k:=AU;have hc9:l.length<=cap:=by obtain⟨_,_,z,_⟩:=h;exact z
 by_cases hck:cap=k
 . rw[AC hck]
   exact Ba ⟨_,cap-k,by rw[e1],fun j hj=>by omega⟩
 . rw[AE hck]
   refine Ba ⟨⟨g,k*2,G⟩,cap-k,by rw[e1],fun j hj=>⟨h.lt,rfl,?_⟩⟩;have hc:=h.cells (j:=k+j) (by omega);have e2:(l.drop k).getD j default=l.getD (k+j) default:=by rw[An,Bp,An]
   rw[e2,<- Nat.add_mul];exact hc
theorem ErG.below{w w':U}{T:TypeId}{g cap:Nat}{l:List BC}(h:ErG w T g cap l)(hb:At w.heap.size w w'):ErG w' T g cap l:=by
 have hl:=h.lt;obtain⟨cur,a,r⟩:=h;exact⟨cur,(hb.block g hl).trans a,r⟩
theorem Uz(w:U)(i:Int)(s:ByteArray):ESl (w.alloc (Ar #[Y J i,.string s] 30)) (Ak (R ⟨w.heap.size,0,G⟩) 1 1) [(i,s)]:=by
 have hn1:=Aw w (Ar #[Y J i,.string s] 30);refine Ba ⟨⟨w.heap.size,0,G⟩,1,rfl,fun j hj=>⟨(Al.1 hn1).1,rfl,?_⟩⟩;obtain rfl:j=0:=by simpa using hj
 rw[Az _ _ _ _ _ _ hn1,Az _ _ _ _ _ _ hn1];exact⟨rfl,rfl⟩
theorem W9{w:U}{v:Aq}{l:List BC}(hs:ESl w v l)(hl:l.length<=1000):AA I 40 #[v] w fun e w'=>∃ v',e=Ag v'/\ER w' w.heap.size 30 v' (Hr [] l)/\At w.heap.size w w':=by
 obtain⟨ao,cl,rfl,FU⟩:=hs.open';obtain⟨n,hn⟩:=nm l.length;have HC:Hid (∀ (j:Nat),j<n->∃ b off x1 s1,ao=R ⟨b,off,G⟩/\(x1,s1)=l.getD j default/\∀ W,At w.heap.size w W->W.cell? ⟨b,off+j*2,G⟩=R (Y J x1)/\W.cell? ⟨b,off+j*2+1,G⟩=R (.string s1)):=vJ fun j hj=>by
  obtain⟨b,off,e,hlt,hc2⟩:=FU (by omega);obtain⟨a1,a2⟩:=hc2 j (by omega);refine⟨b,off,(l.getD j default).1,(l.getD j default).2,e,rfl,fun W hW=>⟨?_,?_⟩⟩
  . rw[hW.cell (p:=⟨b,off+j*2,G⟩) hlt];exact a1
  . rw[hW.cell (p:=⟨b,off+j*2+1,G⟩) hlt];exact a2
 have HN:=vJ hn;rw[<- hn] at hl |-
 clear hs FU hn;go_enter func40,ntmps40;go_wp2;go_loopw [3,4,5,8] (fun s3 _ _ s8 wr=>∃ (j:Nat) (z:Aq),z=s3/\j<=n/\s8=Y J j/\Hid (ER wr w.heap.size 30 z (Hr [] (l.take j))/\At w.heap.size w wr)) (fun _ _ _ s8 _=>n-(intOf s8).toNat)
 case atStart=>exact⟨0,_,rfl,AX _,rfl,vJ ⟨UU _ _ _,AM _ _⟩⟩
 case round=>
  obtain⟨j,s3,rfl,hj,rfl,HI⟩:=hrel;by_cases hlt:j<n
  . have J6:(j:Int)<(n:Int):=by omega
    obtain⟨b,off,x1,s1,rfl,hx,hcc⟩:=HC.out j hlt;obtain⟨O,hO⟩:=nm (Hr [] (l.take j));have HI2:Hid (ER wr w.heap.size 30 s3 O/\At w.heap.size w wr):=vJ (by rw[hO];exact HI.out);have HNX:Hid (Hr [] (l.take (j+1))=JE (x1,s1) O):=vJ (by
     rw[hO,hx,<- SX,List.take_add_one,AS (by have:=HN.out;omega),An,AS (by have:=HN.out;omega)];rfl)
    obtain⟨m,hm⟩:=nm O.length;have hm2:m<=1000:=by
     rw[hm,hO,(Gj _ _).length_eq,B0,AK];omega
    have HCC:=vJ hcc;have HM:=vJ hm;clear hx hO hcc HI;rcases HI2.out.1.2 with⟨rz,h0⟩| ⟨g,cap,cur,hrow,XK,hG⟩
    . -- the first
      obtain rfl:O=[]:=Bb h0;rw[rz] at HI2 |-
      clear rz h0 hm hm2;have HD1:Hid (∀ V:U,At 0 V V->ESl V (Ak G 0 0) ([]:List BC)):=vJ fun V _=>UH V
      have HT1:=HD1;have HLD:Hid (1+([]:List BC).length<=1000000):=vJ (by decide);have HLT:Hid (([]:List BC).length+([(x1,s1)] ++ ([]:List BC)).length<=1000000):=vJ (show(0:Nat)+1<=1000000 by decide);have HKL:Hid (0=([]:List BC).length):=vJ rfl;go_wp2;go_loopw [5] (fun s5 wr2=>s5=Y J 0/\At wr.heap.size wr wr2) (fun _ _=>0)
      case atStart=>exact⟨rfl,AM _ _⟩
      case round=>
       obtain⟨rfl,hbi⟩:=hrel;have HBI:=vJ hbi;clear hbi;go_wp2;go_quiet (fail)
       go_wp2;have HSW:=vJ (HCC.out _ (HI2.out.2.trans ((A2 HBI.out (nq+1)).mono HI2.out.2.size)));have HBA:=vJ ((A2 HBI.out (nq+1)).alloc HBI.out.size (Ar #[Y J x1,.string s1] 30));refine wp_region_any (by kernel_rfl) ?_
       try change wpAny _ _ _ _ _ _ _ (U.drew _)
       refine AW (i:=0) (v:=Ak G 0 0) rfl (by kernel_rfl) (by kernel_rfl) (by kernel_rfl) (fun _ _ _ h=>h) (AN ⟨by rfl,?_⟩) ?_
       . intro W;go_simp
       try simp only[C,Aj,A,Au,As,Ao]
       refine AW (i:=1) (v:=Y J 0) rfl (by kernel_rfl) (by kernel_rfl) (by kernel_rfl) (fun _ _ _ h=>h) (AN ⟨by rfl,?_⟩) ?_
       . intro W;go_simp
       try simp only[C,Aj,A,Au,As,Ao,Ap]
       refine AW (i:=2) (v:=Y J 0) rfl (by kernel_rfl) (by kernel_rfl) (by kernel_rfl) (fun _ _ _ h=>h) (AN ⟨by rfl,?_⟩) ?_
       . intro W;go_simp
       try simp only[C,Aj,A,Au,As,Ao,Ap]
       refine AW (i:=3) (v:=Ak G 0 0) rfl (by kernel_rfl) (by kernel_rfl) (by kernel_rfl) (fun _ _ _ h=>h) (AN ⟨by rfl,?_⟩) ?_
       . intro W;go_simp
       try simp only[C,Aj,A,Au,As,Ao,Ap]
       refine AW (i:=4) (v:=Ak (R ⟨b,off,G⟩) n cl) rfl (by kernel_rfl) (by kernel_rfl) (by kernel_rfl) (fun _ _ _ h=>h) (AN ⟨by rfl,?_⟩) ?_
       . intro W;go_simp
       try simp only[C,Aj,A,Au,As,Ao,Ap]
       refine AW (i:=5) (v:=Y J j) rfl (by kernel_rfl) (by kernel_rfl) (by kernel_rfl) (fun _ _ _ h=>h) (AN ⟨by rfl,?_⟩) ?_
       . intro W;go_simp
       try simp only[C,Aj,A,Au,As,Ao,Ap]
       refine AW (i:=6) (v:=Am (R ⟨b,off+j*2,G⟩)) rfl (by kernel_rfl) (by kernel_rfl) (by kernel_rfl) (fun _ _ _ h=>h) (AN ⟨by rfl,?_⟩) ?_
       . intro W;go_simp
       try simp only[C,Aj,A,Au,As,Ao,Ap]
       refine AW (i:=9) (v:=Ak G 0 0) rfl (by kernel_rfl) (by kernel_rfl) (by kernel_rfl) (fun _ _ _ h=>h) (AN ⟨by rfl,?_⟩) ?_
       . intro W;go_simp
       try simp only[C,Aj,A,Au,As,Ao,Ap]
       refine AW (i:=10) (v:=Y J 0) rfl (by kernel_rfl) (by kernel_rfl) (by kernel_rfl) (fun _ _ _ h=>h) (AN ⟨by rfl,?_⟩) ?_
       . intro W;go_simp
       try simp only[C,Aj,A,Au,As,Ao,Ap]
       refine AW (i:=11) (v:=Ak G 0 0) rfl (by kernel_rfl) (by kernel_rfl) (by kernel_rfl) (fun _ _ _ h=>h) (AN ⟨by rfl,?_⟩) ?_
       . intro W;go_simp
       try simp only[C,Aj,A,Au,As,Ao,Ap]
       refine Ej (S:=fun W=>W.cell? ⟨b,off+j*2,G⟩=R (Y J x1)/\W.cell? ⟨b,off+j*2+1,G⟩=R (.string s1)) (m:=8) _ _ _ _ ?_;refine De (i:=7) (v:=BD #[Y J x1,.string s1]) rfl rfl (by kernel_rfl) (by kernel_rfl) (by kernel_rfl) (by kernel_rfl) (by kernel_rfl) (fun _ _ _ h=>h) (AN ⟨by rfl,?_⟩) HSW.out ?_
       . intro W EM;obtain⟨z1,z2⟩:=EM;go_simp
       try simp only[C,Aj,A,Au,As,Ao,Ap]
       refine BX (rs:=[8]) (by kernel_rfl) (by simp) (.cons rfl (fun K hK=>?_) .nil)
       go_simp
       refine hK.out _ _ (Cp (by kernel_rfl)) ?_;clear hK K
       try simp only[C,Aj,A,Au,As,Ao,Ap]
       refine BX (rs:=[12]) (by kernel_rfl) (by simp) (.cons rfl (fun K hK=>?_) .nil);refine DV (by rfl) (.tmp 38) (.tmp 41) (by rfl) [(x1,s1)] ([]:List BC) 1 rfl _ _ (by rfl) (Uz _ x1 s1) (by rfl) (HD1.out _ (AM _ _)) HLD.out ?_;intro v12 w12 XM _ hb12;have HE12:=vJ XM;have HB12:=vJ hb12;clear XM hb12;refine hK.out _ _ (Cp (by kernel_rfl)) ?_;clear hK K
       try simp only[C,Aj,A,Au,As,Ao,Ap]
       refine BX (rs:=[13]) (by kernel_rfl) (by simp) (.cons rfl (fun K hK=>?_) .nil);refine DV (by rfl) (.tmp 33) (.tmp 42) (by rfl) ([]:List BC) ([(x1,s1)] ++ ([]:List BC)) 0 HKL.out _ _ (by rfl) (HT1.out _ (AM _ _)) (by rfl) HE12.out HLT.out ?_;intro v13 w13 _ XN hb13;have HE13:=vJ XN;have HB13:=vJ hb13;clear XN hb13;refine hK.out _ _ (Cp (by kernel_rfl)) ?_;clear hK K
       try simp only[C,Aj,A,Au,As,Ao,Ap]
       refine BX (rs:=[14]) (by kernel_rfl) (by simp) (.cons rfl (fun K hK=>?_) .nil)
       go_simp
       refine hK.out _ _ (Cp (by kernel_rfl)) ?_;clear hK K
       try simp only[C,Aj,A,Au,As,Ao,Ap]
       refine Gd (by kernel_rfl) ?_ _;go_wp2;go_roundw
       case rel=>exact⟨j+1,_,rfl,by omega,by go_num,vJ ⟨by rw[HNX.out];exact(HE13.out (by simp)).more (by have h1:=HB12.out.size;have h2:=HBA.out.size;have h3:=HI2.out.2.size;omega),HI2.out.2.trans (((HBA.out.trans (HB12.out.mono HBA.out.size)).trans (HB13.out.mono (AT HBA.out.size HB12.out.size))).mono HI2.out.2.size)⟩⟩
       case measure=>simp[intOf];omega
    . subst hrow
      have hG:ErG wr 30 g cap O:=⟨cur,hG⟩;rw[<- hm];clear hm;have Cm:m<=cap:=(by obtain⟨_,_,z,_⟩:=hG;have:=HM.out;omega);have HG:=vJ hG;obtain⟨kp,tG⟩:=nm (EV s1 O);have oF:kp<=m:=(by have:=bM s1 O;have:=HM.out;omega);have HKP:=vJ tG;have HD1:=vJ (fun V hV=>(show ErG V 30 g cap O from hG.below hV).behind (k:=kp) (by have:=HM.out;omega));have HT1:=vJ (fun V hV=>(show ErG V 30 g cap O from hG.below hV).ahead (k:=kp) (by have:=HM.out;omega));rw[<- HM.out] at HD1;have HLD:Hid (1+(O.drop kp).length<=1000000):=vJ (by rw[AU,<- HM.out];omega);have HLT:Hid ((O.take kp).length+([(x1,s1)] ++ O.drop kp).length<=1000000):=vJ (by rw[Ax,AU,AK,<- HM.out,List.length_singleton];omega);have HKL:Hid (kp=(O.take kp).length):=vJ (by rw[AK,<- HM.out];omega);clear hG tG;go_wp2;go_loopw [5] (fun s5 wr2=>∃ k:Nat,k<=kp/\s5=Y J k/\At wr.heap.size wr wr2) (fun s5 _=>kp-(intOf s5).toNat)
      case atStart=>exact⟨0,AX _,rfl,AM _ _⟩
      case round=>
       obtain⟨k,hk,rfl,hbi⟩:=hrel;have HBI:=vJ hbi;clear hbi;obtain⟨d1,d2⟩:=HCC.out _ (HI2.out.2.trans (HBI.out.mono HI2.out.2.size));by_cases XE:k<kp
       . obtain⟨f1,f2⟩:=(HG.out.below HBI.out).cells (j:=k) (by have:=HM.out;omega)
         obtain⟨y2,ir⟩:=nm ((O.getD k default).2);rw[<- ir] at f2;have hd:decide (k<m)=AL:=AF (by omega);have Vt:Op.bytesLess y2.toList s1.toList=AL:=Zy (by
          have h9:k<O.length:=(by have:=HM.out;omega);have:=LS s1 O k h9 (by have:=HKP.out;omega);rw[ir,An,AS h9];exact this)
         clear ir;go_wp2;go_quiet (fail)
         go_wp2;go_roundw
         case rel=>exact⟨k+1,by omega,by go_num,HBI.out.trans (A2 (AM _ _) _)⟩
         case measure=>simp[intOf];omega
       . obtain rfl:kp=k:=by omega
         have hkc:kp<=cap:=AT oF Cm;by_cases hk3:kp<m
         . obtain⟨f1,f2⟩:=(HG.out.below HBI.out).cells (j:=kp) (by have:=HM.out;omega)
           obtain⟨y2,ir⟩:=nm ((O.getD kp default).2);rw[<- ir] at f2;have hd:decide (kp<m)=AL:=AF (by omega);have Vt:Op.bytesLess y2.toList s1.toList=AI:=nW (by
            have h9:EV s1 O<O.length:=(by have:=HM.out;have:=HKP.out;omega);have:=L3 s1 O h9;rw[ir,An,HKP.out,AS h9];exact this)
           clear ir;go_wp2;go_quiet (fail)
           go_wp2;have HSW:=vJ (HCC.out _ (HI2.out.2.trans ((A2 HBI.out (nq+1)).mono HI2.out.2.size)));have HBA:=vJ ((A2 HBI.out (nq+1)).alloc HBI.out.size (Ar #[Y J x1,.string s1] 30));refine wp_region_any (by kernel_rfl) ?_
           try change wpAny _ _ _ _ _ _ _ (U.drew _)
           refine AW (i:=0) (v:=Ak (R ⟨g,0,G⟩) m cap) rfl (by kernel_rfl) (by kernel_rfl) (by kernel_rfl) (fun _ _ _ h=>h) (AN ⟨by rfl,?_⟩) ?_
           . intro W;go_simp
           try simp only[C,Aj,A,Au,As,Ao]
           refine AW (i:=1) (v:=Y J kp) rfl (by kernel_rfl) (by kernel_rfl) (by kernel_rfl) (fun _ _ _ h=>h) (AN ⟨by rfl,?_⟩) ?_
           . intro W;go_simp
           try simp only[C,Aj,A,Au,As,Ao,Ap]
           refine AW (i:=2) (v:=Y J kp) rfl (by kernel_rfl) (by kernel_rfl) (by kernel_rfl) (fun _ _ _ h=>h) (AN ⟨by rfl,?_⟩) ?_
           . intro W;go_simp
           try simp only[C,Aj,A,Au,As,Ao,Ap]
           refine AW (i:=3) (v:=Ak (R ⟨g,0,G⟩) kp kp) rfl (by kernel_rfl) (by kernel_rfl) (by kernel_rfl) (fun _ _ _ h=>h) (AN ⟨by rfl,?_⟩) ?_
           . intro W;go_simp
           try simp only[C,Aj,A,Au,As,Ao,Ap]
           refine AW (i:=4) (v:=Ak (R ⟨b,off,G⟩) n cl) rfl (by kernel_rfl) (by kernel_rfl) (by kernel_rfl) (fun _ _ _ h=>h) (AN ⟨by rfl,?_⟩) ?_
           . intro W;go_simp
           try simp only[C,Aj,A,Au,As,Ao,Ap]
           refine AW (i:=5) (v:=Y J j) rfl (by kernel_rfl) (by kernel_rfl) (by kernel_rfl) (fun _ _ _ h=>h) (AN ⟨by rfl,?_⟩) ?_
           . intro W;go_simp
           try simp only[C,Aj,A,Au,As,Ao,Ap]
           refine AW (i:=6) (v:=Am (R ⟨b,off+j*2,G⟩)) rfl (by kernel_rfl) (by kernel_rfl) (by kernel_rfl) (fun _ _ _ h=>h) (AN ⟨by rfl,?_⟩) ?_
           . intro W;go_simp
           try simp only[C,Aj,A,Au,As,Ao,Ap]
           refine AW (i:=9) (v:=Ak (R ⟨g,0,G⟩) m cap) rfl (by kernel_rfl) (by kernel_rfl) (by kernel_rfl) (fun _ _ _ h=>h) (AN ⟨by rfl,?_⟩) ?_
           . intro W;go_simp
           try simp only[C,Aj,A,Au,As,Ao,Ap]
           refine AW (i:=10) (v:=Y J kp) rfl (by kernel_rfl) (by kernel_rfl) (by kernel_rfl) (fun _ _ _ h=>h) (AN ⟨by rfl,?_⟩) ?_
           . intro W;go_simp
           try simp only[C,Aj,A,Au,As,Ao,Ap]
           refine AW (i:=11) (v:=.slice (if cap=kp then R ⟨g,0,G⟩ else R ⟨g,kp*2,G⟩) (m-kp) (cap-kp)) rfl (by kernel_rfl) (by kernel_rfl) (by kernel_rfl) (fun _ _ _ h=>h) (AN ⟨by rfl,?_⟩) ?_
           . intro W;go_simp
           try simp only[C,Aj,A,Au,As,Ao,Ap]
           refine Ej (S:=fun W=>W.cell? ⟨b,off+j*2,G⟩=R (Y J x1)/\W.cell? ⟨b,off+j*2+1,G⟩=R (.string s1)) (m:=8) _ _ _ _ ?_;refine De (i:=7) (v:=BD #[Y J x1,.string s1]) rfl rfl (by kernel_rfl) (by kernel_rfl) (by kernel_rfl) (by kernel_rfl) (by kernel_rfl) (fun _ _ _ h=>h) (AN ⟨by rfl,?_⟩) HSW.out ?_
           . intro W EM;obtain⟨z1,z2⟩:=EM;go_simp
           try simp only[C,Aj,A,Au,As,Ao,Ap]
           refine BX (rs:=[8]) (by kernel_rfl) (by simp) (.cons rfl (fun K hK=>?_) .nil)
           go_simp
           refine hK.out _ _ (Cp (by kernel_rfl)) ?_;clear hK K
           try simp only[C,Aj,A,Au,As,Ao,Ap]
           refine BX (rs:=[12]) (by kernel_rfl) (by simp) (.cons rfl (fun K hK=>?_) .nil);refine DV (by rfl) (.tmp 38) (.tmp 41) (by rfl) [(x1,s1)] (O.drop kp) 1 rfl _ _ (by rfl) (Uz _ x1 s1) (by rfl) (HD1.out _ HBA.out) HLD.out ?_;intro v12 w12 XM _ hb12;have HE12:=vJ XM;have HB12:=vJ hb12;clear XM hb12;refine hK.out _ _ (Cp (by kernel_rfl)) ?_;clear hK K
           try simp only[C,Aj,A,Au,As,Ao,Ap]
           refine BX (rs:=[13]) (by kernel_rfl) (by simp) (.cons rfl (fun K hK=>?_) .nil);refine DV (by rfl) (.tmp 33) (.tmp 42) (by rfl) (O.take kp) ([(x1,s1)] ++ (O.drop kp)) kp HKL.out _ _ (by rfl) (HT1.out _ (HBA.out.trans (HB12.out.mono HBA.out.size))) (by rfl) HE12.out HLT.out ?_;intro v13 w13 _ XN hb13;have HE13:=vJ XN;have HB13:=vJ hb13;clear XN hb13;refine hK.out _ _ (Cp (by kernel_rfl)) ?_;clear hK K
           try simp only[C,Aj,A,Au,As,Ao,Ap]
           refine BX (rs:=[14]) (by kernel_rfl) (by simp) (.cons rfl (fun K hK=>?_) .nil)
           go_simp
           refine hK.out _ _ (Cp (by kernel_rfl)) ?_;clear hK K
           try simp only[C,Aj,A,Au,As,Ao,Ap]
           refine Gd (by kernel_rfl) ?_ _;go_wp2;go_roundw
           case rel=>exact⟨j+1,_,rfl,by omega,by go_num,vJ ⟨by rw[HNX.out];unfold JE;rw[<- HKP.out];exact(HE13.out (by simp)).more (by have h1:=HB12.out.size;have h2:=HBA.out.size;have h3:=HI2.out.2.size;omega),HI2.out.2.trans (((HBA.out.trans (HB12.out.mono HBA.out.size)).trans (HB13.out.mono (AT HBA.out.size HB12.out.size))).mono HI2.out.2.size)⟩⟩
           case measure=>simp[intOf];omega
         . have hd:decide (kp<m)=AI:=AG hk3
           go_wp2;go_quiet (fail)
           go_wp2;have HSW:=vJ (HCC.out _ (HI2.out.2.trans ((A2 HBI.out (nq+1)).mono HI2.out.2.size)));have HBA:=vJ ((A2 HBI.out (nq+1)).alloc HBI.out.size (Ar #[Y J x1,.string s1] 30));refine wp_region_any (by kernel_rfl) ?_
           try change wpAny _ _ _ _ _ _ _ (U.drew _)
           refine AW (i:=0) (v:=Ak (R ⟨g,0,G⟩) m cap) rfl (by kernel_rfl) (by kernel_rfl) (by kernel_rfl) (fun _ _ _ h=>h) (AN ⟨by rfl,?_⟩) ?_
           . intro W;go_simp
           try simp only[C,Aj,A,Au,As,Ao]
           refine AW (i:=1) (v:=Y J kp) rfl (by kernel_rfl) (by kernel_rfl) (by kernel_rfl) (fun _ _ _ h=>h) (AN ⟨by rfl,?_⟩) ?_
           . intro W;go_simp
           try simp only[C,Aj,A,Au,As,Ao,Ap]
           refine AW (i:=2) (v:=Y J kp) rfl (by kernel_rfl) (by kernel_rfl) (by kernel_rfl) (fun _ _ _ h=>h) (AN ⟨by rfl,?_⟩) ?_
           . intro W;go_simp
           try simp only[C,Aj,A,Au,As,Ao,Ap]
           refine AW (i:=3) (v:=Ak (R ⟨g,0,G⟩) kp kp) rfl (by kernel_rfl) (by kernel_rfl) (by kernel_rfl) (fun _ _ _ h=>h) (AN ⟨by rfl,?_⟩) ?_
           . intro W;go_simp
           try simp only[C,Aj,A,Au,As,Ao,Ap]
           refine AW (i:=4) (v:=Ak (R ⟨b,off,G⟩) n cl) rfl (by kernel_rfl) (by kernel_rfl) (by kernel_rfl) (fun _ _ _ h=>h) (AN ⟨by rfl,?_⟩) ?_
           . intro W;go_simp
           try simp only[C,Aj,A,Au,As,Ao,Ap]
           refine AW (i:=5) (v:=Y J j) rfl (by kernel_rfl) (by kernel_rfl) (by kernel_rfl) (fun _ _ _ h=>h) (AN ⟨by rfl,?_⟩) ?_
           . intro W;go_simp
           try simp only[C,Aj,A,Au,As,Ao,Ap]
           refine AW (i:=6) (v:=Am (R ⟨b,off+j*2,G⟩)) rfl (by kernel_rfl) (by kernel_rfl) (by kernel_rfl) (fun _ _ _ h=>h) (AN ⟨by rfl,?_⟩) ?_
           . intro W;go_simp
           try simp only[C,Aj,A,Au,As,Ao,Ap]
           refine AW (i:=9) (v:=Ak (R ⟨g,0,G⟩) m cap) rfl (by kernel_rfl) (by kernel_rfl) (by kernel_rfl) (fun _ _ _ h=>h) (AN ⟨by rfl,?_⟩) ?_
           . intro W;go_simp
           try simp only[C,Aj,A,Au,As,Ao,Ap]
           refine AW (i:=10) (v:=Y J kp) rfl (by kernel_rfl) (by kernel_rfl) (by kernel_rfl) (fun _ _ _ h=>h) (AN ⟨by rfl,?_⟩) ?_
           . intro W;go_simp
           try simp only[C,Aj,A,Au,As,Ao,Ap]
           refine AW (i:=11) (v:=.slice (if cap=kp then R ⟨g,0,G⟩ else R ⟨g,kp*2,G⟩) (m-kp) (cap-kp)) rfl (by kernel_rfl) (by kernel_rfl) (by kernel_rfl) (fun _ _ _ h=>h) (AN ⟨by rfl,?_⟩) ?_
           . intro W;go_simp
           try simp only[C,Aj,A,Au,As,Ao,Ap]
           refine Ej (S:=fun W=>W.cell? ⟨b,off+j*2,G⟩=R (Y J x1)/\W.cell? ⟨b,off+j*2+1,G⟩=R (.string s1)) (m:=8) _ _ _ _ ?_;refine De (i:=7) (v:=BD #[Y J x1,.string s1]) rfl rfl (by kernel_rfl) (by kernel_rfl) (by kernel_rfl) (by kernel_rfl) (by kernel_rfl) (fun _ _ _ h=>h) (AN ⟨by rfl,?_⟩) HSW.out ?_
           . intro W EM;obtain⟨z1,z2⟩:=EM;go_simp
           try simp only[C,Aj,A,Au,As,Ao,Ap]
           refine BX (rs:=[8]) (by kernel_rfl) (by simp) (.cons rfl (fun K hK=>?_) .nil)
           go_simp
           refine hK.out _ _ (Cp (by kernel_rfl)) ?_;clear hK K
           try simp only[C,Aj,A,Au,As,Ao,Ap]
           refine BX (rs:=[12]) (by kernel_rfl) (by simp) (.cons rfl (fun K hK=>?_) .nil);refine DV (by rfl) (.tmp 38) (.tmp 41) (by rfl) [(x1,s1)] (O.drop kp) 1 rfl _ _ (by rfl) (Uz _ x1 s1) (by rfl) (HD1.out _ HBA.out) HLD.out ?_;intro v12 w12 XM _ hb12;have HE12:=vJ XM;have HB12:=vJ hb12;clear XM hb12;refine hK.out _ _ (Cp (by kernel_rfl)) ?_;clear hK K
           try simp only[C,Aj,A,Au,As,Ao,Ap]
           refine BX (rs:=[13]) (by kernel_rfl) (by simp) (.cons rfl (fun K hK=>?_) .nil);refine DV (by rfl) (.tmp 33) (.tmp 42) (by rfl) (O.take kp) ([(x1,s1)] ++ (O.drop kp)) kp HKL.out _ _ (by rfl) (HT1.out _ (HBA.out.trans (HB12.out.mono HBA.out.size))) (by rfl) HE12.out HLT.out ?_;intro v13 w13 _ XN hb13;have HE13:=vJ XN;have HB13:=vJ hb13;clear XN hb13;refine hK.out _ _ (Cp (by kernel_rfl)) ?_;clear hK K
           try simp only[C,Aj,A,Au,As,Ao,Ap]
           refine BX (rs:=[14]) (by kernel_rfl) (by simp) (.cons rfl (fun K hK=>?_) .nil)
           go_simp
           refine hK.out _ _ (Cp (by kernel_rfl)) ?_;clear hK K
           try simp only[C,Aj,A,Au,As,Ao,Ap]
           refine Gd (by kernel_rfl) ?_ _;go_wp2;go_roundw
           case rel=>exact⟨j+1,_,rfl,by omega,by go_num,vJ ⟨by rw[HNX.out];unfold JE;rw[<- HKP.out];exact(HE13.out (by simp)).more (by have h1:=HB12.out.size;have h2:=HBA.out.size;have h3:=HI2.out.2.size;omega),HI2.out.2.trans (((HBA.out.trans (HB12.out.mono HBA.out.size)).trans (HB13.out.mono (AT HBA.out.size HB12.out.size))).mono HI2.out.2.size)⟩⟩
           case measure=>simp[intOf];omega
  . obtain rfl:j=n:=by omega
    have sn:=HI.out;rw[AV (by have:=HN.out;omega)] at sn;have HF:=vJ sn;clear sn;go_wp2;go_ret;exact⟨_,rfl,HF.out.1,HF.out.2⟩
section
variable {w0 w:U}{d p:Aq}{kk bf:Nat}{l:List BC}{P:Nat->Prop}
theorem RestD.low(h:RestD w0 d p kk bf l P w){w':U}(hb:At w.heap.size w w'):RestD w0 d p kk bf l P w':=by
 obtain⟨X,N,O,F,sz,M,a,r⟩:=h;exact⟨X,N,O,F,sz,M,a.low hb,r⟩
theorem RestD.far(h:RestD w0 d p kk bf l P w){Z Z':Nat->Prop}{w':U}(hc:Chg Z Z' w w')(hf:FarF w0 P bf Z):RestD w0 d p kk bf l P w':=by
 obtain⟨X,N,O,F,sz,M,a,r⟩:=h;exact⟨X,N,O,F,sz,M,a.far hc hf.hi hf.ap hf.nf,r⟩
theorem AbD.far(h:AbD w0 d p kk bf l P w){Z Z':Nat->Prop}{w':U}(hc:Chg Z Z' w w')(hf:FarF w0 P bf Z):AbD w0 d p kk bf l P w':=by
 obtain⟨X,N,O,F,sz,M,a,r⟩:=h;exact⟨X,N,O,F,sz,M,a.far hc hf.hi hf.ap hf.nf,r⟩
theorem MidD.far(h:MidD w0 d p kk bf l P w){Z Z':Nat->Prop}{w':U}(hc:Chg Z Z' w w')(hf:FarF w0 P bf Z):MidD w0 d p kk bf l P w':=by
 obtain⟨X,N,O,F,N2,O2,F2,sz,M,a,b,r⟩:=h;exact⟨X,N,O,F,N2,O2,F2,sz,M,a.far hc hf.hi hf.ap hf.nf,b.farM hc hf.ap hf.nf,r⟩
theorem AbD.fs(h:AbD w0 d p kk bf l P w):FsAt w bf p:=by
 obtain⟨X,N,O,F,sz,M,a,_⟩:=h;exact a.fs
theorem StartD.rd(h:StartD w0 d p kk bf l P w):RdD d p kk bf l P w:=h.mid.rd
theorem RestD.rd(h:RestD w0 d p kk bf l P w):RdD d p kk bf l P w:=by
 obtain⟨X,N,O,F,sz,M,a,c,e,f,r⟩:=h;exact⟨_,N,O,F,sz,M,a.rd,by unfold XSt.cur;rw[a.wi];exact c,e,f⟩
theorem MidD.keep(h:MidD w0 d p kk bf l P w):AA I 18 #[p,A1 AL] w fun e w'=>e=Ag (Y J 0)/\∃ P',RestD w0 d p kk bf l P' w'/\Chg P P' w w':=by
 obtain⟨X,N,O,F,N2,O2,F2,sz,M,a,b,c,r⟩:=h;exact(a.keep b).mono fun e w' ⟨he,P',X',hd,hx,hc⟩=>⟨he,P',⟨X',N2,O2,F2,sz,M,hd,by rw[hx];exact c,r⟩,hc⟩
theorem AbD.undo(h:AbD w0 d p kk bf l P w):AA I 18 #[p,A1 AI] w fun e w'=>e=Ag (Y J 0)/\∃ P',RestD w0 d p kk bf l P' w'/\Chg P P' w w':=by
 obtain⟨X,N,O,F,sz,M,a,c,r⟩:=h;exact a.undo.mono fun e w' ⟨he,P',X',hd,hx,hc⟩=>⟨he,P',⟨X',N,O,F,sz,M,hd,by rw[hx];exact c,r⟩,hc⟩
theorem CallD.fin{er:Int}(h:CallD w0 d p kk bf er l P w){b:Bool}(hb:b=decide (er=0)):AA I 18 #[p,A1 b] w fun e w'=>e=Ag (Y J 0)/\∃ P',RestD w0 d p kk bf l P' w'/\Chg P P' w w':=by
 by_cases h0:er=0
 . rw[hb,AF h0];exact(h.1 h0).keep
 . rw[hb,AG h0];exact(h.2.1 h0).undo
theorem StartD.set(h:StartD w0 d p kk bf l P w)(h1:1<=kk)(h4:kk<5)(hl:l.length<=100)(x:BC):
 AA I 12 #[Am (R ⟨bf,0,G⟩),Y J 1,BD #[Y J x.1,.string x.2]] w fun e w'=>e=Ag (Y J (Ja l x))/\∃ P',CallD w0 d p kk bf (Ja l x) (setL l x) P' w'/\Chg P P' w w':=by
 obtain⟨X,N,O,F,Q,sz,M,a,f,hQ,c1,c2,c4,c3⟩:=h.flt h4;refine(gu f c2 (n:=1) (by decide) (by decide) (by omega) c4.f x).mono ?_;rintro e w' (⟨hf,he,hb⟩| ⟨hf,hx,he,hb⟩| ⟨hf,hx,he,ho⟩)
 . have e1:Ja l x=1:=by unfold Ja;rw[hf,AE (by decide)]
   have e2:setL l x=l:=(by unfold setL;rw[hf,AE (fun h=>by cases h.1)]);rw[e1,e2];exact⟨he,P,(h.low hb).call 1,Chg.of_below hb⟩
 . have e1:Ja l x=4:=by unfold Ja;rw[hf,AC rfl,AE hx]
   have e2:setL l x=l:=(by unfold setL;rw[AE (fun h=>hx h.2)]);rw[e1,e2];exact⟨he,P,(h.low hb).call 4,Chg.of_below hb⟩
 . have e1:Ja l x=0:=by unfold Ja;rw[hf,AC rfl,AC hx]
   have e2:setL l x=l.set (C4 l x.2) x:=(by unfold setL;rw[AC ⟨hf,hx⟩]);rw[e1,e2];obtain⟨P',hm,hc⟩:=FlO.midD a f c2 c3 ho (c4.set hf hx) (by rw[AJ];exact hl) h1;exact⟨he,P',⟨fun _=>hm,fun h=>absurd rfl h,hm.fs⟩,hc⟩
theorem StartD.rem(h:StartD w0 d p kk bf l P w)(h1:1<=kk)(h4:kk<5)(hl:l.length<=100)(s:ByteArray):
 AA I 14 #[Am (R ⟨bf,0,G⟩),Y J 1,.string s] w fun e w'=>e=Ag (Y J (Lk l s))/\∃ P',CallD w0 d p kk bf (Lk l s) (rmvL l s) P' w'/\Chg P P' w w':=by
 obtain⟨X,N,O,F,Q,sz,M,a,f,hQ,c1,c2,c4,c3⟩:=h.flt h4;refine(UW f c2 (n:=1) (by decide) (by decide) (by omega) c4.f s).mono ?_;rintro e w' (⟨hx,he,hb⟩| ⟨hx,he,ho⟩)
 . have e1:Lk l s=4:=by unfold Lk;rw[AE hx]
   have e2:rmvL l s=l:=(by unfold rmvL;rw[AE hx]);rw[e1,e2];exact⟨he,P,(h.low hb).call 4,Chg.of_below hb⟩
 . have e1:Lk l s=0:=by unfold Lk;rw[AC hx]
   have e2:rmvL l s=Wx l (C4 l s):=(by unfold rmvL;rw[AC hx]);rw[e1,e2];obtain⟨P',hm,hc⟩:=FlO.midD a f c2 c3 ho (c4.rem hx) (by unfold Wx;rw[AK,AJ];omega) h1;exact⟨he,P',⟨fun _=>hm,fun h=>absurd rfl h,hm.fs⟩,hc⟩
theorem RdD.list(h:RdD d p kk bf l P w):AA I 21 #[Am (R ⟨bf,0,G⟩),Y J 1] w fun e w'=>∃ v Z,e=Ag (AO #[v,Y J 0])/\Z.Perm l/\Ord Z/\ESl w' v Z/\At w.heap.size w w':=by
 obtain⟨X,N,O,F,sz,M,a,b,c,e⟩:=h;exact My a b c (n:=1) (by decide) (by decide) e.f
theorem RdD.frm(h:RdD d p kk bf l P w):FrmL l:=by
 obtain⟨X,N,O,F,sz,M,a,b,c,e⟩:=h;exact e.f.frm
theorem RdD.read(h:RdD d p kk bf l P w):AA I 38 #[Am (R ⟨bf,0,G⟩),Y J 1,Y J 0,Y J 40000] w fun e w'=>∃ v,e=Ag (AO #[v,Y J 0])/\BSl w' v (DW l)/\At w.heap.size w w':=by
 obtain⟨X,N,O,F,sz,M,a,b,c,e⟩:=h;have lT:=b.sb;refine(Tn a b (n:=1) (by decide) (by decide) (a:=0) (m:=40000) (by omega) (by omega)).mono ?_;rintro e1 w' ⟨v,he,hv,hb⟩;rw[show min 40000 (sz-0)=sz by omega,e.f.by_] at hv;exact⟨v,he,hv.bsl,hb⟩
end
def Dst(l:List BC):Prop:=l.Pairwise fun x y=>x.2≠y.2
theorem Dst.addL{l:List BC}(h:Dst l)(x:BC):Dst (addL l x):=by
 unfold Go.Proofs.YtdefiimcmecnnaaGreat.addL;split
 . next hc=>
   unfold Dst;rw[List.pairwise_append];refine⟨h,List.pairwise_singleton _ _,fun a ha b hb=>?_⟩;rw[Et.1 hb];have:=Qf l x.2;exact idxN_none.1 (by omega) a ha
 . exact h
theorem Dst.set{l:List BC}(h:Dst l){i:Nat}(hi:i<l.length){x:BC}(hx:(l[i]).2=x.2):Dst (l.set i x):=by
 unfold Dst at h |-
 rw[Em] at h |-
 intro a b ha hb TZ;rw[AJ] at ha hb;rw[Cz,Cz];by_cases e1:i=a
 . subst e1
   rw[AC rfl,AE (by omega),<- hx];exact h _ _ _ _ TZ
 . rw[AE e1]
   by_cases e2:i=b
   . subst e2
     rw[AC rfl,<- hx];exact h _ _ _ _ TZ
   . rw[AE e2]
     exact h _ _ _ _ TZ
theorem Dst.setL{l:List BC}(h:Dst l)(x:BC):Dst (setL l x):=by
 unfold Go.Proofs.YtdefiimcmecnnaaGreat.setL;split
 . next hc=>exact h.set hc.2 (Ls hc.2)
 . exact h
theorem Dst.rmvL{l:List BC}(h:Dst l)(s:ByteArray):Dst (rmvL l s):=by
 unfold Go.Proofs.YtdefiimcmecnnaaGreat.rmvL;split
 . next hc=>
   unfold Wx Dst;unfold Dst at h;obtain⟨y,hy⟩:=nm (l.getD (l.length-1) default);have ir:y=l[l.length-1]'(by omega):=(by rw[hy,EY _ (by omega)]);rw[<- hy];rw[Em] at h |-
   intro a b ha hb TZ;rw[AK,AJ] at ha hb;rw[C7,C7,Cz,Cz];by_cases e1:C4 l s=a
   . rw[AC e1,AE (by omega)]
     have q:=h b (l.length-1) (by omega) (by omega) (by omega);rw[<- ir] at q;exact fun e=>q e.symm
   . rw[AE e1]
     by_cases e2:C4 l s=b
     . rw[AC e2]
       have q:=h a (l.length-1) (by omega) (by omega) (by omega);rw[<- ir] at q;exact q
     . rw[AE e2]
       exact h a b (by omega) (by omega) TZ
 . exact h
theorem Dst.ord{l Z:List BC}(h:Dst l)(hp:Z.Perm l)(ho:Ord Z):Z=Hr [] l:=by
 have hd:Dst Z:=hp.symm.pairwise h fun h k=>h k.symm
 exact Ni (hp.trans (Gj l []).symm) (ho.srt hd) (Fm l [] List.Pairwise.nil h)
theorem ER.keep{w w':U}{B:Nat}{T:TypeId}{v:Aq}{l:List BC}(h:ER w B T v l)(hk:∀ g,v.ownBlock=R g->w'.heap[g]? =w.heap[g]?):ER w' B T v l:=by
 refine⟨h.1,?_⟩;rcases h.2 with h2| ⟨g,cap,cur,hv,hg,hh,r⟩
 . exact AN h2
 . exact Ba ⟨g,cap,cur,hv,hg,(hk g (by rw[hv];rfl)).trans hh,r⟩
structure ClD (w0:U) (bf:Nat) (p:Aq) (Φ:(Nat->Prop)->U->Prop):Prop where
 far:∀ {P w w' Z Z'},Φ P w->Chg Z Z' w w'->FarF w0 P bf Z->Φ P w'
 lt:∀ {P w},Φ P w->∀ x,P x->w0.heap.size<=x/\x<w.heap.size
 be:∀ {P w},Φ P w->At w0.heap.size w0 w
 fs:∀ {P w},Φ P w->FsAt w bf p/\¬ P bf/\w0.heap.size<=bf
section
variable (w0:U) (d p:Aq) (kk bf:Nat) (l:List BC)
theorem G5:ClD w0 bf p (RestD w0 d p kk bf l):=
 ⟨fun h hc hf=>h.far hc hf,fun⟨X,N,O,F,sz,M,a,_⟩ x hx=>⟨a.pN x hx,a.inv.lt x hx⟩,fun⟨X,N,O,F,sz,M,a,_⟩=>a.be,fun⟨X,N,O,F,sz,M,a,_⟩=>⟨a.fs,a.nb,a.bN⟩⟩
theorem ZS:ClD w0 bf p (AbD w0 d p kk bf l):=
 ⟨fun h hc hf=>h.far hc hf,fun⟨X,N,O,F,sz,M,a,_⟩ x hx=>⟨a.pN x hx,a.inv.lt x hx⟩,fun⟨X,N,O,F,sz,M,a,_⟩=>a.be,fun⟨X,N,O,F,sz,M,a,_⟩=>⟨a.fs,a.nb,a.bN⟩⟩
theorem UJ:ClD w0 bf p (MidD w0 d p kk bf l):=
 ⟨fun h hc hf=>h.far hc hf,fun⟨X,N,O,F,_,_,_,sz,M,a,_⟩ x hx=>⟨a.pN x hx,a.inv.lt x hx⟩,fun⟨X,N,O,F,_,_,_,sz,M,a,_⟩=>a.be,fun⟨X,N,O,F,_,_,_,sz,M,a,_⟩=>⟨a.fs,a.nb,a.bN⟩⟩
theorem S8:ClD w0 bf p (StartD w0 d p kk bf l):=
 ⟨fun⟨X,N,O,F,sz,M,a,b,r⟩ hc hf=>⟨X,N,O,F,sz,M,a.far hc hf.hi hf.ap hf.nf,b.farM hc hf.ap hf.nf,r⟩,fun⟨X,N,O,F,sz,M,a,_⟩ x hx=>⟨a.pN x hx,a.inv.lt x hx⟩,fun⟨X,N,O,F,sz,M,a,_⟩=>a.be,fun⟨X,N,O,F,sz,M,a,_⟩=>⟨a.fs,a.nb,a.bN⟩⟩
theorem Jn(er:Int):ClD w0 bf p (CallD w0 d p kk bf er l):=by
 by_cases h0:er=0
 . refine⟨fun h hc hf=>⟨fun _=>(h.1 h0).far hc hf,fun hn=>absurd h0 hn,((h.1 h0).far hc hf).fs⟩,fun h=>(UJ w0 d p kk bf l).lt (h.1 h0),fun h=>(UJ w0 d p kk bf l).be (h.1 h0),fun h=>(UJ w0 d p kk bf l).fs (h.1 h0)⟩
 . refine⟨fun h hc hf=>⟨fun hn=>absurd hn h0,fun _=>(h.2.1 h0).far hc hf,((h.2.1 h0).far hc hf).fs⟩,fun h=>(ZS w0 d p kk bf l).lt (h.2.1 h0),fun h=>(ZS w0 d p kk bf l).be (h.2.1 h0),fun h=>(ZS w0 d p kk bf l).fs (h.2.1 h0)⟩
end
structure OwD (w0:U) (bf:Nat) (Φ:(Nat->Prop)->U->Prop) (P:Nat->Prop) (v:Aq) (l:List BC) (w:U):Prop where
 ph:Φ P w
 er:ER w w0.heap.size 30 v l
 ap:∀ g,v.ownBlock=R g->¬ P g/\g≠bf
section
variable {w0 w w':U}{bf:Nat}{p:Aq}{Φ Ψ:(Nat->Prop)->U->Prop}{P P':Nat->Prop}{v v':Aq}{l l':List BC}
theorem OwD.low(hc:ClD w0 bf p Φ)(h:OwD w0 bf Φ P v l w)(hb:At w.heap.size w w'):OwD w0 bf Φ P v l w':=
 ⟨hc.far h.ph (Chg.of_below (P:=fun _=>False) hb) ⟨fun x hx=>hx.elim,fun x _ hx=>hx,fun hx=>hx⟩,h.er.below hb,h.ap⟩
theorem OwD.fsy(h:OwD w0 bf Φ P v l w)(hp:Ψ P' w')(hc:Chg P P' w w'):OwD w0 bf Ψ P' v l w':=
 ⟨hp,h.er.keep fun g hg=>(hc.keep g (h.er.lo hg).2 (h.ap g hg).1).1,fun g hg=>⟨(hc.keep g (h.er.lo hg).2 (h.ap g hg).1).2,(h.ap g hg).2⟩⟩
theorem OwD.row(hcl:ClD w0 bf p Φ)(h:OwD w0 bf Φ P v l w)(he:ER w' w0.heap.size 30 v' l')(hr:RowC w v w' v'):OwD w0 bf Φ P v' l' w':=by
 refine⟨hcl.far h.ph hr.1 ⟨fun x hx=>(h.er.lo hx).1,fun x hp hx=>(h.ap x hx).1 hp,fun hx=>(h.ap bf hx).2 rfl⟩,he,fun g hg=>?_⟩;rcases hr.2 g hg with h1|h1
 . exact h.ap g h1
 . exact⟨fun hp=>by have:=(hcl.lt h.ph g hp).2;omega,fun e=>by have:=(Al.1 (hcl.fs h.ph).1).1;omega⟩
theorem OwD.be(hcl:ClD w0 bf p Φ)(h:OwD w0 bf Φ P v l w):At w0.heap.size w0 w:=hcl.be h.ph
theorem OwD.size(hcl:ClD w0 bf p Φ)(h:OwD w0 bf Φ P v l w):w0.heap.size<=w.heap.size:=(hcl.be h.ph).size
end
def vk(w0:U)(d p:Aq)(bf c:Nat)(v:Aq)(w:U):Prop:=∃ P l,OwD w0 bf (RestD w0 d p 2 bf l) P v l w/\Dst l/\l.length<=c
theorem kt(l:List BC)(x:BC):(addL l x).length<=l.length+1:=by unfold addL;split <;> simp
theorem ku(l:List BC)(x:BC):(setL l x).length=l.length:=by unfold setL;split <;> simp
theorem kA(l:List BC)(s:ByteArray):(rmvL l s).length<=l.length:=by unfold rmvL Wx;split <;> simp <;> omega
def sY(w:U)(v:Aq)(S:List (Int × BC)):Prop:=∃ ao cap,v=Ak ao S.length cap/\∀ j,j<S.length->∃ b off,ao=R ⟨b,off,G⟩/\∀ W,At w.heap.size w W->
 W.cell? ⟨b,off+j*3,G⟩=R (Y J (S.getD j default).1)/\W.cell? ⟨b,off+j*3+1,G⟩=R (Y J (S.getD j default).2.1)/\W.cell? ⟨b,off+j*3+2,G⟩=R (.string (S.getD j default).2.2)
theorem RdD.get'{w:U}{d p:Aq}{kk bf:Nat}{l:List BC}{P:Nat->Prop}(h:RdD d p kk bf l P w):AA I 37 #[Am (R ⟨bf,0,G⟩),Y J 1] w fun e w'=>∃ x:List Int,x.length=14/\num x 2=16*(l.length:Int)/\e=Ag (AO #[BD (iC x).toArray,Y J 0])/\At w.heap.size w w':=by
 obtain⟨X,N,O,F,sz,M,a,b,c,e⟩:=h;have hz:=b.zs;have JG:=e.f.zs;exact(GM a.inv a.fs a.tab (n:=1) (by decide) (by decide) (AM _ _)).mono fun e1 w' ⟨he,hb⟩=>⟨_,a.tab.n.get (j:=1) (by decide),by rw[hz];omega,he,hb⟩
theorem qo{w:U}{v:Aq}{l:List Int}(hv:BSl w v l){k:Nat}(hk:16*k+16<=l.length):∃ u,(∀ W,(Instr.slice 49 v (R (Y J (16*(k:Int)))) (R (Y J (16*(k:Int)+16))) G).run I W=.ok u W)/\∀ W,At w.heap.size w W->(convert 49 9 u).run I W=.ok (.string (strOfNums ((l.drop (16*k)).take 16))) W:=by
 obtain⟨b,off,cap,rfl,hc,_⟩:=hv.open' (by omega);refine⟨Ak (R ⟨b,off+16*k,G⟩) 16 (cap-16*k),fun W=>?_,fun W hW=>?_⟩
 . obtain⟨i,g2,g3,g4,g5⟩:=By F7
   have ee:I.elem 49=5:=(by kernel_rfl);have hs:(sizeOf 5).run I W=.ok 1 W:=(by simp[sizeOf,typeInfo,g2,g4]);rw[run_slice_lh W 49 _ l.length cap (by rw[ee];exact underlying49) J J (16*(k:Int)) (16*(k:Int)+16) (by omega) (by omega) (by omega),ee,hs];have hne:cap≠16*k:=(by omega);have e1:(16*(k:Int)+16).toNat-16*k=16:=(by omega);have e2:(16*(k:Int)).toNat=16*k:=(by omega);simp[sliced,hne,Cb,e1,e2]
 . exact G3 ((hv.below hW).mid (16*k) 16 hk)
theorem ZA{w0 w:U}{d p:Aq}{kk bf:Nat}{l:List BC}{P:Nat->Prop}(h:RestD w0 d p kk bf l P w)(hu:Dst l)(hl:l.length<=100){v:Aq}(hs:ESl w v l):
 AA I 19 #[Am (R ⟨bf,0,G⟩),v] w fun e w'=>e=Ag (A1 AL)/\At w.heap.size w w':=by
 obtain⟨ao,cl,rfl,FU⟩:=hs.open';have KG:=vJ h.rd.get';have KR:=vJ fun(V:U) (hb:At w.heap.size w V)=>(h.low hb).rd.read
 have KL:=vJ fun(V:U) (hb:At w.heap.size w V)=>(h.low hb).rd.list
 have KS:=vJ fun(V:U) (hb:At w.heap.size w V)=>W9 (hs.below hb) (by omega)
 have Qt:=h.rd.frm;have hbl:=DG Qt;obtain⟨n,hn⟩:=nm l.length;have HN:=vJ hn;rw[<- hn] at hl hbl KG KS |-
 have HBL:=vJ hbl;have HFR:=vJ Qt;have HU:=vJ hu;have HC:Hid (∀ (j:Nat),j<n->∃ b off x1 s1,ao=R ⟨b,off,G⟩/\(x1,s1)=l.getD j default/\∀ W,At w.heap.size w W->W.cell? ⟨b,off+j*2,G⟩=R (Y J x1)/\W.cell? ⟨b,off+j*2+1,G⟩=R (.string s1)):=vJ fun j hj=>by
  obtain⟨b,off,e,hlt,hc2⟩:=FU (by omega);obtain⟨a1,a2⟩:=hc2 j (by omega);refine⟨b,off,(l.getD j default).1,(l.getD j default).2,e,rfl,fun W hW=>⟨?_,?_⟩⟩
  . rw[hW.cell (p:=⟨b,off+j*2,G⟩) hlt];exact a1
  . rw[hW.cell (p:=⟨b,off+j*2+1,G⟩) hlt];exact a2
 have HI14:Hid ((I.info? 80).map (·.size)=R 14):=vJ (by kernel_rfl);clear FU hs hu Qt hbl h hn;go_enter func19,ntmps19
 go_wp2_with (first
  |(go_at_call 37;refine KG.out.mono ?_;rintro e w2 ⟨x,LF,Qb,rfl,hb2⟩;have HX14:=vJ LF;have HX2:=vJ Qb;have HB2:=vJ hb2;clear LF Qb hb2)
  |(go_at_call 38;refine(KR.out _ HB3.out).mono ?_;rintro e w4 ⟨vb,rfl,hv4,hb4⟩;obtain⟨bo,bc,rfl,_⟩:=hv4.shape;have c4:=(Bh (a:=⟨w2.heap.size,2,G⟩) (hb4.block _ HG3.out)).trans c3;have HV4:=vJ hv4;have HB4:=vJ (HB3.out.trans (hb4.mono HB3.out.size));obtain⟨L,hL⟩:=nm ((DW l).length);rw[<- hL] at HV4 |-;have hLz:(L:Int)=16*(n:Int):=(by have:=HBL.out;omega);clear hv4 hb4 hL)
  |(refine DA rfl 80 (.tmp 5) (.tmp 17) rfl w2.heap.size rfl x zeroI rfl (by rw[HX14.out];rfl) (by rw[HX14.out];exact HI14.out) 80 (Aw w2 _) ?_;intro w3 hw3 hr3;have c3:w3.cell? ⟨w2.heap.size,2,G⟩=R (Y J (16*(n:Int))):=(by
     have h2:=FN hr3 2 (Y J (x.getD 2 0)) (by rw[iC,List.getElem?_map,AS (by have:=HX14.out;omega),An,AS (by have:=HX14.out;omega)];rfl);have e2:x.getD 2 0=16*(n:Int):=HX2.out;rw[e2] at h2;exact h2);have HG3:Hid (w2.heap.size<w3.heap.size):=vJ (Al.1 hr3).1;have HB3:Hid (At w.heap.size w w3):=vJ (HB2.out.trans (((Ay w2 _).trans (hw3.below (AB _))).mono HB2.out.size));clear hw3 hr3))
 go_loopw [9,48] (fun _ i wr=>∃ k:Nat,k<=n/\i=Y J k/\Hid (At w4.heap.size w4 wr)) (fun _ i _=>n-(intOf i).toNat)
 case atStart=>exact⟨0,AX _,rfl,vJ (AM _ _)⟩
 case round=>
  obtain⟨k,hk,rfl,HB⟩:=hrel;have HBW:=vJ (HB4.out.trans (HB.out.mono HB4.out.size));by_cases hlt:k<n
  . have J6:(k:Int)<(n:Int):=by omega
    obtain⟨b,off,x1,s1,rfl,hx,hcc⟩:=HC.out k hlt;have hkl:k<l.length:=(by have:=HN.out;omega);have XW:l[k]=(x1,s1):=(by rw[hx,An,AS hkl];rfl);have hfe:C3 (x1,s1)=AL:=(by rw[<- XW];exact HFR.out _ (Bf hkl));obtain⟨u,hsl,Om⟩:=qo HV4.out (k:=k) (by have:=HBL.out;omega);rw[Le HFR.out hkl,XW] at Om;obtain⟨T,hT⟩:=nm (strOfNums (Db (x1,s1)));rw[<- hT] at Om;have HT:=vJ hT;have KSp:=vJ (OE x1 s1 hfe);have HSV:=vJ fun(V:U) (hV:At w4.heap.size w4 V)=>And.intro (Om V hV) (hcc V (HB4.out.trans (hV.mono HB4.out.size)))
    have HSW:=vJ (HSV.out _ (HB.out.drew));have hw1:J.wrap (16*(k:Int))=16*(k:Int):=A9 _ (by omega);have GN:J.wrap (16*(k:Int)+16)=16*(k:Int)+16:=A9 _ (by omega);clear hx hcc hkl XW hfe Om hT;go_wp2;refine wp_region_held_drew (S:=fun W=>(convert 49 9 u).run I W=.ok (.string T) W/\W.cell? ⟨b,off+k*2,G⟩=R (Y J x1)/\W.cell? ⟨b,off+k*2+1,G⟩=R (.string s1)) (by kernel_rfl) HSW.out (fun hHeld=>?_);refine Bt (i:=0) (v:=Ak bo L bc) rfl (by kernel_rfl) (by kernel_rfl) (by kernel_rfl) (fun _ _ _ h=>h) (AN ⟨by rfl,?_⟩) (by assumption) ?_
    . intro W EM;obtain⟨z1,z2,z3⟩:=EM;go_simp
    try simp only[C,Aj,A,Au,As,Ao]
    refine Bt (i:=1) (v:=Y J k) rfl (by kernel_rfl) (by kernel_rfl) (by kernel_rfl) (fun _ _ _ h=>h) (AN ⟨by rfl,?_⟩) (by assumption) ?_
    . intro W EM;obtain⟨z1,z2,z3⟩:=EM;go_simp
    try simp only[C,Aj,A,Au,As,Ao,Ap]
    refine Bt (i:=2) (v:=Y J (16*(k:Int))) rfl (by kernel_rfl) (by kernel_rfl) (by kernel_rfl) (fun _ _ _ h=>h) (AN ⟨by rfl,?_⟩) (by assumption) ?_
    . intro W EM;obtain⟨z1,z2,z3⟩:=EM;go_simp
    try simp only[C,Aj,A,Au,As,Ao,Ap]
    refine Bt (i:=3) (v:=Y J k) rfl (by kernel_rfl) (by kernel_rfl) (by kernel_rfl) (fun _ _ _ h=>h) (AN ⟨by rfl,?_⟩) (by assumption) ?_
    . intro W EM;obtain⟨z1,z2,z3⟩:=EM;go_simp
    try simp only[C,Aj,A,Au,As,Ao,Ap]
    refine Bt (i:=4) (v:=Y J (16*(k:Int))) rfl (by kernel_rfl) (by kernel_rfl) (by kernel_rfl) (fun _ _ _ h=>h) (AN ⟨by rfl,?_⟩) (by assumption) ?_
    . intro W EM;obtain⟨z1,z2,z3⟩:=EM;go_simp
    try simp only[C,Aj,A,Au,As,Ao,Ap]
    refine Bt (i:=5) (v:=Y J (16*(k:Int)+16)) rfl (by kernel_rfl) (by kernel_rfl) (by kernel_rfl) (fun _ _ _ h=>h) (AN ⟨by rfl,?_⟩) (by assumption) ?_
    . intro W EM;obtain⟨z1,z2,z3⟩:=EM;go_simp
    try simp only[C,Aj,A,Au,As,Ao,Ap]
    refine Bt (i:=6) (v:=u) rfl (by kernel_rfl) (by kernel_rfl) (by kernel_rfl) (fun _ _ _ h=>h) (AN ⟨by rfl,?_⟩) (by assumption) ?_
    . intro W EM;obtain⟨z1,z2,z3⟩:=EM;go_simp
    try simp only[C,Aj,A,Au,As,Ao,Ap]
    refine Bt (i:=7) (v:=.string T) rfl (by kernel_rfl) (by kernel_rfl) (by kernel_rfl) (fun _ _ _ h=>h) (AN ⟨by rfl,?_⟩) (by assumption) ?_
    . intro W EM;obtain⟨z1,z2,z3⟩:=EM;go_simp
    try simp only[C,Aj,A,Au,As,Ao,Ap]
    refine Bt (i:=8) (v:=Ak (R ⟨b,off,G⟩) n cl) rfl (by kernel_rfl) (by kernel_rfl) (by kernel_rfl) (fun _ _ _ h=>h) (AN ⟨by rfl,?_⟩) (by assumption) ?_
    . intro W EM;obtain⟨z1,z2,z3⟩:=EM;go_simp
    try simp only[C,Aj,A,Au,As,Ao,Ap]
    refine Bt (i:=9) (v:=Y J k) rfl (by kernel_rfl) (by kernel_rfl) (by kernel_rfl) (fun _ _ _ h=>h) (AN ⟨by rfl,?_⟩) (by assumption) ?_
    . intro W EM;obtain⟨z1,z2,z3⟩:=EM;go_simp
    try simp only[C,Aj,A,Au,As,Ao,Ap]
    refine Bt (i:=10) (v:=Am (R ⟨b,off+k*2,G⟩)) rfl (by kernel_rfl) (by kernel_rfl) (by kernel_rfl) (fun _ _ _ h=>h) (AN ⟨by rfl,?_⟩) (by assumption) ?_
    . intro W EM;obtain⟨z1,z2,z3⟩:=EM;go_simp
    try simp only[C,Aj,A,Au,As,Ao,Ap]
    refine Bt (i:=11) (v:=BD #[Y J x1,.string s1]) rfl (by kernel_rfl) (by kernel_rfl) (by kernel_rfl) (fun _ _ _ h=>h) (AN ⟨by rfl,?_⟩) (by assumption) ?_
    . intro W EM;obtain⟨z1,z2,z3⟩:=EM;go_simp
    try simp only[C,Aj,A,Au,As,Ao,Ap]
    refine wpAnyH_ready (rs:=[12]) (by kernel_rfl) (by simp) (EL rfl (fun K hK=>?_) AllReadyH.nil)
    go_simp
    go_at_call 39
    refine(KSp.out _).mono ?_;rintro e w12 ⟨v12,rfl,hob12,hb12⟩;have hv12:=G3 hob12.bsl;rw[<- HT.out] at hv12;have HB12:=vJ hb12;have HS12:=vJ (HSV.out _ ((HB.out.drew).trans (HB12.out.mono HB.out.size)));clear hob12 hb12 hHeld;refine hK.out _ _ HS12.out (fun hHeld=>?_);clear hK K
    try simp only[C,Aj,A,Au,As,Ao,Ap]
    clear hHeld;refine wpAnyH_ready (rs:=[13]) (by kernel_rfl) (by simp) (EL rfl (fun K hK=>?_) AllReadyH.nil)
    go_simp
    refine hK.out _ _ HS12.out (fun hHeld=>?_);clear hK K
    try simp only[C,Aj,A,Au,As,Ao,Ap]
    clear hHeld;refine wpAnyH_ready (rs:=[14]) (by kernel_rfl) (by simp) (EL rfl (fun K hK=>?_) AllReadyH.nil)
    go_simp
    refine hK.out _ _ HS12.out (fun hHeld=>?_);clear hK K
    try simp only[C,Aj,A,Au,As,Ao,Ap]
    refine wpAnyH_done (by kernel_rfl) ?_ _;go_wp2;go_roundw
    case rel=>exact⟨k+1,by omega,by go_num,vJ ((HB.out.drew).trans (HB12.out.mono HB.out.size))⟩
    case measure=>simp[intOf];omega
  . obtain rfl:k=n:=by omega
    go_wp2_with (first
     |(go_at_call 21;refine(KL.out _ HBW.out).mono ?_;rintro e w6 ⟨vl,Z,rfl,hp,ho,hz6,hb6⟩;have HZ:=vJ (HU.out.ord hp ho);have HZ6:=vJ hz6;have HB6:=vJ (HBW.out.trans (hb6.mono HBW.out.size));have HZN:=vJ (hp.length_eq.trans HN.out.symm);clear hp ho hz6)
     |(go_at_call 40;refine(KS.out _ HB6.out).mono ?_;rintro e w7 ⟨v7,rfl,her7,hb7⟩;rw[<- HZ.out] at her7;obtain⟨al,c9,rfl,hl9⟩:=(HZ6.out.below hb7).open';obtain⟨a7,c7,rfl,hl7⟩:=her7.sl.open';rw[HZN.out];have HL9:=vJ hl9;have HL7:=vJ hl7;rw[HZN.out] at HL9 HL7;have HB7:=vJ (HB6.out.trans (hb7.mono HB6.out.size));clear her7 hb7 hl9 hl7))
    go_loopw [13,85] (fun _ i wr=>∃ j:Nat,j<=k/\i=Y J j/\Hid (At w7.heap.size w7 wr)) (fun _ i _=>k-(intOf i).toNat)
    case atStart=>exact⟨0,AX _,rfl,vJ (AM _ _)⟩
    case round=>
     obtain⟨j,hj,rfl,HBJ⟩:=hrel;by_cases Od:j<k
     . have J6:(j:Int)<(k:Int):=by omega
       obtain⟨b1,o1,rfl,t1,f1⟩:=HL9.out (by omega);obtain⟨b2,o2,rfl,t2,f2⟩:=HL7.out (by omega);obtain⟨⟨x1,y1⟩,hx1⟩:∃ x,x=Z.getD j default:=⟨_,rfl⟩;have r1:=f1 j Od;have r2:=f2 j Od;rw[<- hx1] at r1 r2;obtain⟨c1,c2⟩:=r1;obtain⟨d1,d2⟩:=r2;have q1:=(HBJ.out.cell (p:=⟨b1,o1+j*2,G⟩) t1).trans c1;have q2:=(HBJ.out.cell (p:=⟨b1,o1+j*2+1,G⟩) t1).trans c2;have q3:=(HBJ.out.cell (p:=⟨b2,o2+j*2,G⟩) t2).trans d1;have q4:=(HBJ.out.cell (p:=⟨b2,o2+j*2+1,G⟩) t2).trans d2;clear f1 f2 hx1 c1 c2 d1 d2 t1 t2;go_wp2;go_quiet (fail)
       go_wp2;go_roundw
       case rel=>exact⟨j+1,by omega,by go_num,vJ (A2 HBJ.out _)⟩
       case measure=>simp[intOf];omega
     . obtain rfl:j=k:=by omega
       go_wp2;go_ret;exact⟨rfl,HB7.out.trans (HBJ.out.mono HB7.out.size)⟩
section
variable {w0 w:U}{d p:Aq}{bf c:Nat}{P:Nat->Prop}{v:Aq}{l:List BC}{er:Int}
theorem OwD.fin(h:OwD w0 bf (CallD w0 d p 2 bf er l) P v l w){b:Bool}(hb:b=decide (er=0)):AA I 18 #[p,A1 b] w fun e w'=>e=Ag (Y J 0)/\∃ P',OwD w0 bf (RestD w0 d p 2 bf l) P' v l w':=
 (h.ph.fin hb).mono fun e w' ⟨he,P',hr,hc⟩=>⟨he,P',h.fsy hr hc⟩
theorem OwD.whole(h:OwD w0 bf (RestD w0 d p 2 bf l) P v l w)(hd:Dst l)(hl:l.length<=c)(hc:c<=100):AA I 19 #[Am (R ⟨bf,0,G⟩),v] w fun e w'=>e=Ag (A1 AL)/\vk w0 d p bf c v w':=
 (ZA h.ph hd (by omega) h.er.sl).mono fun e w' ⟨he,hb⟩=>⟨he,P,l,h.low (G5 w0 d p 2 bf l) hb,hd,hl⟩
theorem OwD.ofCall(h:OwD w0 bf (StartD w0 d p 2 bf l) P v l w)(er:Int):OwD w0 bf (CallD w0 d p 2 bf er l) P v l w:=⟨h.ph.call er,h.er,h.ap⟩
end
theorem plays16_of{w:U}{v:Aq}{S:List (Int × BC)}(hs:sY w v S):AA I 3 #[v] w fun e w'=>e=Ag (A1 AL)/\At w.heap.size w w':=by
 have KA:=vJ Lx;have KM:=vJ fun(V:U) (hV:At w.heap.size w V)=>Vf (kk:=2) (by decide) (by decide) w hV
 rw[show(64*((2:Nat):Int))=128 from rfl] at KM;obtain⟨ao,cap,rfl,FU⟩:=hs;obtain⟨L,hL⟩:=nm S.length;rw[<- hL] at FU |-
 have HC:=vJ FU;clear FU hL;by_cases EJ:100<L
 . have hbz:(100:Int)<(L:Int):=by omega
   go_enter func3,ntmps3
   go_wp2_with (first
    |(go_at_call 6;(with_reducible refine(KA.out w).mono ?_);rintro e w2 ⟨rfl,hb2⟩)
    |(go_at_call 6;refine(KA.out _).mono ?_;rintro e w4 ⟨rfl,hb4⟩))
   go_ret;exact⟨rfl,hb2.trans (hb4.mono hb2.size)⟩
 . have hbz:¬ (100:Int)<(L:Int):=by omega
   go_enter func3,ntmps3
   go_wp2_with (first
    |(go_at_call 6;(with_reducible refine(KA.out w).mono ?_);rintro e w2 ⟨rfl,hb2⟩)
    |(go_at_call 8;refine(KM.out _ hb2).mono ?_;rintro e w3 ⟨b,rfl,hb3,KN⟩)
    |(go_at_call 7;refine KN.mono ?_;rintro e w4 ⟨bf,P4,d,rfl,hr4⟩))
   have H0:Hid (vk w d (Am (R ⟨b,0,G⟩)) bf 0 (Ak G 0 0) w4):=vJ ⟨P4,[],⟨hr4,UU _ _ _,fun g hg=>by cases hg⟩,List.Pairwise.nil,AB _⟩;clear KN hb3 hr4 KM KA hb2;go_loopw [4,25] (fun t4 t WI=>∃ (c:Nat) (z:Aq),z=t4/\c<=L/\t=Y J c/\Hid (vk w d (Am (R ⟨b,0,G⟩)) bf c z WI)) (fun _ t _=>L-(intOf t).toNat)
   case atStart=>exact⟨0,_,rfl,AX _,rfl,H0⟩
   case round=>
    obtain⟨c,z,rfl,hc,rfl,HS⟩:=hrel;clear H0;obtain⟨P,l,ho,hd,hl⟩:=HS.out;by_cases hcl:c<L
    . obtain⟨bs,off,rfl,hcc⟩:=HC.out c hcl
      have hclz:(c:Int)<(L:Int):=(by omega);have hbe:=ho.be (G5 _ _ _ _ _ _);obtain⟨y0,y1,y2⟩:=hcc wr hbe;generalize S.getD c default=o at*
      obtain⟨k,i,s⟩:=o;obtain⟨az,cz,rfl⟩:=ho.er.sl.shape;obtain⟨m,hm⟩:=nm l.length;rw[<- hm] at ho |-
      have HM:=vJ hm;have HO:=vJ ho;have HD:=vJ hd;have HL:=vJ hl;clear hcc hbe ho hd hl hm;go_upto_region 11 with(fail)
      obtain⟨w1,hw1⟩:=nm (wr.alloc (Ar #[Y J k,Y J i,.string s] 32));have hb1:At wr.heap.size wr w1:=(by rw[hw1];exact Ay _ _);have Vo:w1.heap[wr.heap.size]? =R (Ar #[Y J k,Y J i,.string s] 32 (0,0)):=(by rw[hw1];exact Aw _ _);rw[<- hw1];obtain⟨q,hq⟩:=nm wr.heap.size;rw[<- hq] at Vo |-
      have ho1:=HO.out.low (G5 _ _ _ _ _ _) hb1;have qc:¬ P q:=fun hp=>by have:=((G5 _ _ _ _ _ _).lt HO.out.ph q hp).2;omega
      have c1:=ho1.ph.fs.cell;have KB:Hid (AA I 9 #[Am (R ⟨b,0,G⟩)] w1 fun e w'=>e=Ag (Y J 0)/\∃ P',OwD w bf (StartD w d (Am (R ⟨b,0,G⟩)) 2 bf l) P' (Ak az m cz) l w'/\w'.heap[q]? =R (Ar #[Y J k,Y J i,.string s] 32 (0,0))/\¬ P' q):=vJ (ho1.ph.begin.mono fun e w' ⟨he,P',hs,hg⟩=>by
       have:=hg.keep q (Al.1 Vo).1 qc;exact⟨he,P',ho1.fsy hs hg,this.1.trans Vo,this.2⟩)
      have KE:Hid (∀ (er:Int) (l':List BC) (P':Nat->Prop) (v':Aq) (V:U) (b':Bool),OwD w bf (CallD w d (Am (R ⟨b,0,G⟩)) 2 bf er l') P' v' l' V->b'=decide (er=0)->AA I 18 #[Am (R ⟨b,0,G⟩),A1 b'] V fun e w'=>e=Ag (Y J 0)/\∃ P',OwD w bf (RestD w d (Am (R ⟨b,0,G⟩)) 2 bf l') P' v' l' w'):=vJ fun er l' P' v' V b' h hb'=>h.fin hb'
      have HLM:Hid (l.length<=c/\c<L/\L<=100):=vJ ⟨HL.out,hcl,by omega⟩;have KW:Hid (∀ (l':List BC) (P':Nat->Prop) (v':Aq) (V:U),Dst l'->l'.length<=c+1->OwD w bf (RestD w d (Am (R ⟨b,0,G⟩)) 2 bf l') P' v' l' V->AA I 19 #[Am (R ⟨bf,0,G⟩),v'] V fun e w'=>e=Ag (A1 AL)/\vk w d (Am (R ⟨b,0,G⟩)) bf (c+1) v' w'):=vJ fun l' P' v' V hd' hl' h=>h.whole hd' hl' (by have:=HLM.out;omega)
      clear hb1 Vo qc hq hw1 ho1;go_upto_region 22 with(go_at_call 9;refine KB.out.mono ?_;rintro e w3 ⟨rfl,P3,ho3,Qu,cV⟩;have c3:=ho3.ph.fs.cell;have z0:w3.cell? ⟨q,0,G⟩=R (Y J k):=(by rw[Az _ _ _ _ _ _ Qu];rfl);have z1:w3.cell? ⟨q,1,G⟩=R (Y J i):=(by rw[Az _ _ _ _ _ _ Qu];rfl);have z2:w3.cell? ⟨q,2,G⟩=R (.string s):=(by rw[Az _ _ _ _ _ _ Qu];rfl);have HO3:=vJ ho3;have HQ3:=vJ (And.intro Qu cV);clear ho3 Qu cV)
      clear y0 y1 y2 c1 HO HS KB HC;by_cases k1:k=1
      . subst k1
        have KO:Hid (AA I 10 #[Am (R ⟨bf,0,G⟩),Y J 1,BD #[Y J i,.string s]] w3 fun e w'=>e=Ag (Y J (GE l (i,s)))/\∃ P',OwD w bf (CallD w d (Am (R ⟨b,0,G⟩)) 2 bf (GE l (i,s)) (addL l (i,s))) P' (Ak az m cz) l w'/\w'.heap[q]? =R (Ar #[Y J 1,Y J i,.string s] 32 (0,0))):=vJ ((HO3.out.ph.add (by decide) (by decide) (by have:=HLM.out;omega) (i,s)).mono fun e w' ⟨he,P',hs,hg⟩=>⟨he,P',HO3.out.fsy hs hg,(hg.keep q (Al.1 HQ3.out.1).1 HQ3.out.2).1.trans HQ3.out.1⟩);have KL:Hid (∀ (V:U) (P':Nat->Prop),OwD w bf (CallD w d (Am (R ⟨b,0,G⟩)) 2 bf (GE l (i,s)) (addL l (i,s))) P' (Ak az m cz) l V->AA I 11 #[Ak az m cz,BD #[Y J i,.string s]] V fun e w'=>∃ v',e=Ag (AO #[v',Y J (GE l (i,s))])/\OwD w bf (CallD w d (Am (R ⟨b,0,G⟩)) 2 bf (GE l (i,s)) (addL l (i,s))) P' v' (addL l (i,s)) w'):=vJ fun V P' h=>(kI h.er (h.size (Jn _ _ _ _ _ _ _)) (by have:=HLM.out;omega) (i,s)).mono fun e w' ⟨v',he,hr,hg⟩=>⟨v',he,h.row (Jn _ _ _ _ _ _ _) hr hg⟩
        have HD':=vJ (HD.out.addL (i,s));have HN':Hid ((addL l (i,s)).length<=c+1):=vJ (by have:=kt l (i,s);have:=HLM.out;omega);obtain⟨er,cW⟩:=nm (GE l (i,s));obtain⟨l',hl'⟩:=nm (addL l (i,s));rw[<- cW,<- hl'] at KO KL;rw[<- hl'] at HD' HN';clear cW hl' HO3 HQ3
        go_wp2_with (first
         |(go_at_call 10;refine KO.out.mono ?_;rintro e w4 ⟨rfl,P4,ho4,Qc⟩;have x1:w4.cell? ⟨q,1,G⟩=R (Y J i):=(by rw[Az _ _ _ _ _ _ Qc];rfl);have x2:w4.cell? ⟨q,2,G⟩=R (.string s):=(by rw[Az _ _ _ _ _ _ Qc];rfl);have HO4:=vJ ho4;clear ho4 Qc)
         |(go_at_call 11;refine(KL.out _ _ HO4.out).mono ?_;rintro e w5 ⟨v',rfl,ho5⟩;have c5:=ho5.ph.2.2.cell;have HO5:=vJ ho5;clear ho5)
         |(go_at_call 18;refine(KE.out _ _ _ _ _ _ HO5.out (by first|rfl|simp)).mono ?_;rintro e w6 ⟨rfl,P6,Vx⟩;have HO6:=vJ Vx;clear Vx)
         |(go_at_call 19;refine(KW.out _ _ _ _ HD'.out HN'.out HO6.out).mono ?_;rintro e w7 ⟨rfl,h7⟩;have H7:=vJ h7;clear h7))
        go_roundw
        case rel=>exact⟨c+1,_,rfl,by omega,by go_num,H7⟩
        case measure=>simp[intOf];omega
      . have hk1:¬ k=1:=k1
        by_cases k2:k=2
        . subst k2
          have KO:Hid (AA I 12 #[Am (R ⟨bf,0,G⟩),Y J 1,BD #[Y J i,.string s]] w3 fun e w'=>e=Ag (Y J (Ja l (i,s)))/\∃ P',OwD w bf (CallD w d (Am (R ⟨b,0,G⟩)) 2 bf (Ja l (i,s)) (setL l (i,s))) P' (Ak az m cz) l w'/\w'.heap[q]? =R (Ar #[Y J 2,Y J i,.string s] 32 (0,0))):=vJ ((HO3.out.ph.set (by decide) (by decide) (by have:=HLM.out;omega) (i,s)).mono fun e w' ⟨he,P',hs,hg⟩=>⟨he,P',HO3.out.fsy hs hg,(hg.keep q (Al.1 HQ3.out.1).1 HQ3.out.2).1.trans HQ3.out.1⟩);have KL:Hid (∀ (V:U) (P':Nat->Prop),OwD w bf (CallD w d (Am (R ⟨b,0,G⟩)) 2 bf (Ja l (i,s)) (setL l (i,s))) P' (Ak az m cz) l V->AA I 13 #[Ak az m cz,BD #[Y J i,.string s]] V fun e w'=>∃ v',e=Ag (AO #[v',Y J (Ja l (i,s))])/\OwD w bf (CallD w d (Am (R ⟨b,0,G⟩)) 2 bf (Ja l (i,s)) (setL l (i,s))) P' v' (setL l (i,s)) w'):=vJ fun V P' h=>(iz h.er (h.size (Jn _ _ _ _ _ _ _)) (by have:=HLM.out;omega) (i,s)).mono fun e w' ⟨v',he,hr,hg⟩=>⟨v',he,h.row (Jn _ _ _ _ _ _ _) hr hg⟩
          have HD':=vJ (HD.out.setL (i,s));have HN':Hid ((setL l (i,s)).length<=c+1):=vJ (by have:=ku l (i,s);have:=HLM.out;omega);obtain⟨er,cW⟩:=nm (Ja l (i,s));obtain⟨l',hl'⟩:=nm (setL l (i,s));rw[<- cW,<- hl'] at KO KL;rw[<- hl'] at HD' HN';clear cW hl' HO3 HQ3
          go_wp2_with (first
           |(go_at_call 12;refine KO.out.mono ?_;rintro e w4 ⟨rfl,P4,ho4,Qc⟩;have x1:w4.cell? ⟨q,1,G⟩=R (Y J i):=(by rw[Az _ _ _ _ _ _ Qc];rfl);have x2:w4.cell? ⟨q,2,G⟩=R (.string s):=(by rw[Az _ _ _ _ _ _ Qc];rfl);have HO4:=vJ ho4;clear ho4 Qc)
           |(go_at_call 13;refine(KL.out _ _ HO4.out).mono ?_;rintro e w5 ⟨v',rfl,ho5⟩;have c5:=ho5.ph.2.2.cell;have HO5:=vJ ho5;clear ho5)
           |(go_at_call 18;refine(KE.out _ _ _ _ _ _ HO5.out (by first|rfl|simp)).mono ?_;rintro e w6 ⟨rfl,P6,Vx⟩;have HO6:=vJ Vx;clear Vx)
           |(go_at_call 19;refine(KW.out _ _ _ _ HD'.out HN'.out HO6.out).mono ?_;rintro e w7 ⟨rfl,h7⟩;have H7:=vJ h7;clear h7))
          go_roundw
          case rel=>exact⟨c+1,_,rfl,by omega,by go_num,H7⟩
          case measure=>simp[intOf];omega
        . by_cases k3:k=3
          . subst k3
            have KO:Hid (AA I 14 #[Am (R ⟨bf,0,G⟩),Y J 1,.string s] w3 fun e w'=>e=Ag (Y J (Lk l s))/\∃ P',OwD w bf (CallD w d (Am (R ⟨b,0,G⟩)) 2 bf (Lk l s) (rmvL l s)) P' (Ak az m cz) l w'/\w'.heap[q]? =R (Ar #[Y J 3,Y J i,.string s] 32 (0,0))):=vJ ((HO3.out.ph.rem (by decide) (by decide) (by have:=HLM.out;omega) s).mono fun e w' ⟨he,P',hs,hg⟩=>⟨he,P',HO3.out.fsy hs hg,(hg.keep q (Al.1 HQ3.out.1).1 HQ3.out.2).1.trans HQ3.out.1⟩);have KL:Hid (∀ (V:U) (P':Nat->Prop),OwD w bf (CallD w d (Am (R ⟨b,0,G⟩)) 2 bf (Lk l s) (rmvL l s)) P' (Ak az m cz) l V->AA I 15 #[Ak az m cz,.string s] V fun e w'=>∃ v',e=Ag (AO #[v',Y J (Lk l s)])/\OwD w bf (CallD w d (Am (R ⟨b,0,G⟩)) 2 bf (Lk l s) (rmvL l s)) P' v' (rmvL l s) w'):=vJ fun V P' h=>(Ws h.er (h.size (Jn _ _ _ _ _ _ _)) (by have:=HLM.out;omega) s).mono fun e w' ⟨v',he,hr,hg⟩=>⟨v',he,h.row (Jn _ _ _ _ _ _ _) hr hg⟩
            have HD':=vJ (HD.out.rmvL s);have HN':Hid ((rmvL l s).length<=c+1):=vJ (by have:=kA l s;have:=HLM.out;omega);obtain⟨er,cW⟩:=nm (Lk l s);obtain⟨l',hl'⟩:=nm (rmvL l s);rw[<- cW,<- hl'] at KO KL;rw[<- hl'] at HD' HN';clear cW hl' HO3 HQ3
            go_wp2_with (first
             |(go_at_call 14;refine KO.out.mono ?_;rintro e w4 ⟨rfl,P4,ho4,Qc⟩;have x1:w4.cell? ⟨q,1,G⟩=R (Y J i):=(by rw[Az _ _ _ _ _ _ Qc];rfl);have x2:w4.cell? ⟨q,2,G⟩=R (.string s):=(by rw[Az _ _ _ _ _ _ Qc];rfl);have HO4:=vJ ho4;clear ho4 Qc)
             |(go_at_call 15;refine(KL.out _ _ HO4.out).mono ?_;rintro e w5 ⟨v',rfl,ho5⟩;have c5:=ho5.ph.2.2.cell;have HO5:=vJ ho5;clear ho5)
             |(go_at_call 18;refine(KE.out _ _ _ _ _ _ HO5.out (by first|rfl|simp)).mono ?_;rintro e w6 ⟨rfl,P6,Vx⟩;have HO6:=vJ Vx;clear Vx)
             |(go_at_call 19;refine(KW.out _ _ _ _ HD'.out HN'.out HO6.out).mono ?_;rintro e w7 ⟨rfl,h7⟩;have H7:=vJ h7;clear h7))
            go_roundw
            case rel=>exact⟨c+1,_,rfl,by omega,by go_num,H7⟩
            case measure=>simp[intOf];omega
          . have XE:¬ k=2:=k2
            have hk3:¬ k=3:=k3;have HN':Hid (l.length<=c+1):=vJ (by have:=HLM.out;omega);have KI:Hid (∀ (V:U),OwD w bf (StartD w d (Am (R ⟨b,0,G⟩)) 2 bf l) P3 (Ak az m cz) l V->AA I 17 #[Ak az m cz,.string s] V fun e w'=>e=Ag (Y J (DU l s))/\V=w'):=vJ fun V h=>LO h.er.sl (by have:=HLM.out;omega) s
            have KF:=vJ (HO3.out.ph.rd.find s);by_cases hx:C4 l s<l.length
            . obtain⟨j,hj⟩:=nm (C4 l s)
              obtain⟨a,ha⟩:=nm ((l.getD j default).1);have e1:JR l s=0:=(by unfold JR;rw[AC hx]);have e2:K5 l s=a:=(by unfold K5;rw[AC hx,ha,hj]);have e3:DU l s=(j:Int):=(by unfold DU;rw[AC hx,hj]);obtain⟨g,cap',hv,_,hG⟩:=HO3.out.er.blk (by omega);obtain⟨rfl,hmm,rfl⟩:=A0 hv;have HG:=vJ hG;have HA:=vJ ha;have pO:j<m:=(by have:=HM.out;omega);have hjz:(j:Int)<(m:Int):=(by omega);rw[e1,e2] at KF;rw[e3] at KI;clear e1 e2 e3 hx hj hv hG ha hmm
              go_wp2_with (first
               |(go_at_call 16;refine KF.out.mono ?_;rintro e w4 ⟨rfl,hb4⟩;have HO4:=vJ (HO3.out.low (S8 _ _ _ _ _ _) hb4);have x2:w4.cell? ⟨q,2,G⟩=R (.string s):=(by rw[hb4.cell (p:=⟨q,2,G⟩) (Al.1 HQ3.out.1).1];exact z2);have f1:w4.cell? ⟨g,j*2,G⟩=R (Y J a):=(by rw[HA.out];exact((HG.out.below hb4).cells (by have:=HM.out;omega)).1);clear hb4)
               |(go_at_call 17;refine(KI.out _ HO4.out).mono ?_;rintro e w5 ⟨rfl,rfl⟩;have c5:=HO4.out.ph.fs.cell;have HO5:=vJ (HO4.out.ofCall 0))
               |(go_at_call 18;refine(KE.out _ _ _ _ _ _ HO5.out (by first|rfl|simp)).mono ?_;rintro e w6 ⟨rfl,P6,Vx⟩;have HO6:=vJ Vx;clear Vx)
               |(go_at_call 19;refine(KW.out _ _ _ _ HD.out HN'.out HO6.out).mono ?_;rintro e w7 ⟨rfl,h7⟩;have H7:=vJ h7;clear h7))
              go_roundw
              case rel=>exact⟨c+1,_,rfl,by omega,by go_num,H7⟩
              case measure=>simp[intOf];omega
            . have e1:JR l s=4:=by unfold JR;rw[AE hx]
              have e3:DU l s= -1:=(by unfold DU;rw[AE hx]);rw[e1] at KF;rw[e3] at KI;clear e1 e3 hx
              go_wp2_with (first
               |(go_at_call 16;refine KF.out.mono ?_;rintro e w4 ⟨rfl,hb4⟩;have HO4:=vJ (HO3.out.low (S8 _ _ _ _ _ _) hb4);have x2:w4.cell? ⟨q,2,G⟩=R (.string s):=(by rw[hb4.cell (p:=⟨q,2,G⟩) (Al.1 HQ3.out.1).1];exact z2);clear hb4)
               |(go_at_call 17;refine(KI.out _ HO4.out).mono ?_;rintro e w5 ⟨rfl,rfl⟩;have c5:=HO4.out.ph.fs.cell;have HO5:=vJ (HO4.out.ofCall 4))
               |(go_at_call 18;refine(KE.out _ _ _ _ _ _ HO5.out (by first|rfl|simp)).mono ?_;rintro e w6 ⟨rfl,P6,Vx⟩;have HO6:=vJ Vx;clear Vx)
               |(go_at_call 19;refine(KW.out _ _ _ _ HD.out HN'.out HO6.out).mono ?_;rintro e w7 ⟨rfl,h7⟩;have H7:=vJ h7;clear h7))
              go_roundw
              case rel=>exact⟨c+1,_,rfl,by omega,by go_num,H7⟩
              case measure=>simp[intOf];omega
    . obtain rfl:c=L:=by omega
      have KW:=vJ (ho.whole hd hl (by omega));clear ho hd hl;go_wp2_with (go_at_call 19;refine KW.out.mono ?_;rintro e w5 ⟨rfl,h5⟩)
      go_ret;obtain⟨P5,l5,ho5,_⟩:=h5;exact⟨rfl,ho5.be (G5 _ _ _ _ _ _)⟩
end
section
open Go.RowKit Go.ChangeShapes Go.WideShapes
theorem f_:I.cellsOf 32=3:=by kernel_rfl
section
variable {H:Type}{enc:TypeId × Aq->H}{W:U}{base:Nat}{spare:Nat->Bool}{JJ:Bool}
theorem Zl{cs:List Aq}{m:Nat}{y:DataW H × List MemPlace}(hl:cs.length=3)(ht:DataW.trod enc I W base spare JJ m 32 cs=R y):∃ o:Int × BC,cs=[.int J o.1,.int J o.2.1,.string o.2.2]:=by
 match cs,hl with
 |[c0,c1,c2],_=>
  obtain⟨xs,n,_,_,hlen,hxs,hf⟩:=DataW.trod_struct underlying32 ht
  match xs,hxs with
  |[y0,y1],_=>
   have g0:DataW.trod enc I W base spare JJ n 3 [c0]=R y0:=by
    have h0:DataW.trod enc I W base spare JJ n 3 (List.take (I.cellsOf 3) (List.drop 0 [c0,c1,c2]))=R y0:=hf 0 _ rfl;rw[LI] at h0;exact h0
   have g1:DataW.trod enc I W base spare JJ n 30 [c1,c2]=R y1:=by
    have h0:DataW.trod enc I W base spare JJ n 30 (List.take (I.cellsOf 30) (List.drop 1 [c0,c1,c2]))=R y1:=hf 1 _ rfl;rw[Ox] at h0;exact h0
   obtain⟨zs,n2,_,_,_,hzs,hf2⟩:=DataW.trod_struct underlying30 g1
   match zs,hzs with
   |[z0,z1],_=>
    have k0:DataW.trod enc I W base spare JJ n2 3 [c1]=R z0:=by
     have h0:DataW.trod enc I W base spare JJ n2 3 (List.take (I.cellsOf 3) (List.drop 0 [c1,c2]))=R z0:=hf2 0 _ rfl;rw[LI] at h0;exact h0
    have k1:DataW.trod enc I W base spare JJ n2 9 [c2]=R z1:=by
     have h0:DataW.trod enc I W base spare JJ n2 9 (List.take (I.cellsOf 9) (List.drop 1 [c1,c2]))=R z1:=hf2 1 _ rfl;rw[Ot] at h0;exact h0
    obtain⟨a,e0,_,_⟩:=DataW.trod_int underlying3 g0;obtain⟨b,e1,_,_⟩:=DataW.trod_int underlying3 k0;obtain⟨s,e2,_,_⟩:=DataW.trod_string underlying9 k1;simp only[List.cons.injEq,and_true] at e0 e1 e2;exact⟨(a,b,s),by rw[e0,e1,e2]⟩
theorem ops16_open{v:Aq}{d:DataW H}{p:List MemPlace}{r:Reach}{b0:Nat}(hv:Aq.okWide I W r b0 22 v)(h:DataW.Trod enc I W base spare JJ 22 v d p):∃ S,sY W v S:=by
 obtain⟨a0,len0,cap0,rfl⟩:=okWide_slice underlying22 hv;obtain⟨fuel,hf⟩:=h;rcases Go.Deep.open_slice underlying22 hf with⟨Hb,_⟩| ⟨a,len,cap,m,n,D,Pl,Hb,_,hl,hm,hmm,_,hi⟩
 . simp[Aq.cells] at Hb
   obtain⟨rfl,rfl,rfl⟩:=Hb;exact⟨[],G,0,rfl,fun j hj=>absurd hj (A8 j)⟩
 . simp[Aq.cells] at Hb
   obtain⟨rfl,rfl,rfl⟩:=Hb;have hlm:len0<=m:=by rw[hmm];split <;> omega
   have hex:∀ i,i<len0->∃ o:Int × BC,∀ (j:Nat) v,([.int J o.1,.int J o.2.1,.string o.2.2]:List Aq)[j]? =R v->W.cell? (a.add (i*3+j))=R v:=fun i Hc=>by
    obtain⟨cs',hc,ht⟩:=hi i (by omega);rw[f_] at hc;obtain⟨_,hcl,Ha⟩:=U.cells?_some hc;obtain⟨o,rfl⟩:=Zl hcl ht;refine⟨o,fun j v hj=>?_⟩;have oQ:j<3:=(Bj.1 hj).1;have:=Ha j oQ;rw[hj] at this;rw[<- Go.Deep.add_add];exact this
   obtain⟨f,hfn⟩:=Go.Deep.choose_lt hex;have lW:∀ i,i<len0->((Co len0).map f).getD i default=f i:=fun i ib=>by simp[ib]
   obtain⟨b,off,spot⟩:=a;refine⟨(Co len0).map f,R ⟨b,off,spot⟩,cap0,by simp,fun i Hc=>?_⟩;have Hc:i<len0:=by simpa using Hc
   have c0:=hfn i Hc 0 _ rfl;have c1:=hfn i Hc 1 _ rfl;have c2:=hfn i Hc 2 _ rfl;have z0:=hfn 0 (by omega) 0 _ rfl;have XD:spot=G:=by simpa [Addr.add] using U.cell?_spot z0
   clear z0;subst XD;simp only[Cb] at c0 c1 c2;have hlt:=block_lt_of_cell c0;rw[lW i Hc];refine⟨b,off,rfl,fun W' hW=>⟨?_,?_,?_⟩⟩
   . rw[hW.cell (p:=⟨b,off+i*3,G⟩) hlt];exact c0
   . rw[hW.cell (p:=⟨b,off+i*3+1,G⟩) hlt,D6];exact c1
   . rw[hW.cell (p:=⟨b,off+i*3+2,G⟩) hlt,D6];exact c2
end
end
end Go.Proofs.YtdefiimcmecnnaaGreat
