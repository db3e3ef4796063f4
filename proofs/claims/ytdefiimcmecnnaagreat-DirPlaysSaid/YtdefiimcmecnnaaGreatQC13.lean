/- What the law rests on. -/
import Derived.Deep.RegionWith
import Derived.Test.YtdefiimcmecnnaaGreatQC12
open Go.Value renaming int->H,slice->Ak,pointer->Am,tuple->AO,agg->BD
open Go.IntKind renaming i64->J
open Go.Proofs.Tryz renaming prog->Ae
open Option renaming none->G,some->U
open Go.Ending renaming returned->Ag
open Go renaming World->Ah,Calls->AA
open List renaming getElem_cons_zero->o,getElem_cons_succ->f,getElem_toArray->F,set_cons_succ->M,set_cons_zero->I,nil_append->B0,length_cons->Ch
open Go.RowKit renaming Below->At
open Bool renaming false->AI,true->AL
open Or renaming inl->AN,inr->Ba
open Go.Act renaming put->O
namespace Go.Proofs.YtdefiimcmecnnaaGreat
set_option maxHeartbeats 12000000
set_option linter.unusedVariables false
set_option maxRecDepth 100000
section
open Go.RowKit BM
def Eh(A P:List BC)(v:BC)(R:List BC)(q:Nat):List BC:=A ++ (P.take q ++ v :: (P.drop q ++ R))
theorem RL(A P:List BC)(v:BC)(R:List BC)(q:Nat):(Eh A P v R q).length=A.length+P.length+1+R.length:=by
 unfold Eh;simp;omega
theorem SV(A P:List BC)(v:BC)(R:List BC){t:Nat}(ht:t<P.length):Eh A P v R (t+1)=(A ++ P.take t) ++ P[t] :: v :: (P.drop (t+1) ++ R)/\Eh A P v R t=(A ++ P.take t) ++ v :: P[t] :: (P.drop (t+1) ++ R):=by
 unfold Eh;rw[Bn ht,Dq ht];simp only[AQ,List.cons_append,B0,and_self]
theorem S7(A P:List BC)(v:BC)(R:List BC){t i j:Nat}(ht:t<P.length)(hi:A.length+t=i)(hj:i+1=j):
 aX (Eh A P v R (t+1)) j i=Eh A P v R t/\(Eh A P v R (t+1)).getD j default=v/\(Eh A P v R (t+1)).getD i default=P[t]:=by
 obtain⟨e1,e2⟩:=SV A P v R ht;have hl:(A ++ P.take t).length=i:=by rw[Ax,AK];omega
 rw[j8 _ (by omega),e1,e2,<- hj];refine⟨Xy _ _ _ _ hl,?_,IM _ _ _ hl⟩;have:(A ++ P.take t) ++ P[t] :: v :: (P.drop (t+1) ++ R)=((A ++ P.take t) ++ [P[t]]) ++ v :: (P.drop (t+1) ++ R):=by simp only[AQ,List.cons_append,B0]
 rw[this];exact IM _ _ _ (by rw[Ax,hl];rfl)
def InsI(w0:Ah)(g C:Nat)(A P:List BC)(v:BC)(R:List BC)(q:Nat)(w:Ah):Prop:=RwE w g C (Eh A P v R q)/\(∀ y∈P.drop q,Ii v y)/\ChE g w0 w
def la(w0:Ah)(g C:Nat)(A X B:List BC)(p:Nat)(w:Ah):Prop:=∃ P,P.length=min p X.length/\P.Perm (X.take p)/\Ord P/\RwE w g C (A ++ (P ++ (X.drop p ++ B)))/\ChE g w0 w
theorem InsI.out{w0 w:Ah}{g C:Nat}{A X B P:List BC}{p q:Nat}(hp:p<X.length)(hP:P.Perm (X.take p))(hO:Ord P)(hl:P.length=p)(hq:q<=p)(h:InsI w0 g C A P X[p] (X.drop (p+1) ++ B) q w)(h2:∀ x∈P.take q,Ii x X[p]):la w0 g C A X B (p+1) w:=by
 refine⟨P.take q ++ X[p] :: P.drop q,?_,?_,RZ (by rw[Be];exact hO) h2 h.2.1,?_,h.2.2⟩
 . rw[Ax,Ch,AK,AU];omega
 . rw[Bn hp]
   refine List.perm_middle.trans ?_;rw[Be];exact(List.Perm.cons _ hP).trans (List.perm_append_singleton _ _).symm
 . have:=h.1
   unfold Eh at this;have e:A ++ ((P.take q ++ X[p] :: P.drop q) ++ (X.drop (p+1) ++ B))=A ++ (P.take q ++ X[p] :: (P.drop q ++ (X.drop (p+1) ++ B))):=(by simp);rw[e];exact this
theorem TE{w:Ah}{g C n cap:Nat}(A X B:List BC)(h:RwE w g C (A ++ (X ++ B))){a b:Nat}(ha:A.length=a)(hb:a+X.length=b)(hn:(A ++ (X ++ B)).length=n)(EJ:n<=1000000):
 AA Ae 129 #[Ak (U ⟨g,0,G⟩) n cap,H J a,H J b,Fy] w fun e w'=>e=Ag (AO #[])/\(∃ Z,Z.Perm X/\Ord Z/\RwE w' g C (A ++ (Z ++ B)))/\ChE g w w':=by
 obtain⟨x,hx⟩:∃ x,X.length=x:=⟨_,rfl⟩;have Sn:b<=n:=by rw[<- hn];simp only[Ax];omega
 have H0:Hid (la w g C A X B 1 w):=vJ ⟨X.take 1,by rw[AK],List.Perm.refl _,by
  cases X with
  |nil=>exact Ord.nil
  |cons v X=>exact Ord.one v,by rw[<- AQ (X.take 1),Be];exact h,Chg.refl _ _⟩
 have HX:=vJ hx;have HEND:Hid (∀ (p:Nat) (V:Ah),x<=p->la w g C A X B p V->(∃ Z,Z.Perm X/\Ord Z/\RwE V g C (A ++ (Z ++ B)))/\ChE g w V):=vJ fun p V hp ⟨P,h1,h2,h3,h4,h5⟩=>by
  rw[AV (by omega)] at h2;rw[BZ (by omega),B0] at h4;exact⟨⟨P,h2,h3,h4⟩,h5⟩
 have HN:Hid (a+x+B.length=n):=vJ (by rw[<- hn];simp only[Ax];omega);have HA:=vJ ha;clear h hn ha;obtain⟨b1,hb1⟩:=nm b;rw[hx] at hb;clear hx;go_enter Tryz.func129,Tryz.ntmps129;go_wp2;go_loopw [8] (fun s8 wr=>∃ p i:Nat,a+p=i/\1<=p/\(p<=x\/p=1)/\s8=H J i/\Hid (la w g C A X B p wr)) (fun s8 _=>b-(intOf s8).toNat)
 case atStart=>exact⟨1,a+1,rfl,AB _,Ba rfl,by go_num,H0⟩
 case round=>
  obtain⟨p,i,hpi,tW,hpx,rfl,HO⟩:=hrel;clear H0;by_cases hlt:i<b
  . have J6:(i:Int)<(b:Int):=by omega
    have hpx2:p<x:=(by omega);obtain⟨P,q1,q2,q3,q4,q5⟩:=HO.out;have hpX:p<X.length:=(by rw[HX.out];exact hpx2);have r9:P.length=p:=(by omega);obtain⟨R,hR⟩:=nm (X.drop (p+1) ++ B);obtain⟨v,hv⟩:=nm (X[p]);have HFIN:Hid (∀ (q:Nat) (V:Ah),q<=p->InsI w g C A P v R q V->(∀ y∈P.take q,Ii y v)->la w g C A X B (p+1) V):=vJ fun q V hq hi hy=>by
     rw[hv,hR] at hi;rw[hv] at hy;exact hi.out hpX q2 q3 r9 hq hy
    have HI0:Hid (InsI w g C A P v R p wr):=vJ ⟨by
     have e:Eh A P v R p=A ++ (P ++ (X.drop p ++ B)):=by
      unfold Eh;rw[AV (by omega),BZ (l:=P) (by omega),hv,hR,Dq hpX];simp only[List.cons_append,B0]
     rw[e];exact q4,fun y hy=>(by rw[BZ (by omega)] at hy;cases hy),q5⟩
    have HRL:Hid (A.length+P.length+1+R.length=n):=vJ (by
     have h1:=HN.out;have h2:=HA.out;have h3:=HX.out;rw[hR,Ax,AU];omega)
    have HPl:=vJ r9;have HOP:=vJ q3;clear q1 q2 q3 q4 q5 hpX r9 hR hv HO;go_wp2;go_loopw [9] (fun s9 wr=>∃ q j:Nat,a+q=j/\q<=p/\s9=H J j/\Hid (InsI w g C A P v R q wr)) (fun s9 _=>(intOf s9).toNat)
    case atStart=>exact⟨p,i,hpi,AB _,rfl,HI0⟩
    case round=>
     obtain⟨q,j,hqj,hqp,rfl,HI⟩:=hrel;clear HI0;by_cases pT:q=0
     . subst pT
       obtain rfl:j=a:=by omega
       have hjz:¬ (j:Int)<(j:Int):=(by omega);go_wp2;go_quiet (fail)
       go_wp2;go_roundw
       case rel=>exact⟨p+1,i+1,by omega,by omega,AN (by omega),by go_num,vJ (HFIN.out 0 _ hqp ⟨HI.out.1.below (A2 (AM _ _) _),HI.out.2.1,HI.out.2.2.trans (ChE.of_below (A2 (AM _ _) _))⟩ (fun y hy=>by rw[List.take_zero] at hy;cases hy))⟩
       case measure=>simp[intOf];omega
     . obtain⟨t,rfl⟩:∃ t,q=t+1:=⟨q-1,by omega⟩
       obtain⟨i1,hi1⟩:∃ i1,a+t=i1:=⟨_,rfl⟩;have cD:i1+1=j:=(by omega);have htP:t<P.length:=(by rw[HPl.out];omega);obtain⟨hs1,hs2,hs3⟩:=S7 A P v R htP (i:=i1) (j:=j) (by rw[HA.out];exact hi1) cD;have hlen:=RL A P v R (t+1);rw[HRL.out] at hlen;have hjn:j<n:=(by omega);have hin:i1<n:=(by omega);have hjnz:(j:Int)<(n:Int):=(by omega);have o6:(i1:Int)<(n:Int):=(by omega);have hajz:(a:Int)<(j:Int):=(by omega);have hj1:(j:Int)-1=(i1:Int):=(by omega);have hwj:J.wrap (j:Int)=(j:Int):=A9 _ (by omega);have rU:J.wrap (i1:Int)=(i1:Int):=A9 _ (by omega);have hwj1:J.wrap ((j:Int)-1)=(i1:Int):=(by rw[hj1];exact rU);have Om:=HI.out.1.cells (j:=j) (by omega);have oI:=HI.out.1.cells (j:=i1) (by omega);rw[hs2] at Om;rw[hs3] at oI;obtain⟨u,hu⟩:=nm (P[t]);rw[<- hu] at oI hs3;have HLT:=vJ HI.out.1.lt;have HCE:Hid (∀ W,At wr.heap.size wr W->(W.cell? ⟨g,j*2,G⟩=U (H J v.1)/\W.cell? ⟨g,j*2+1,G⟩=U (.string v.2))/\W.cell? ⟨g,i1*2,G⟩=U (H J u.1)/\W.cell? ⟨g,i1*2+1,G⟩=U (.string u.2)):=vJ fun W hb=>by
        rw[hb.cell (p:=⟨g,j*2,G⟩) HLT.out,hb.cell (p:=⟨g,j*2+1,G⟩) HLT.out,hb.cell (p:=⟨g,i1*2,G⟩) HLT.out,hb.cell (p:=⟨g,i1*2+1,G⟩) HLT.out];exact⟨Om,oI⟩
       have HUP:Hid (Ii v u->∀ y∈P.drop t,Ii v y):=vJ fun h y hy=>by
        rw[Dq htP,<- hu] at hy;rcases Cy.1 hy with rfl|hy
        . exact h
        . exact HI.out.2.1 y hy
       have HLO:Hid (Ii u v->∀ y∈P.take (t+1),Ii y v):=vJ fun h=>IQ HOP.out (by omega) (fun _=>by
        have e:P[t+1-1]'(by omega)=u:=(by rw[hu];rfl);rw[e];exact h)
       have HS1:=vJ hs1;have HGJ:=vJ hs2;have HGI:=vJ hs3;have HLN:=vJ hlen;obtain⟨c,hc⟩:=nm (WZ v u);have KL:Hid (∀ V,At wr.heap.size wr V->AA Ae 44 #[BD #[H J v.1,.string v.2],BD #[H J u.1,.string u.2]] V fun e w'=>e=Ag (H J c)/\At wr.heap.size wr w'):=vJ fun V hb=>(LQ v u V).mono fun e w' ⟨he,h2⟩=>⟨by rw[hc];exact he,hb.trans (h2.mono hb.size)⟩
       have HC:=vJ hc;obtain⟨x1,s1⟩:=v;obtain⟨x2,s2⟩:=u;have hbd:At wr.heap.size wr wr.drew:=(AM _ _).drew;obtain⟨⟨d1,d2⟩,d3,d4⟩:=HCE.out _ hbd;clear hs1 hs2 hs3 hlen Om oI hu hc htP;by_cases Ml:c<0
       . have hd:decide (c<0)=AL:=AF Ml
         go_wp2
         go_region_held3 (fun W=>W.cell? ⟨g,j*2,G⟩=U (H J x1)/\W.cell? ⟨g,j*2+1,G⟩=U (.string s1)/\W.cell? ⟨g,i1*2,G⟩=U (H J x2)/\W.cell? ⟨g,i1*2+1,G⟩=U (.string s2)) (first|exact⟨f1,f2,f3,f4⟩|exact⟨d1,d2,d3,d4⟩) (first
          |(go_at_call 44;(with_reducible refine(KL.out _ hbd).mono ?_);rintro e w3 ⟨rfl,hb3⟩;obtain⟨⟨f1,f2⟩,f3,f4⟩:=HCE.out _ hb3))
         go_wp2;have hb4:At wr.heap.size wr w3.drew:=hb3.drew;obtain⟨⟨c1,c2⟩,c3,c4⟩:=HCE.out _ hb4;have HRW:Hid (RwE w3.drew g C (Eh A P (x1,s1) R (t+1))):=vJ (HI.out.1.below hb4);have HII:Hid (j<(Eh A P (x1,s1) R (t+1)).length):=vJ (by rw[HLN.out];exact hjn);have HJ:Hid (i1<((Eh A P (x1,s1) R (t+1)).set j (x2,s2)).length):=vJ (by rw[AJ,HLN.out];exact hin);have HS:Hid (w3.drew.cell? ⟨g,j*2,G⟩=U (H J x1)/\w3.drew.cell? ⟨g,j*2+1,G⟩=U (.string s1)/\w3.drew.cell? ⟨g,i1*2,G⟩=U (H J x2)/\w3.drew.cell? ⟨g,i1*2+1,G⟩=U (.string s2)):=vJ ⟨c1,c2,c3,c4⟩;have HSW:Hid (Eh A P (x1,s1) R t=((Eh A P (x1,s1) R (t+1)).set j (x2,s2)).set i1 (x1,s1)):=vJ (by rw[<- HS1.out];unfold aX;rw[HGJ.out,HGI.out]);have HB4:=vJ hb4;clear f1 f2 f3 f4 d1 d2 d3 d4 c1 c2 c3 c4 hb3 hb4 hbd;refine wp_region_any (by kernel_rfl) ?_
         (try (change wpAny _ _ _ _ _ _ _ (Ah.drew _)))
         refine AW (i:=0) (v:=Ak (U ⟨g,0,G⟩) n cap) rfl (by kernel_rfl) (by kernel_rfl) (by kernel_rfl) (fun _ _ _ h=>h) (AN ⟨by rfl,?_⟩) ?_
         . intro W;go_simp
         (try simp only[O,Aj,I,M,F,o])
         refine AW (i:=1) (v:=H J j) rfl (by kernel_rfl) (by kernel_rfl) (by kernel_rfl) (fun _ _ _ h=>h) (AN ⟨by rfl,?_⟩) ?_
         . intro W;go_simp
         (try simp only[O,Aj,I,M,F,o,f])
         refine AW (i:=2) (v:=Ak (U ⟨g,0,G⟩) n cap) rfl (by kernel_rfl) (by kernel_rfl) (by kernel_rfl) (fun _ _ _ h=>h) (AN ⟨by rfl,?_⟩) ?_
         . intro W;go_simp
         (try simp only[O,Aj,I,M,F,o,f])
         refine AW (i:=3) (v:=H J j) rfl (by kernel_rfl) (by kernel_rfl) (by kernel_rfl) (fun _ _ _ h=>h) (AN ⟨by rfl,?_⟩) ?_
         . intro W;go_simp
         (try simp only[O,Aj,I,M,F,o,f])
         refine AW (i:=4) (v:=H J i1) rfl (by kernel_rfl) (by kernel_rfl) (by kernel_rfl) (fun _ _ _ h=>h) (AN ⟨by rfl,?_⟩) ?_
         . intro W;go_simp
         (try simp only[O,Aj,I,M,F,o,f])
         refine AW (i:=5) (v:=Ak (U ⟨g,0,G⟩) n cap) rfl (by kernel_rfl) (by kernel_rfl) (by kernel_rfl) (fun _ _ _ h=>h) (AN ⟨by rfl,?_⟩) ?_
         . intro W;go_simp
         (try simp only[O,Aj,I,M,F,o,f])
         refine AW (i:=6) (v:=H J j) rfl (by kernel_rfl) (by kernel_rfl) (by kernel_rfl) (fun _ _ _ h=>h) (AN ⟨by rfl,?_⟩) ?_
         . intro W;go_simp
         (try simp only[O,Aj,I,M,F,o,f])
         refine AW (i:=7) (v:=H J i1) rfl (by kernel_rfl) (by kernel_rfl) (by kernel_rfl) (fun _ _ _ h=>h) (AN ⟨by rfl,?_⟩) ?_
         . intro W;go_simp
         (try simp only[O,Aj,I,M,F,o,f])
         refine AW (i:=8) (v:=Am (U ⟨g,i1*2,G⟩)) rfl (by kernel_rfl) (by kernel_rfl) (by kernel_rfl) (fun _ _ _ h=>h) (AN ⟨by rfl,?_⟩) ?_
         . intro W;go_simp
         (try simp only[O,Aj,I,M,F,o,f])
         refine AW (i:=10) (v:=Ak (U ⟨g,0,G⟩) n cap) rfl (by kernel_rfl) (by kernel_rfl) (by kernel_rfl) (fun _ _ _ h=>h) (AN ⟨by rfl,?_⟩) ?_
         . intro W;go_simp
         (try simp only[O,Aj,I,M,F,o,f])
         refine AW (i:=11) (v:=H J j) rfl (by kernel_rfl) (by kernel_rfl) (by kernel_rfl) (fun _ _ _ h=>h) (AN ⟨by rfl,?_⟩) ?_
         . intro W;go_simp
         (try simp only[O,Aj,I,M,F,o,f])
         refine AW (i:=12) (v:=Am (U ⟨g,j*2,G⟩)) rfl (by kernel_rfl) (by kernel_rfl) (by kernel_rfl) (fun _ _ _ h=>h) (AN ⟨by rfl,?_⟩) ?_
         . intro W;go_simp
         (try simp only[O,Aj,I,M,F,o,f])
         refine Ej (S:=fun W=>W.cell? ⟨g,j*2,G⟩=U (H J x1)/\W.cell? ⟨g,j*2+1,G⟩=U (.string s1)/\W.cell? ⟨g,i1*2,G⟩=U (H J x2)/\W.cell? ⟨g,i1*2+1,G⟩=U (.string s2)) (m:=15) _ _ _ _ ?_;refine De (i:=9) (v:=BD #[H J x2,.string s2]) rfl rfl (by kernel_rfl) (by kernel_rfl) (by kernel_rfl) (by kernel_rfl) (by kernel_rfl) (fun _ _ _ h=>h) (AN ⟨by rfl,?_⟩) HS.out ?_
         . intro W EM;obtain⟨z1,z2,z3,z4⟩:=EM;go_simp
         (try simp only[O,Aj,I,M,F,o,f])
         refine De (i:=13) (v:=BD #[H J x1,.string s1]) rfl rfl (by kernel_rfl) (by kernel_rfl) (by kernel_rfl) (by kernel_rfl) (by kernel_rfl) (fun _ _ _ h=>h) (AN ⟨by rfl,?_⟩) HS.out ?_
         . intro W EM;obtain⟨z1,z2,z3,z4⟩:=EM;go_simp
         (try simp only[O,Aj,I,M,F,o,f])
         refine De (i:=14) (v:=Am (U ⟨g,j*2,G⟩)) rfl rfl (by kernel_rfl) (by kernel_rfl) (by kernel_rfl) (by kernel_rfl) (by kernel_rfl) (fun _ _ _ h=>h) (AN ⟨by rfl,?_⟩) HS.out ?_
         . intro W EM;go_simp
         (try simp only[O,Aj,I,M,F,o,f])
         refine BX (rs:=[15]) (by kernel_rfl) (by simp) (TillReady.cons rfl (fun K hK=>?_) TillReady.nil);refine DO (by rfl) (.tmp 51) (.tmp 46) (by rfl) g C j _ x2 s2 (by rfl) (by rfl) HRW.out HII.out ?_;intro w5 hw5 E3;have HR5:=vJ E3;have HW5:=vJ hw5;clear E3 hw5;refine hK.out _ _ (Cp (by kernel_rfl)) ?_;clear hK K
         (try simp only[O,F,o,f])
         refine BX (rs:=[16]) (by kernel_rfl) (by simp) (TillReady.cons rfl (fun K hK=>?_) TillReady.nil)
         go_simp
         refine hK.out _ _ (Cp (by kernel_rfl)) ?_;clear hK K
         (try simp only[O,Aj,I,M,F,o,f])
         refine BX (rs:=[17]) (by kernel_rfl) (by simp) (TillReady.cons rfl (fun K hK=>?_) TillReady.nil);refine DO (by rfl) (.tmp 52) (.tmp 50) (by rfl) g C i1 _ x1 s1 (by rfl) (by rfl) HR5.out HJ.out ?_;intro w6 hw6 hr6;have HR6:=vJ hr6;have HW6:=vJ hw6;clear hr6 hw6;refine hK.out _ _ (Cp (by kernel_rfl)) ?_;clear hK K
         (try simp only[O,F,o,f])
         refine Gd (by kernel_rfl) ?_ _;go_wp2;go_roundw
         case rel=>exact⟨t,i1,hi1,by omega,by go_num,vJ ⟨by rw[HSW.out];exact HR6.out,HUP.out (LN ((Kv _ _).1 (by rw[<- HC.out];exact Ml))),(HI.out.2.2.trans (ChE.of_below HB4.out)).trans ((Chg.of_wrote1 HW5.out).trans (Chg.of_wrote1 HW6.out))⟩⟩
         case measure=>simp[intOf];omega
       . have hd:decide (c<0)=AI:=AG Ml
         have HNG:=vJ Ml;go_wp2
         go_region_held3 (fun W=>W.cell? ⟨g,j*2,G⟩=U (H J x1)/\W.cell? ⟨g,j*2+1,G⟩=U (.string s1)/\W.cell? ⟨g,i1*2,G⟩=U (H J x2)/\W.cell? ⟨g,i1*2+1,G⟩=U (.string s2)) (first|exact⟨f1,f2,f3,f4⟩|exact⟨d1,d2,d3,d4⟩) (first
          |(go_at_call 44;(with_reducible refine(KL.out _ hbd).mono ?_);rintro e w3 ⟨rfl,hb3⟩;obtain⟨⟨f1,f2⟩,f3,f4⟩:=HCE.out _ hb3))
         go_wp2;go_roundw
         case rel=>exact⟨p+1,i+1,by omega,by omega,AN (by omega),by go_num,vJ (HFIN.out (t+1) _ hqp ⟨HI.out.1.below hb3,HI.out.2.1,HI.out.2.2.trans (ChE.of_below hb3)⟩ (HLO.out ((Qk _ _).1 (by have:=HC.out;omega))))⟩
         case measure=>simp[intOf];omega
  . have J6:¬ (i:Int)<(b:Int):=by omega
    have:=HEND.out p wr (by omega) HO.out;go_wp2
    go_end0
    exact⟨rfl,this⟩
theorem kg(A P:List BC)(v:BC)(R:List BC):Eh A P v R P.length=A ++ (P ++ ([v] ++ R)):=by
 unfold Eh;rw[B8,List.drop_length];rfl
theorem mm(A P:List BC)(v:BC)(R:List BC){t i j:Nat}(ht:t<P.length)(hi:A.length+t=i)(hj:i+1=j):
 aX (Eh A P v R t) i j=Eh A P v R (t+1)/\(Eh A P v R t).getD i default=v/\(Eh A P v R t).getD j default=P[t]:=by
 obtain⟨e1,e2⟩:=SV A P v R ht;have hl:(A ++ P.take t).length=i:=by rw[Ax,AK];omega
 rw[e1,e2,<- hj];refine⟨Xy _ _ _ _ hl,IM _ _ _ hl,?_⟩;have:(A ++ P.take t) ++ v :: P[t] :: (P.drop (t+1) ++ R)=((A ++ P.take t) ++ [v]) ++ P[t] :: (P.drop (t+1) ++ R):=by simp only[AQ,List.cons_append,B0]
 rw[this];exact IM _ _ _ (by rw[Ax,hl];rfl)
theorem Qe(A Y R:List BC){k i:Nat}(h:k<Y.length)(hi:A.length+k=i):(A ++ (Y ++ R)).getD i default=Y.getD k default:=by
 rw[An,BG (by omega),BT (by omega),An];congr 2;omega
theorem EY(Y:List BC){k:Nat}(h:k<Y.length):Y.getD k default=Y[k]:=by rw[An,AS h];rfl
def SrcL(Y:List BC)(v:BC)(i j:Nat):Prop:=i<=j/\j<=Y.length/\(0<i->Ii (Y.getD (i-1) default) v)/\(j<Y.length->Ii v (Y.getD j default))
theorem SrcL.mrg{Y:List BC}{v:BC}{i:Nat}(h:SrcL Y v i i)(hY:Ord Y):MrgP [v] Y (Y.take i ++ v :: Y.drop i):=by
 obtain⟨_,h2,h3,h4⟩:=h;refine mv hY h2 (fun h0=>?_) (fun h0=>?_)
 . have:=h3 h0;rwa [EY _ (by omega)] at this
 . have:=h4 h0;rwa [EY _ h0] at this
theorem SrcL.up{Y:List BC}{v:BC}{i j k:Nat}(h:SrcL Y v i j)(h1:i<=k)(h2:k<j)(hk:Ii (Y.getD k default) v):SrcL Y v (k+1) j:=⟨by omega,h.2.1,fun _=>hk,h.2.2.2⟩
theorem SrcL.dn{Y:List BC}{v:BC}{i j k:Nat}(h:SrcL Y v i j)(h1:i<=k)(h2:k<j)(hk:Ii v (Y.getD k default)):SrcL Y v i k:=⟨h1,by have:=h.2.1;omega,h.2.2.1,fun _=>hk⟩
theorem Jz{w:Ah}{g C:Nat}{D:List BC}(h:RwE w g C D){i j:Nat}(hi:i<D.length)(hj:j<D.length){u v:BC}(hu:D.getD i default=u)(hv:D.getD j default=v):
 ∀ W,At w.heap.size w W->(W.cell? ⟨g,i*2,G⟩=U (H J u.1)/\W.cell? ⟨g,i*2+1,G⟩=U (.string u.2))/\W.cell? ⟨g,j*2,G⟩=U (H J v.1)/\W.cell? ⟨g,j*2+1,G⟩=U (.string v.2):=fun W hb=>by
 have h':=h.below hb;have a:=h'.cells hi;have b:=h'.cells hj;rw[hu] at a;rw[hv] at b;exact⟨a,b⟩
theorem VY{w:Ah}{g C n cap:Nat}(A:List BC)(v:BC)(Y B:List BC)(hY:Ord Y)(h:RwE w g C (A ++ ([v] ++ (Y ++ B)))){a m b:Nat}(ha:A.length=a)(hm:a+1=m)(hb:m+Y.length=b)(hn:(A ++ ([v] ++ (Y ++ B))).length=n)(EJ:n<=1000000):
 AA Ae 130 #[Ak (U ⟨g,0,G⟩) n cap,H J a,H J m,H J b,Fy] w fun e w'=>e=Ag (AO #[])/\(∃ Z,MrgP [v] Y Z/\RwE w' g C (A ++ (Z ++ B)))/\ChE g w w':=by
 obtain⟨y,hy⟩:∃ y,Y.length=y:=⟨_,rfl⟩;have Sn:b<=n:=by rw[<- hn];simp only[Ax,Ch,List.length_nil];omega
 have uL:(m:Int)-(a:Int)=1:=by omega
 have HV:Hid ((A ++ ([v] ++ (Y ++ B))).getD a default=v):=vJ (IM A v (Y ++ B) ha);have HYD:Hid (∀ k i,k<y->m+k=i->(A ++ ([v] ++ (Y ++ B))).getD i default=Y.getD k default):=vJ fun k i hk hi=>by
  have e:A ++ ([v] ++ (Y ++ B))=(A ++ [v]) ++ (Y ++ B):=by simp only[AQ]
  rw[e];exact Qe _ _ _ (by omega) (by rw[Ax,List.length_singleton];omega)
 have HR:=vJ h;have HN:=vJ hn;have HYL:=vJ hy;have HA:=vJ ha;have HO:=vJ hY;have H0:Hid (SrcL Y v 0 y):=vJ ⟨AX _,by omega,fun h=>by omega,fun h=>by omega⟩;have hbm:b=m+y:=by omega
 have HBM:=vJ hbm;have HMA:=vJ hm;have han:a<n:=by omega
 have hanz:(a:Int)<(n:Int):=by omega
 have hmb:m<=b:=by omega
 clear h hn hy hY ha hb hbm hm;go_enter Tryz.func130,Tryz.ntmps130;go_wp2;go_loopw [10,11] (fun s10 s11 wr=>∃ i j p q:Nat,m+i=p/\m+j=q/\p<=q/\q<=b/\s10=H J p/\s11=H J q/\Hid (SrcL Y v i j)/\Hid (At w.heap.size w wr)) (fun s10 s11 _=>(intOf s11).toNat-(intOf s10).toNat)
 case atStart=>exact⟨0,y,m,b,rfl,HBM.out.symm,hmb,AB _,rfl,rfl,H0,vJ (AM _ _)⟩
 case round=>
  obtain⟨i,j,p,q,hip,hjq,hpq,hqb,rfl,rfl,HS,HB⟩:=hrel;by_cases hlt:p<q
  . obtain⟨t,ht⟩:=nm (p+q)
    obtain⟨k,hk⟩:=nm (t / 2);have J6:(p:Int)<(q:Int):=(by omega);have htz:(p:Int)+(q:Int)=(t:Int):=(by omega);have hwt:J.wrap (t:Int)=(t:Int):=A9 _ (by omega);have hut:IntKind.u64.wrap (t:Int)=(t:Int):=Dh _ (by omega);have sW:(t:Int) / 2=(k:Int):=(by omega);have aA:p<=k:=(by omega);have hkq:k<q:=(by omega);have XV:k<n:=(by omega);have r_:(k:Int)<(n:Int):=(by omega);clear ht hk;obtain⟨r,hr⟩:∃ r,m+r=k:=⟨k-m,by omega⟩;have hry:r<y:=(by have:=HBM.out;omega);have uT:r<j:=(by omega);have hir:i<=r:=(by omega);obtain⟨u,hu⟩:=nm (Y.getD r default);have HCE:=vJ (Jz (HR.out.below HB.out) (i:=k) (j:=a) (by rw[HN.out];exact XV) (by rw[HN.out];exact han) (u:=u) (v:=v) (by rw[HYD.out r k hry hr,hu]) HV.out);have HUP:Hid (JK u.2 v.2->SrcL Y v (r+1) j):=vJ fun h=>HS.out.up hir uT (by rw[<- hu];exact LN h)
    have HDN:Hid (Ii v u->SrcL Y v i r):=vJ fun h=>HS.out.dn hir uT (by rw[<- hu];exact h)
    obtain⟨c,hc⟩:=nm (WZ u v);have KL:Hid (∀ V,At wr.heap.size wr V->AA Ae 44 #[BD #[H J u.1,.string u.2],BD #[H J v.1,.string v.2]] V fun e w'=>e=Ag (H J c)/\At wr.heap.size wr w'):=vJ fun V hb=>(LQ u v V).mono fun e w' ⟨he,h2⟩=>⟨by rw[hc];exact he,hb.trans (h2.mono hb.size)⟩
    have HC:=vJ hc;have hbd:At wr.heap.size wr wr.drew:=(AM _ _).drew;clear hu hc;obtain⟨x1,s1⟩:=u;obtain⟨x2,s2⟩:=v;obtain⟨⟨d1,d2⟩,d3,d4⟩:=HCE.out _ hbd;by_cases Ml:c<0
    . have hd:decide (c<0)=AL:=AF Ml
      go_wp2
      go_region_held3 (fun W=>W.cell? ⟨g,k*2,G⟩=U (H J x1)/\W.cell? ⟨g,k*2+1,G⟩=U (.string s1)/\W.cell? ⟨g,a*2,G⟩=U (H J x2)/\W.cell? ⟨g,a*2+1,G⟩=U (.string s2)) (first|exact⟨f1,f2,f3,f4⟩|exact⟨d1,d2,d3,d4⟩) (first
       |(go_at_call 44;(with_reducible refine(KL.out _ hbd).mono ?_);rintro e w3 ⟨rfl,hb3⟩;obtain⟨⟨f1,f2⟩,f3,f4⟩:=HCE.out _ hb3))
      go_wp2;go_roundw
      case rel=>exact⟨r+1,j,k+1,q,by omega,hjq,by omega,hqb,by go_num,rfl,vJ (HUP.out ((Kv _ _).1 (by rw[<- HC.out];exact Ml))),vJ (HB.out.trans (hb3.mono HB.out.size))⟩
      case measure=>simp[intOf];omega
    . have hd:decide (c<0)=AI:=AG Ml
      go_wp2
      go_region_held3 (fun W=>W.cell? ⟨g,k*2,G⟩=U (H J x1)/\W.cell? ⟨g,k*2+1,G⟩=U (.string s1)/\W.cell? ⟨g,a*2,G⟩=U (H J x2)/\W.cell? ⟨g,a*2+1,G⟩=U (.string s2)) (first|exact⟨f1,f2,f3,f4⟩|exact⟨d1,d2,d3,d4⟩) (first
       |(go_at_call 44;(with_reducible refine(KL.out _ hbd).mono ?_);rintro e w3 ⟨rfl,hb3⟩;obtain⟨⟨f1,f2⟩,f3,f4⟩:=HCE.out _ hb3))
      go_wp2;go_roundw
      case rel=>exact⟨i,r,p,k,hip,hr,aA,by omega,rfl,rfl,vJ (HDN.out ((Qk _ _).1 (by have:=HC.out;omega))),vJ (HB.out.trans (hb3.mono HB.out.size))⟩
      case measure=>simp[intOf];omega
  . obtain rfl:p=q:=by omega
    obtain rfl:i=j:=by omega
    have hiy:i<=y:=(by have:=HBM.out;omega);obtain⟨p1,tW⟩:∃ p1,p1+1=p:=⟨p-1,by have:=HMA.out;omega⟩;have hp1z:(p:Int)-1=(p1:Int):=(by omega);have hp1a:a+i=p1:=(by have:=HMA.out;omega);have HMR:Hid (MrgP [v] Y (Y.take i ++ v :: Y.drop i)):=vJ (HS.out.mrg HO.out);have HI0:Hid (RwE wr g C (Eh A Y v B 0)/\ChE g w wr):=vJ ⟨HR.out.below HB.out,ChE.of_below HB.out⟩;have HLN:Hid (∀ t,(Eh A Y v B t).length=n):=vJ fun t=>by rw[RL,<- HN.out];simp only[Ax,Ch,List.length_nil];omega
    go_wp2;go_loopw [13] (fun s13 wr=>∃ t k:Nat,a+t=k/\t<=i/\s13=H J k/\Hid (RwE wr g C (Eh A Y v B t)/\ChE g w wr)) (fun s13 _=>b-(intOf s13).toNat)
    case atStart=>exact⟨0,a,rfl,AX _,rfl,HI0⟩
    case round=>
     obtain⟨t,k,XJ,hti,rfl,HI⟩:=hrel;clear HI0;by_cases Od:t<i
     . obtain⟨k1,hk1⟩:∃ k1,k+1=k1:=⟨_,rfl⟩
       have htY:t<Y.length:=(by have:=HYL.out;omega);obtain⟨hs1,hs2,hs3⟩:=mm A Y v B htY (i:=k) (j:=k1) (by rw[HA.out];exact XJ) hk1;have J6:(k:Int)<(p1:Int):=(by omega);have XV:k<n:=(by omega);have r_:(k:Int)<(n:Int):=(by omega);have lV:k1<n:=(by omega);have uU:(k1:Int)<(n:Int):=(by omega);have sa:(k:Int)+1=(k1:Int):=(by omega);have hwk:J.wrap (k:Int)=(k:Int):=A9 _ (by omega);have sd:J.wrap (k1:Int)=(k1:Int):=A9 _ (by omega);have hwk2:J.wrap ((k:Int)+1)=(k1:Int):=(by rw[sa];exact sd);obtain⟨u,hu⟩:=nm (Y[t]);rw[<- hu] at hs3;have HCE:=vJ (Jz HI.out.1 (i:=k) (j:=k1) (by rw[HLN.out];exact XV) (by rw[HLN.out];exact lV) hs2 hs3);have hb4:At wr.heap.size wr wr.drew:=(AM _ _).drew;have lU:Eh A Y v B (t+1)=((Eh A Y v B t).set k u).set k1 v:=(by rw[<- hs1];unfold aX;rw[hs2,hs3]);have se:t+1<=i:=(by omega);have sg:a+(t+1)=k1:=(by omega);clear hs1 hs2 hs3 hu htY XJ hk1;obtain⟨x1,s1⟩:=v;obtain⟨x2,s2⟩:=u;have HRW:Hid (RwE wr.drew g C (Eh A Y (x1,s1) B t)):=vJ (HI.out.1.below hb4);have HII:Hid (k<(Eh A Y (x1,s1) B t).length):=vJ (by rw[HLN.out];exact XV);have HJ:Hid (k1<((Eh A Y (x1,s1) B t).set k (x2,s2)).length):=vJ (by rw[AJ,HLN.out];exact lV);obtain⟨⟨c1,c2⟩,c3,c4⟩:=HCE.out _ hb4;have HS4:Hid (wr.drew.cell? ⟨g,k*2,G⟩=U (H J x1)/\wr.drew.cell? ⟨g,k*2+1,G⟩=U (.string s1)/\wr.drew.cell? ⟨g,k1*2,G⟩=U (H J x2)/\wr.drew.cell? ⟨g,k1*2+1,G⟩=U (.string s2)):=vJ ⟨c1,c2,c3,c4⟩;have HSW:=vJ lU;have HB4:=vJ hb4;clear c1 c2 c3 c4 hb4 lU;go_wp2;refine wp_region_any (by kernel_rfl) ?_
       (try (change wpAny _ _ _ _ _ _ _ (Ah.drew _)))
       refine AW (i:=0) (v:=Ak (U ⟨g,0,G⟩) n cap) rfl (by kernel_rfl) (by kernel_rfl) (by kernel_rfl) (fun _ _ _ h=>h) (AN ⟨by rfl,?_⟩) ?_
       . intro W;go_simp
       (try simp only[O,Aj,I,M,F,o])
       refine AW (i:=1) (v:=H J k) rfl (by kernel_rfl) (by kernel_rfl) (by kernel_rfl) (fun _ _ _ h=>h) (AN ⟨by rfl,?_⟩) ?_
       . intro W;go_simp
       (try simp only[O,Aj,I,M,F,o,f])
       refine AW (i:=2) (v:=Ak (U ⟨g,0,G⟩) n cap) rfl (by kernel_rfl) (by kernel_rfl) (by kernel_rfl) (fun _ _ _ h=>h) (AN ⟨by rfl,?_⟩) ?_
       . intro W;go_simp
       (try simp only[O,Aj,I,M,F,o,f])
       refine AW (i:=3) (v:=H J k) rfl (by kernel_rfl) (by kernel_rfl) (by kernel_rfl) (fun _ _ _ h=>h) (AN ⟨by rfl,?_⟩) ?_
       . intro W;go_simp
       (try simp only[O,Aj,I,M,F,o,f])
       refine AW (i:=4) (v:=H J k1) rfl (by kernel_rfl) (by kernel_rfl) (by kernel_rfl) (fun _ _ _ h=>h) (AN ⟨by rfl,?_⟩) ?_
       . intro W;go_simp
       (try simp only[O,Aj,I,M,F,o,f])
       refine AW (i:=5) (v:=Ak (U ⟨g,0,G⟩) n cap) rfl (by kernel_rfl) (by kernel_rfl) (by kernel_rfl) (fun _ _ _ h=>h) (AN ⟨by rfl,?_⟩) ?_
       . intro W;go_simp
       (try simp only[O,Aj,I,M,F,o,f])
       refine AW (i:=6) (v:=H J k) rfl (by kernel_rfl) (by kernel_rfl) (by kernel_rfl) (fun _ _ _ h=>h) (AN ⟨by rfl,?_⟩) ?_
       . intro W;go_simp
       (try simp only[O,Aj,I,M,F,o,f])
       refine AW (i:=7) (v:=H J k1) rfl (by kernel_rfl) (by kernel_rfl) (by kernel_rfl) (fun _ _ _ h=>h) (AN ⟨by rfl,?_⟩) ?_
       . intro W;go_simp
       (try simp only[O,Aj,I,M,F,o,f])
       refine AW (i:=8) (v:=Am (U ⟨g,k1*2,G⟩)) rfl (by kernel_rfl) (by kernel_rfl) (by kernel_rfl) (fun _ _ _ h=>h) (AN ⟨by rfl,?_⟩) ?_
       . intro W;go_simp
       (try simp only[O,Aj,I,M,F,o,f])
       refine AW (i:=10) (v:=Ak (U ⟨g,0,G⟩) n cap) rfl (by kernel_rfl) (by kernel_rfl) (by kernel_rfl) (fun _ _ _ h=>h) (AN ⟨by rfl,?_⟩) ?_
       . intro W;go_simp
       (try simp only[O,Aj,I,M,F,o,f])
       refine AW (i:=11) (v:=H J k) rfl (by kernel_rfl) (by kernel_rfl) (by kernel_rfl) (fun _ _ _ h=>h) (AN ⟨by rfl,?_⟩) ?_
       . intro W;go_simp
       (try simp only[O,Aj,I,M,F,o,f])
       refine AW (i:=12) (v:=Am (U ⟨g,k*2,G⟩)) rfl (by kernel_rfl) (by kernel_rfl) (by kernel_rfl) (fun _ _ _ h=>h) (AN ⟨by rfl,?_⟩) ?_
       . intro W;go_simp
       (try simp only[O,Aj,I,M,F,o,f])
       refine Ej (S:=fun W=>W.cell? ⟨g,k*2,G⟩=U (H J x1)/\W.cell? ⟨g,k*2+1,G⟩=U (.string s1)/\W.cell? ⟨g,k1*2,G⟩=U (H J x2)/\W.cell? ⟨g,k1*2+1,G⟩=U (.string s2)) (m:=15) _ _ _ _ ?_;refine De (i:=9) (v:=BD #[H J x2,.string s2]) rfl rfl (by kernel_rfl) (by kernel_rfl) (by kernel_rfl) (by kernel_rfl) (by kernel_rfl) (fun _ _ _ h=>h) (AN ⟨by rfl,?_⟩) HS4.out ?_
       . intro W EM;obtain⟨z1,z2,z3,z4⟩:=EM;go_simp
       (try simp only[O,Aj,I,M,F,o,f])
       refine De (i:=13) (v:=BD #[H J x1,.string s1]) rfl rfl (by kernel_rfl) (by kernel_rfl) (by kernel_rfl) (by kernel_rfl) (by kernel_rfl) (fun _ _ _ h=>h) (AN ⟨by rfl,?_⟩) HS4.out ?_
       . intro W EM;obtain⟨z1,z2,z3,z4⟩:=EM;go_simp
       (try simp only[O,Aj,I,M,F,o,f])
       refine De (i:=14) (v:=Am (U ⟨g,k*2,G⟩)) rfl rfl (by kernel_rfl) (by kernel_rfl) (by kernel_rfl) (by kernel_rfl) (by kernel_rfl) (fun _ _ _ h=>h) (AN ⟨by rfl,?_⟩) HS4.out ?_
       . intro W EM;go_simp
       (try simp only[O,Aj,I,M,F,o,f])
       refine BX (rs:=[15]) (by kernel_rfl) (by simp) (TillReady.cons rfl (fun K hK=>?_) TillReady.nil);refine DO (by rfl) (.tmp 75) (.tmp 70) (by rfl) g C k _ x2 s2 (by rfl) (by rfl) HRW.out HII.out ?_;intro w5 hw5 E3;have HR5:=vJ E3;have HW5:=vJ hw5;clear E3 hw5;refine hK.out _ _ (Cp (by kernel_rfl)) ?_;clear hK K
       (try simp only[O,F,o,f])
       refine BX (rs:=[16]) (by kernel_rfl) (by simp) (TillReady.cons rfl (fun K hK=>?_) TillReady.nil)
       go_simp
       refine hK.out _ _ (Cp (by kernel_rfl)) ?_;clear hK K
       (try simp only[O,Aj,I,M,F,o,f])
       refine BX (rs:=[17]) (by kernel_rfl) (by simp) (TillReady.cons rfl (fun K hK=>?_) TillReady.nil);refine DO (by rfl) (.tmp 76) (.tmp 74) (by rfl) g C k1 _ x1 s1 (by rfl) (by rfl) HR5.out HJ.out ?_;intro w6 hw6 hr6;have HR6:=vJ hr6;have HW6:=vJ hw6;clear hr6 hw6;refine hK.out _ _ (Cp (by kernel_rfl)) ?_;clear hK K
       (try simp only[O,F,o,f])
       refine Gd (by kernel_rfl) ?_ _;go_wp2;go_roundw
       case rel=>exact⟨t+1,k1,sg,se,by go_num,vJ ⟨by rw[HSW.out];exact HR6.out,(HI.out.2.trans (ChE.of_below HB4.out)).trans ((Chg.of_wrote1 HW5.out).trans (Chg.of_wrote1 HW6.out))⟩⟩
       case measure=>simp[intOf];omega
     . obtain rfl:t=i:=by omega
       have J6:¬ (k:Int)<(p1:Int):=(by omega);go_wp2;refine Bv (results_none rfl _ _ _) rfl ?_;refine⟨rfl,⟨_,HMR.out,?_⟩,HI.out.2⟩;have e:A ++ ((Y.take t ++ v :: Y.drop t) ++ B)=Eh A Y v B t:=(by unfold Eh;simp only[AQ,List.cons_append]);rw[e];exact HI.out.1
theorem UE{w:Ah}{g C n cap:Nat}(A X:List BC)(v:BC)(B:List BC)(hX:Ord X)(h:RwE w g C (A ++ (X ++ ([v] ++ B))))(h2:2<=X.length){a m b:Nat}(ha:A.length=a)(hm:a+X.length=m)(hb:m+1=b)(hn:(A ++ (X ++ ([v] ++ B))).length=n)(EJ:n<=1000000):
 AA Ae 130 #[Ak (U ⟨g,0,G⟩) n cap,H J a,H J m,H J b,Fy] w fun e w'=>e=Ag (AO #[])/\(∃ Z,MrgP X [v] Z/\RwE w' g C (A ++ (Z ++ B)))/\ChE g w w':=by
 obtain⟨x,hx⟩:∃ x,X.length=x:=⟨_,rfl⟩;have Sn:b<=n:=by rw[<- hn];simp only[Ax,Ch,List.length_nil];omega
 have hmaz:(m:Int)-(a:Int)=(x:Int):=by omega
 have hx1:((x:Int)==1)=AI:=by rw[beq_eq_false_iff_ne];omega
 have hx1n:¬ (x:Int)=1:=by omega
 have hbmz:(b:Int)-(m:Int)=1:=by omega
 have HV:Hid ((A ++ (X ++ ([v] ++ B))).getD m default=v):=vJ (by
  have e:A ++ (X ++ ([v] ++ B))=(A ++ X) ++ v :: B:=by simp only[AQ,List.cons_append,B0]
  rw[e];exact IM _ _ _ (by rw[Ax];omega))
 have HYD:Hid (∀ k i,k<x->a+k=i->(A ++ (X ++ ([v] ++ B))).getD i default=X.getD k default):=vJ fun k i hk hi=>Qe _ _ _ (by omega) (by omega)
 have HR:=vJ h;have HN:=vJ hn;have HXL:=vJ hx;have HA:=vJ ha;have HO:=vJ hX;have H0:Hid (SrcL X v 0 x):=vJ ⟨AX _,by omega,fun h=>by omega,fun h=>by omega⟩;have HAX:Hid (a+x=m):=vJ (by omega);have HMB:=vJ hb;have Vu:m<n:=by omega
 have hmnz:(m:Int)<(n:Int):=by omega
 have ham:a<=m:=by omega
 clear h h2 hn hx hX ha hb hm;go_enter Tryz.func130,Tryz.ntmps130;go_wp2;go_loopw [14,15] (fun s10 s11 wr=>∃ i j p q:Nat,a+i=p/\a+j=q/\p<=q/\q<=m/\s10=H J p/\s11=H J q/\Hid (SrcL X v i j)/\Hid (At w.heap.size w wr)) (fun s10 s11 _=>(intOf s11).toNat-(intOf s10).toNat)
 case atStart=>exact⟨0,x,a,m,rfl,HAX.out,ham,AB _,rfl,rfl,H0,vJ (AM _ _)⟩
 case round=>
  obtain⟨i,j,p,q,hip,hjq,hpq,hqb,rfl,rfl,HS,HB⟩:=hrel;by_cases hlt:p<q
  . obtain⟨t,ht⟩:=nm (p+q)
    obtain⟨k,hk⟩:=nm (t / 2);have J6:(p:Int)<(q:Int):=(by omega);have htz:(p:Int)+(q:Int)=(t:Int):=(by omega);have hwt:J.wrap (t:Int)=(t:Int):=A9 _ (by omega);have hut:IntKind.u64.wrap (t:Int)=(t:Int):=Dh _ (by omega);have sW:(t:Int) / 2=(k:Int):=(by omega);have aA:p<=k:=(by omega);have hkq:k<q:=(by omega);have XV:k<n:=(by omega);have r_:(k:Int)<(n:Int):=(by omega);clear ht hk;obtain⟨r,hr⟩:∃ r,a+r=k:=⟨k-a,by omega⟩;have hry:r<x:=(by have:=HAX.out;omega);have uT:r<j:=(by omega);have hir:i<=r:=(by omega);obtain⟨u,hu⟩:=nm (X.getD r default);have HCE:=vJ (Jz (HR.out.below HB.out) (i:=k) (j:=m) (by rw[HN.out];exact XV) (by rw[HN.out];exact Vu) (u:=u) (v:=v) (by rw[HYD.out r k hry hr,hu]) HV.out);have HUP:Hid (Ii u v->SrcL X v (r+1) j):=vJ fun h=>HS.out.up hir uT (by rw[<- hu];exact h)
    have HDN:Hid (JK v.2 u.2->SrcL X v i r):=vJ fun h=>HS.out.dn hir uT (by rw[<- hu];exact LN h)
    obtain⟨c,hc⟩:=nm (WZ v u);have KL:Hid (∀ V,At wr.heap.size wr V->AA Ae 44 #[BD #[H J v.1,.string v.2],BD #[H J u.1,.string u.2]] V fun e w'=>e=Ag (H J c)/\At wr.heap.size wr w'):=vJ fun V hb=>(LQ v u V).mono fun e w' ⟨he,h2⟩=>⟨by rw[hc];exact he,hb.trans (h2.mono hb.size)⟩
    have HC:=vJ hc;have hbd:At wr.heap.size wr wr.drew:=(AM _ _).drew;clear hu hc;obtain⟨x1,s1⟩:=u;obtain⟨x2,s2⟩:=v;obtain⟨⟨d1,d2⟩,d3,d4⟩:=HCE.out _ hbd;by_cases Ml:c<0
    . have hd:decide (c<0)=AL:=AF Ml
      go_wp2
      go_region_held3 (fun W=>W.cell? ⟨g,k*2,G⟩=U (H J x1)/\W.cell? ⟨g,k*2+1,G⟩=U (.string s1)/\W.cell? ⟨g,m*2,G⟩=U (H J x2)/\W.cell? ⟨g,m*2+1,G⟩=U (.string s2)) (first|exact⟨f1,f2,f3,f4⟩|exact⟨d1,d2,d3,d4⟩) (first
       |(go_at_call 44;(with_reducible refine(KL.out _ hbd).mono ?_);rintro e w3 ⟨rfl,hb3⟩;obtain⟨⟨f1,f2⟩,f3,f4⟩:=HCE.out _ hb3))
      go_wp2;go_roundw
      case rel=>exact⟨i,r,p,k,hip,hr,aA,by omega,rfl,rfl,vJ (HDN.out ((Kv _ _).1 (by rw[<- HC.out];exact Ml))),vJ (HB.out.trans (hb3.mono HB.out.size))⟩
      case measure=>simp[intOf];omega
    . have hd:decide (c<0)=AI:=AG Ml
      go_wp2
      go_region_held3 (fun W=>W.cell? ⟨g,k*2,G⟩=U (H J x1)/\W.cell? ⟨g,k*2+1,G⟩=U (.string s1)/\W.cell? ⟨g,m*2,G⟩=U (H J x2)/\W.cell? ⟨g,m*2+1,G⟩=U (.string s2)) (first|exact⟨f1,f2,f3,f4⟩|exact⟨d1,d2,d3,d4⟩) (first
       |(go_at_call 44;(with_reducible refine(KL.out _ hbd).mono ?_);rintro e w3 ⟨rfl,hb3⟩;obtain⟨⟨f1,f2⟩,f3,f4⟩:=HCE.out _ hb3))
      go_wp2;go_roundw
      case rel=>exact⟨r+1,j,k+1,q,by omega,hjq,by omega,hqb,by go_num,rfl,vJ (HUP.out ((Qk _ _).1 (by have:=HC.out;omega))),vJ (HB.out.trans (hb3.mono HB.out.size))⟩
      case measure=>simp[intOf];omega
  . obtain rfl:p=q:=by omega
    obtain rfl:i=j:=by omega
    have ip:i<=x:=(by have:=HAX.out;omega);have HMR:Hid (MrgP X [v] (X.take i ++ v :: X.drop i)):=vJ (HS.out.mrg HO.out).comm;have HI0:Hid (RwE wr g C (Eh A X v B x)/\ChE g w wr):=vJ ⟨by rw[<- HXL.out,kg];exact HR.out.below HB.out,ChE.of_below HB.out⟩;have HLN:Hid (∀ t,(Eh A X v B t).length=n):=vJ fun t=>by rw[RL,<- HN.out];simp only[Ax,Ch,List.length_nil];omega
    go_wp2;go_loopw [17] (fun s17 wr=>∃ t k:Nat,a+t=k/\i<=t/\t<=x/\s17=H J k/\Hid (RwE wr g C (Eh A X v B t)/\ChE g w wr)) (fun s17 _=>(intOf s17).toNat)
    case atStart=>exact⟨x,m,HAX.out,ip,AB _,rfl,HI0⟩
    case round=>
     obtain⟨q,k,XJ,hti,sP,rfl,HI⟩:=hrel;clear HI0;by_cases Od:i<q
     . obtain⟨t,rfl⟩:∃ t,q=t+1:=⟨q-1,by omega⟩
       obtain⟨k1,hk1⟩:∃ k1,k1+1=k:=⟨k-1,by omega⟩;have htX:t<X.length:=(by have:=HXL.out;omega);obtain⟨hs1,hs2,hs3⟩:=S7 A X v B htX (i:=k1) (j:=k) (by rw[HA.out];omega) hk1;have J6:(p:Int)<(k:Int):=(by omega);have XV:k<n:=(by have:=HAX.out;omega);have r_:(k:Int)<(n:Int):=(by omega);have lV:k1<n:=(by omega);have uU:(k1:Int)<(n:Int):=(by omega);have sa:(k:Int)-1=(k1:Int):=(by omega);have hwk:J.wrap (k:Int)=(k:Int):=A9 _ (by omega);have sd:J.wrap (k1:Int)=(k1:Int):=A9 _ (by omega);have hwk2:J.wrap ((k:Int)-1)=(k1:Int):=(by rw[sa];exact sd);obtain⟨u,hu⟩:=nm (X[t]);rw[<- hu] at hs3;have HCE:=vJ (Jz HI.out.1 (i:=k) (j:=k1) (by rw[HLN.out];exact XV) (by rw[HLN.out];exact lV) hs2 hs3);have hb4:At wr.heap.size wr wr.drew:=(AM _ _).drew;have lU:Eh A X v B t=((Eh A X v B (t+1)).set k u).set k1 v:=(by rw[<- hs1];unfold aX;rw[hs2,hs3]);have se:i<=t:=(by omega);have sg:a+t=k1:=(by omega);have htx1:t<=x:=(by omega);clear hs1 hs2 hs3 hu htX XJ hk1;obtain⟨x1,s1⟩:=v;obtain⟨x2,s2⟩:=u;have HRW:Hid (RwE wr.drew g C (Eh A X (x1,s1) B (t+1))):=vJ (HI.out.1.below hb4);have HII:Hid (k<(Eh A X (x1,s1) B (t+1)).length):=vJ (by rw[HLN.out];exact XV);have HJ:Hid (k1<((Eh A X (x1,s1) B (t+1)).set k (x2,s2)).length):=vJ (by rw[AJ,HLN.out];exact lV);obtain⟨⟨c1,c2⟩,c3,c4⟩:=HCE.out _ hb4;have HS4:Hid (wr.drew.cell? ⟨g,k*2,G⟩=U (H J x1)/\wr.drew.cell? ⟨g,k*2+1,G⟩=U (.string s1)/\wr.drew.cell? ⟨g,k1*2,G⟩=U (H J x2)/\wr.drew.cell? ⟨g,k1*2+1,G⟩=U (.string s2)):=vJ ⟨c1,c2,c3,c4⟩;have HSW:=vJ lU;have HB4:=vJ hb4;clear c1 c2 c3 c4 hb4 lU;go_wp2;refine wp_region_any (by kernel_rfl) ?_
       (try (change wpAny _ _ _ _ _ _ _ (Ah.drew _)))
       refine AW (i:=0) (v:=Ak (U ⟨g,0,G⟩) n cap) rfl (by kernel_rfl) (by kernel_rfl) (by kernel_rfl) (fun _ _ _ h=>h) (AN ⟨by rfl,?_⟩) ?_
       . intro W;go_simp
       (try simp only[O,Aj,I,M,F,o])
       refine AW (i:=1) (v:=H J k) rfl (by kernel_rfl) (by kernel_rfl) (by kernel_rfl) (fun _ _ _ h=>h) (AN ⟨by rfl,?_⟩) ?_
       . intro W;go_simp
       (try simp only[O,Aj,I,M,F,o,f])
       refine AW (i:=2) (v:=Ak (U ⟨g,0,G⟩) n cap) rfl (by kernel_rfl) (by kernel_rfl) (by kernel_rfl) (fun _ _ _ h=>h) (AN ⟨by rfl,?_⟩) ?_
       . intro W;go_simp
       (try simp only[O,Aj,I,M,F,o,f])
       refine AW (i:=3) (v:=H J k) rfl (by kernel_rfl) (by kernel_rfl) (by kernel_rfl) (fun _ _ _ h=>h) (AN ⟨by rfl,?_⟩) ?_
       . intro W;go_simp
       (try simp only[O,Aj,I,M,F,o,f])
       refine AW (i:=4) (v:=H J k1) rfl (by kernel_rfl) (by kernel_rfl) (by kernel_rfl) (fun _ _ _ h=>h) (AN ⟨by rfl,?_⟩) ?_
       . intro W;go_simp
       (try simp only[O,Aj,I,M,F,o,f])
       refine AW (i:=5) (v:=Ak (U ⟨g,0,G⟩) n cap) rfl (by kernel_rfl) (by kernel_rfl) (by kernel_rfl) (fun _ _ _ h=>h) (AN ⟨by rfl,?_⟩) ?_
       . intro W;go_simp
       (try simp only[O,Aj,I,M,F,o,f])
       refine AW (i:=6) (v:=H J k) rfl (by kernel_rfl) (by kernel_rfl) (by kernel_rfl) (fun _ _ _ h=>h) (AN ⟨by rfl,?_⟩) ?_
       . intro W;go_simp
       (try simp only[O,Aj,I,M,F,o,f])
       refine AW (i:=7) (v:=H J k1) rfl (by kernel_rfl) (by kernel_rfl) (by kernel_rfl) (fun _ _ _ h=>h) (AN ⟨by rfl,?_⟩) ?_
       . intro W;go_simp
       (try simp only[O,Aj,I,M,F,o,f])
       refine AW (i:=8) (v:=Am (U ⟨g,k1*2,G⟩)) rfl (by kernel_rfl) (by kernel_rfl) (by kernel_rfl) (fun _ _ _ h=>h) (AN ⟨by rfl,?_⟩) ?_
       . intro W;go_simp
       (try simp only[O,Aj,I,M,F,o,f])
       refine AW (i:=10) (v:=Ak (U ⟨g,0,G⟩) n cap) rfl (by kernel_rfl) (by kernel_rfl) (by kernel_rfl) (fun _ _ _ h=>h) (AN ⟨by rfl,?_⟩) ?_
       . intro W;go_simp
       (try simp only[O,Aj,I,M,F,o,f])
       refine AW (i:=11) (v:=H J k) rfl (by kernel_rfl) (by kernel_rfl) (by kernel_rfl) (fun _ _ _ h=>h) (AN ⟨by rfl,?_⟩) ?_
       . intro W;go_simp
       (try simp only[O,Aj,I,M,F,o,f])
       refine AW (i:=12) (v:=Am (U ⟨g,k*2,G⟩)) rfl (by kernel_rfl) (by kernel_rfl) (by kernel_rfl) (fun _ _ _ h=>h) (AN ⟨by rfl,?_⟩) ?_
       . intro W;go_simp
       (try simp only[O,Aj,I,M,F,o,f])
       refine Ej (S:=fun W=>W.cell? ⟨g,k*2,G⟩=U (H J x1)/\W.cell? ⟨g,k*2+1,G⟩=U (.string s1)/\W.cell? ⟨g,k1*2,G⟩=U (H J x2)/\W.cell? ⟨g,k1*2+1,G⟩=U (.string s2)) (m:=15) _ _ _ _ ?_;refine De (i:=9) (v:=BD #[H J x2,.string s2]) rfl rfl (by kernel_rfl) (by kernel_rfl) (by kernel_rfl) (by kernel_rfl) (by kernel_rfl) (fun _ _ _ h=>h) (AN ⟨by rfl,?_⟩) HS4.out ?_
       . intro W EM;obtain⟨z1,z2,z3,z4⟩:=EM;go_simp
       (try simp only[O,Aj,I,M,F,o,f])
       refine De (i:=13) (v:=BD #[H J x1,.string s1]) rfl rfl (by kernel_rfl) (by kernel_rfl) (by kernel_rfl) (by kernel_rfl) (by kernel_rfl) (fun _ _ _ h=>h) (AN ⟨by rfl,?_⟩) HS4.out ?_
       . intro W EM;obtain⟨z1,z2,z3,z4⟩:=EM;go_simp
       (try simp only[O,Aj,I,M,F,o,f])
       refine De (i:=14) (v:=Am (U ⟨g,k*2,G⟩)) rfl rfl (by kernel_rfl) (by kernel_rfl) (by kernel_rfl) (by kernel_rfl) (by kernel_rfl) (fun _ _ _ h=>h) (AN ⟨by rfl,?_⟩) HS4.out ?_
       . intro W EM;go_simp
       (try simp only[O,Aj,I,M,F,o,f])
       refine BX (rs:=[15]) (by kernel_rfl) (by simp) (TillReady.cons rfl (fun K hK=>?_) TillReady.nil);refine DO (by rfl) (.tmp 127) (.tmp 122) (by rfl) g C k _ x2 s2 (by rfl) (by rfl) HRW.out HII.out ?_;intro w5 hw5 E3;have HR5:=vJ E3;have HW5:=vJ hw5;clear E3 hw5;refine hK.out _ _ (Cp (by kernel_rfl)) ?_;clear hK K
       (try simp only[O,F,o,f])
       refine BX (rs:=[16]) (by kernel_rfl) (by simp) (TillReady.cons rfl (fun K hK=>?_) TillReady.nil)
       go_simp
       refine hK.out _ _ (Cp (by kernel_rfl)) ?_;clear hK K
       (try simp only[O,Aj,I,M,F,o,f])
       refine BX (rs:=[17]) (by kernel_rfl) (by simp) (TillReady.cons rfl (fun K hK=>?_) TillReady.nil);refine DO (by rfl) (.tmp 128) (.tmp 126) (by rfl) g C k1 _ x1 s1 (by rfl) (by rfl) HR5.out HJ.out ?_;intro w6 hw6 hr6;have HR6:=vJ hr6;have HW6:=vJ hw6;clear hr6 hw6;refine hK.out _ _ (Cp (by kernel_rfl)) ?_;clear hK K
       (try simp only[O,F,o,f])
       refine Gd (by kernel_rfl) ?_ _;go_wp2;go_roundw
       case rel=>exact⟨t,k1,sg,se,htx1,by go_num,vJ ⟨by rw[HSW.out];exact HR6.out,(HI.out.2.trans (ChE.of_below HB4.out)).trans ((Chg.of_wrote1 HW5.out).trans (Chg.of_wrote1 HW6.out))⟩⟩
       case measure=>simp[intOf];omega
     . obtain rfl:q=i:=by omega
       have J6:¬ (p:Int)<(k:Int):=(by omega);go_wp2;refine Bv (results_none rfl _ _ _) rfl ?_;refine⟨rfl,⟨_,HMR.out,?_⟩,HI.out.2⟩;have e:A ++ ((X.take q ++ v :: X.drop q) ++ B)=Eh A X v B q:=(by unfold Eh;simp only[AQ,List.cons_append]);rw[e];exact HI.out.1
def RotI(g C m:Nat)(A T B:List BC)(i j:Nat)(w:Ah):Prop:=∃ L P Q R:List BC,P.length=i/\Q.length=j/\1<=i/\1<=j/\A.length+L.length+i=m/\L ++ (Q ++ (P ++ R))=T/\RwE w g C (A ++ (L ++ (P ++ (Q ++ (R ++ B)))))
section
variable {w:Ah}{g C m n cap i j:Nat}{A T B:List BC}
theorem RotI.gt(h:RotI g C m A T B i j w)(hn:(A ++ (T ++ B)).length=n)(EJ:n<=1000000)(l6:j<i){p k:Nat}(hp:p+i=m)(hk:k+j=i):
 AA Ae 197 #[Ak (U ⟨g,0,G⟩) n cap,H J p,H J m,H J j,Fy] w fun e w'=>e=Ag (AO #[])/\RotI g C m A T B k j w'/\ChE g w w':=by
 obtain⟨L,P,Q,R,hP,hQ,h1,h2,h3,rfl,hr⟩:=h;have e0:P=P.take j ++ P.drop j:=(Be _ _).symm;have l1:(P.take j).length=j:=by rw[AK];omega
 have l2:(P.drop j).length=k:=by rw[AU];omega
 generalize hP1:P.take j=P1 at e0 l1;generalize hP2:P.drop j=P2 at e0 l2;subst e0;have e1:A ++ (L ++ ((P1 ++ P2) ++ (Q ++ (R ++ B))))=(A ++ L) ++ (P1 ++ (P2 ++ (Q ++ (R ++ B)))):=by simp only[AQ]
 rw[e1] at hr;refine(MA (A ++ L) P1 P2 Q (R ++ B) hr (by omega) l1 (a:=p) (b:=m) (by rw[Ax];omega) (by rw[Ax];omega) ?_ EJ).mono ?_
 . rw[<- hn];simp only[Ax];omega
 . rintro e w' ⟨he,hr',hc⟩
   refine⟨he,⟨L ++ Q,P2,P1,R,l2,l1,by omega,by omega,by rw[Ax];omega,by simp only[AQ],?_⟩,hc⟩;have e2:(A ++ L) ++ (Q ++ (P2 ++ (P1 ++ (R ++ B))))=A ++ ((L ++ Q) ++ (P2 ++ (P1 ++ (R ++ B)))):=by simp only[AQ]
   rw[<- e2];exact hr'
theorem RotI.ls(h:RotI g C m A T B i j w)(hn:(A ++ (T ++ B)).length=n)(EJ:n<=1000000)(l6:i<j){p q k:Nat}(hp:p+i=m)(hq:q+i=m+j)(hk:k+i=j):
 AA Ae 197 #[Ak (U ⟨g,0,G⟩) n cap,H J p,H J q,H J i,Fy] w fun e w'=>e=Ag (AO #[])/\RotI g C m A T B i k w'/\ChE g w w':=by
 obtain⟨L,P,Q,R,hP,hQ,h1,h2,h3,rfl,hr⟩:=h;have e0:Q=Q.take k ++ Q.drop k:=(Be _ _).symm;have l1:(Q.take k).length=k:=by rw[AK];omega
 have l2:(Q.drop k).length=i:=by rw[AU];omega
 generalize hP1:Q.take k=Q1 at e0 l1;generalize hP2:Q.drop k=Q2 at e0 l2;subst e0;have e1:A ++ (L ++ (P ++ ((Q1 ++ Q2) ++ (R ++ B))))=(A ++ L) ++ (P ++ (Q1 ++ (Q2 ++ (R ++ B)))):=by simp only[AQ]
 rw[e1] at hr;refine(MA (A ++ L) P Q1 Q2 (R ++ B) hr (by omega) hP (a:=p) (b:=q) (by rw[Ax];omega) (by rw[Ax];omega) ?_ EJ).mono ?_
 . rw[<- hn];simp only[Ax];omega
 . rintro e w' ⟨he,hr',hc⟩
   refine⟨he,⟨L,Q2,Q1,P ++ R,l2,l1,by omega,by omega,by omega,by simp only[AQ],?_⟩,hc⟩;have e2:(A ++ L) ++ (Q2 ++ (Q1 ++ (P ++ (R ++ B))))=A ++ (L ++ (Q2 ++ (Q1 ++ ((P ++ R) ++ B)))):=by simp only[AQ]
   rw[<- e2];exact hr'
theorem RotI.eq(h:RotI g C m A T B i i w)(hn:(A ++ (T ++ B)).length=n)(EJ:n<=1000000){p:Nat}(hp:p+i=m):
 AA Ae 197 #[Ak (U ⟨g,0,G⟩) n cap,H J p,H J m,H J i,Fy] w fun e w'=>e=Ag (AO #[])/\RwE w' g C (A ++ (T ++ B))/\ChE g w w':=by
 obtain⟨L,P,Q,R,hP,hQ,h1,h2,h3,rfl,hr⟩:=h;have e1:A ++ (L ++ (P ++ (Q ++ (R ++ B))))=(A ++ L) ++ (P ++ ([] ++ (Q ++ (R ++ B)))):=by simp only[AQ,B0]
 rw[e1] at hr;refine(MA (A ++ L) P [] Q (R ++ B) hr (by omega) hP (a:=p) (b:=m) (by rw[Ax];omega) (by rw[Ax,List.length_nil];omega) ?_ EJ).mono ?_
 . rw[<- hn];simp only[Ax,List.length_nil];omega
 . rintro e w' ⟨he,hr',hc⟩
   refine⟨he,?_,hc⟩;have e2:(A ++ L) ++ (Q ++ ([] ++ (P ++ (R ++ B))))=A ++ ((L ++ (Q ++ (P ++ R))) ++ B):=by simp only[AQ,B0]
   rw[<- e2];exact hr'
end
theorem eN{w:Ah}{g C n cap:Nat}(A X Y B:List BC)(h:RwE w g C (A ++ (X ++ (Y ++ B))))(hX:1<=X.length)(hY:1<=Y.length){a m b:Nat}(ha:A.length=a)(hm:a+X.length=m)(hb:m+Y.length=b)(hn:(A ++ (X ++ (Y ++ B))).length=n)(EJ:n<=1000000):
 AA Ae 174 #[Ak (U ⟨g,0,G⟩) n cap,H J a,H J m,H J b,Fy] w fun e w'=>e=Ag (AO #[])/\RwE w' g C (A ++ ((Y ++ X) ++ B))/\ChE g w w':=by
 have hn':(A ++ ((Y ++ X) ++ B)).length=n:=by rw[<- hn];simp only[Ax];omega
 obtain⟨x,hx⟩:∃ x,X.length=x:=⟨_,rfl⟩;obtain⟨y,hy⟩:∃ y,Y.length=y:=⟨_,rfl⟩;have H0:Hid (RotI g C m A (Y ++ X) B x y w):=vJ ⟨[],X,Y,[],hx,hy,by omega,by omega,by rw[List.length_nil];omega,by simp only[B0,BB],by simpa only[B0] using h⟩;have exz:(m:Int)-(a:Int)=(x:Int):=by omega
 have eyz:(b:Int)-(m:Int)=(y:Int):=by omega
 have Sn:b<=n:=by rw[<- hn];simp only[Ax];omega
 have hx1:x<=m:=by omega
 have oJ:m+y<=n:=by omega
 generalize Y ++ X=T at H0 hn' |-
 have K1:=vJ fun(V:Ah) (i j p k:Nat) (h:RotI g C m A T B i j V) (l6:j<i) (hp:p+i=m) (hk:k+j=i)=>h.gt (cap:=cap) hn' EJ l6 hp hk
 have K2:=vJ fun(V:Ah) (i j p q k:Nat) (h:RotI g C m A T B i j V) (l6:i<j) (hp:p+i=m) (hq:q+i=m+j) (hk:k+i=j)=>h.ls (cap:=cap) hn' EJ l6 hp hq hk
 have K3:=vJ fun(V:Ah) (i p:Nat) (h:RotI g C m A T B i i V) (hp:p+i=m)=>h.eq (cap:=cap) hn' EJ hp
 have HPOS:Hid (∀ V i j,RotI g C m A T B i j V->1<=i/\1<=j/\i<=m):=vJ fun V i j ⟨L,P,Q,R,a1,a2,a3,a4,a5,_⟩=>⟨a3,a4,by omega⟩
 clear h hX hY ha hm hb hn hn' hx hy;go_enter Tryz.func174,Tryz.ntmps174;go_wp2;go_loopw [10,11] (fun s10 s11 wr=>∃ i j:Nat,s10=H J i/\s11=H J j/\m+j<=n/\Hid (RotI g C m A T B i j wr)/\Hid (ChE g w wr)) (fun s10 s11 _=>(intOf s10).toNat+(intOf s11).toNat)
 case atStart=>exact⟨x,y,rfl,rfl,oJ,H0,vJ (Chg.refl _ _)⟩
 case round=>
  obtain⟨i,j,rfl,rfl,hjn,HR,HC⟩:=hrel;obtain⟨h1,h2,h3⟩:=HPOS.out _ _ _ HR.out;obtain⟨p,hp⟩:∃ p,p+i=m:=⟨m-i,by omega⟩;have hpz:(m:Int)-(i:Int)=(p:Int):=by omega
  by_cases Sg:i=j
  . subst Sg
    have KK:=vJ (K3.out wr i p HR.out hp);clear K1 K2 K3;go_wp2_with (go_at_call 197;(with_reducible refine KK.out.mono ?_);rintro e w3 ⟨rfl,hr3,hc3⟩)
    go_end0
    exact⟨rfl,hr3,HC.out.trans hc3⟩
  . have hnez:¬ (i:Int)=(j:Int):=by omega
    by_cases cQ:j<i
    . obtain⟨k,hk⟩:∃ k,k+j=i:=⟨i-j,by omega⟩
      have hgz:(j:Int)<(i:Int):=(by omega);have sW:(i:Int)-(j:Int)=(k:Int):=(by omega);have KK:=vJ (K1.out wr i j p k HR.out cQ hp hk);clear K1 K2 K3;go_wp2_with (go_at_call 197;(with_reducible refine KK.out.mono ?_);rintro e w3 ⟨rfl,hr3,hc3⟩)
      go_roundw
      case rel=>exact⟨k,j,by go_num,rfl,hjn,vJ hr3,vJ (HC.out.trans hc3)⟩
      case measure=>simp[intOf];omega
    . obtain⟨k,hk⟩:∃ k,k+i=j:=⟨j-i,by omega⟩
      obtain⟨q,hq⟩:∃ q,q+i=m+j:=⟨m+j-i,by omega⟩;obtain⟨r,hr⟩:=nm (m+j);have hgz:¬ (j:Int)<(i:Int):=(by omega);have sW:(j:Int)-(i:Int)=(k:Int):=(by omega);have hrz:(m:Int)+(j:Int)=(r:Int):=(by omega);have hqz:(r:Int)-(i:Int)=(q:Int):=(by omega);have hwr:J.wrap (r:Int)=(r:Int):=A9 _ (by omega);have aj:J.wrap ((m:Int)+(j:Int))=(r:Int):=(by rw[hrz];exact hwr);have sJ:J.wrap (q:Int)=(q:Int):=A9 _ (by omega);have KK:=vJ (K2.out wr i j p q k HR.out (by omega) hp hq hk);have XV:m+k<=n:=(by omega);clear K1 K2 K3 hr hq hk hp;go_wp2_with (go_at_call 197;(with_reducible refine KK.out.mono ?_);rintro e w3 ⟨rfl,hr3,hc3⟩)
      go_roundw
      case rel=>exact⟨i,k,rfl,by go_num,XV,vJ hr3,vJ (HC.out.trans hc3)⟩
      case measure=>simp[intOf];omega
def SrcS(X Y:List BC)(h lo hi s r:Nat):Prop:=lo<=s/\s<=r/\r<=hi/\(s=lo\/Ii (X.getD (s-1) default) (Y.getD (h-s) default))/\(r=hi\/Ii (Y.getD (h-1-r) default) (X.getD r default))
structure SrcB (x y h lo hi:Nat):Prop where
 hx:hi<=x
 hh:hi<=h
 lh:lo<=hi
 ly:h<=lo+y
 l0:lo=0\/lo+y=h
 h0:hi=x\/hi=h
section
variable {X Y:List BC}{h lo hi s r c:Nat}
theorem SrcS.up(k:SrcS X Y h lo hi s r)(h1:s<=c)(h2:c<r)(hq:Ii (X.getD c default) (Y.getD (h-1-c) default)):SrcS X Y h lo hi (c+1) r:=by
 obtain⟨k1,k2,k3,k4,k5⟩:=k;exact⟨by omega,by omega,k3,Ba (by rw[show h-(c+1)=h-1-c by omega];exact hq),k5⟩
theorem SrcS.dn(k:SrcS X Y h lo hi s r)(h1:s<=c)(h2:c<r)(hq:Ii (Y.getD (h-1-c) default) (X.getD c default)):SrcS X Y h lo hi s c:=by
 obtain⟨k1,k2,k3,k4,k5⟩:=k;exact⟨k1,h1,by omega,k4,Ba hq⟩
theorem SrcS.two(k:SrcS X Y h lo hi s s)(hb:SrcB X.length Y.length h lo hi):s<=X.length/\h-s<=Y.length/\s<=h/\
 (∀ (h1:0<s) (h2:h-s<Y.length),s<=X.length->∀ h3:s-1<X.length,Ii X[s-1] Y[h-s])/\(∀ (h1:s<X.length) (h2:0<h-s),∀ h3:h-s-1<Y.length,Ii Y[h-s-1] X[s]):=by
 obtain⟨k1,_,k3,k4,k5⟩:=k;obtain⟨b1,b2,b3,b4,b5,b6⟩:=hb;refine⟨by omega,by omega,by omega,fun h1 h2 _ h3=>?_,fun h1 h2 h3=>?_⟩
 . rcases k4 with e|e
   . exfalso;omega
   . rwa [EY _ h3,EY _ h2] at e
 . rcases k5 with e|e
   . exfalso;omega
   . have e2:h-1-s=h-s-1:=by omega
     rw[e2,EY _ h3,EY _ h1] at e;exact e
theorem SrcS.mrg(k:SrcS X Y h lo hi s s)(hb:SrcB X.length Y.length h lo hi)(hX:Ord X)(hY:Ord Y){Z1 Z2:List BC}(m1:MrgP (X.take s) (Y.take (h-s)) Z1)(m2:MrgP (X.drop s) (Y.drop (h-s)) Z2):MrgP X Y (Z1 ++ Z2):=by
 obtain⟨a,b,_,c,d⟩:=k.two hb;exact mG hX hY a b (fun h1 h2=>c h1 h2 a (by omega)) (fun h1 h2=>d h1 h2 (by omega)) m1 m2
end
def bO(g C n cap N:Nat):Prop:=∀ (A X Y B:List BC) (V:Ah) (a m b:Nat),1<=X.length->1<=Y.length->X.length+Y.length<N->Ord X->Ord Y->RwE V g C (A ++ (X ++ (Y ++ B)))->A.length=a->a+X.length=m->m+Y.length=b->(A ++ (X ++ (Y ++ B))).length=n->
 AA Ae 130 #[Ak (U ⟨g,0,G⟩) n cap,H J a,H J m,H J b,Fy] V fun e w'=>e=Ag (AO #[])/\(∃ Z,MrgP X Y Z/\RwE w' g C (A ++ (Z ++ B)))/\ChE g V w'
section
variable {g C n cap:Nat}{A X Y B:List BC}{h lo hi s:Nat}
def Lw(g C:Nat)(A X Y B:List BC)(s e:Nat)(V:Ah):Prop:=RwE V g C (A ++ (X.take s ++ (Y.take e ++ (X.drop s ++ (Y.drop e ++ B)))))
def RO(g C:Nat)(A X Y B:List BC)(s e:Nat)(V:Ah):Prop:=∃ Z,MrgP (X.take s) (Y.take e) Z/\RwE V g C (A ++ (Z ++ (X.drop s ++ (Y.drop e ++ B))))
def aO(g C:Nat)(A X Y B:List BC)(V:Ah):Prop:=∃ Z,MrgP X Y Z/\RwE V g C (A ++ (Z ++ B))
theorem oq(hs:s<=X.length)(he:h-s<=Y.length)(hsh:s<=h)(hn:(A ++ (X ++ (Y ++ B))).length=n)(EJ:n<=1000000){V:Ah}(hr:RwE V g C (A ++ (X ++ (Y ++ B)))):
 (s<X.length->0<h-s->∀ a m E,A.length+s=a->A.length+X.length=m->m+(h-s)=E->AA Ae 174 #[Ak (U ⟨g,0,G⟩) n cap,H J a,H J m,H J E,Fy] V fun e w'=>e=Ag (AO #[])/\Lw g C A X Y B s (h-s) w'/\ChE g V w')/\
 (¬ (s<X.length/\0<h-s)->Lw g C A X Y B s (h-s) V):=by
 have e0:A ++ (X ++ (Y ++ B))=(A ++ X.take s) ++ (X.drop s ++ (Y.take (h-s) ++ (Y.drop (h-s) ++ B))):=by
  conv=>lhs;rw[<- Be s X,<- Be (h-s) Y]
  simp only[AQ]
 constructor
 . intro c1 c2 a m E ha hm hE
   rw[e0] at hr hn;refine(eN (A ++ X.take s) (X.drop s) (Y.take (h-s)) (Y.drop (h-s) ++ B) hr (by rw[AU];omega) (by rw[AK];omega) (a:=a) (m:=m) (b:=E) (by rw[Ax,AK];omega) (by rw[AU];omega) (by rw[AK];omega) hn EJ).mono ?_;rintro e w' ⟨he',hr',hc⟩;refine⟨he',?_,hc⟩;unfold Lw;have e1:(A ++ X.take s) ++ ((Y.take (h-s) ++ X.drop s) ++ (Y.drop (h-s) ++ B))=A ++ (X.take s ++ (Y.take (h-s) ++ (X.drop s ++ (Y.drop (h-s) ++ B)))):=(by simp only[AQ]);rw[<- e1];exact hr'
 . intro c
   unfold Lw;have e1:X.drop s ++ Y.take (h-s)=Y.take (h-s) ++ X.drop s:=by
    by_cases c1:s<X.length
    . have:h-s=0:=by omega
      rw[this,List.take_zero,BB,B0]
    . rw[BZ (by omega),BB,B0]
   have e2:A ++ (X ++ (Y ++ B))=A ++ (X.take s ++ ((X.drop s ++ Y.take (h-s)) ++ (Y.drop (h-s) ++ B))):=(by rw[e0];simp only[AQ]);rw[e1] at e2;have e3:A ++ (X.take s ++ ((Y.take (h-s) ++ X.drop s) ++ (Y.drop (h-s) ++ B)))=A ++ (X.take s ++ (Y.take (h-s) ++ (X.drop s ++ (Y.drop (h-s) ++ B)))):=(by simp only[AQ]);rw[<- e3,<- e2];exact hr
theorem gU(ih:bO g C n cap (X.length+Y.length))(hX:Ord X)(hY:Ord Y)(hs:s<=X.length)(he:h-s<=Y.length)(hsh:s<=h)(Sh:h<X.length+Y.length)(hn:(A ++ (X ++ (Y ++ B))).length=n){V:Ah}(hr:Lw g C A X Y B s (h-s) V):
 (0<s->0<h-s->∀ a m E,A.length=a->A.length+s=m->A.length+h=E->AA Ae 130 #[Ak (U ⟨g,0,G⟩) n cap,H J a,H J m,H J E,Fy] V fun e w'=>e=Ag (AO #[])/\RO g C A X Y B s (h-s) w'/\ChE g V w')/\
 (¬ (0<s/\0<h-s)->RO g C A X Y B s (h-s) V):=by
 have o1:Ord (X.take s):=hX.sub (List.take_sublist _ _);have o2:Ord (Y.take (h-s)):=hY.sub (List.take_sublist _ _);constructor
 . intro c1 c2 a m E ha hm hE
   refine(ih A (X.take s) (Y.take (h-s)) (X.drop s ++ (Y.drop (h-s) ++ B)) V a m E (by rw[AK];omega) (by rw[AK];omega) (by rw[AK,AK];omega) o1 o2 hr ha (by rw[AK];omega) (by rw[AK];omega) ?_).mono ?_
   . rw[<- hn];simp only[Ax,AK,AU];omega
   . rintro e w' ⟨he',hz,hc⟩;exact⟨he',hz,hc⟩
 . intro c
   rcases Nat.eq_zero_or_pos s with e|e
   . subst e
     refine⟨_,by rw[List.take_zero];exact MrgP.nilL o2,?_⟩;unfold Lw at hr;rw[List.take_zero,B0] at hr;exact hr
   . have e2:h-s=0:=by omega
     rw[e2] at hr |-
     refine⟨_,by rw[List.take_zero];exact MrgP.nilR o1,?_⟩;unfold Lw at hr;rw[List.take_zero,B0] at hr;exact hr
theorem YE(ih:bO g C n cap (X.length+Y.length))(hX:Ord X)(hY:Ord Y)(k:SrcS X Y h lo hi s s)(hb:SrcB X.length Y.length h lo hi)(hh:0<h)(hn:(A ++ (X ++ (Y ++ B))).length=n){V:Ah}(hr:RO g C A X Y B s (h-s) V):
 (s<X.length->h-s<Y.length->∀ a m E,A.length+h=a->A.length+X.length+(h-s)=m->A.length+X.length+Y.length=E->AA Ae 130 #[Ak (U ⟨g,0,G⟩) n cap,H J a,H J m,H J E,Fy] V fun e w'=>e=Ag (AO #[])/\aO g C A X Y B w'/\ChE g V w')/\
 (¬ (s<X.length/\h-s<Y.length)->aO g C A X Y B V):=by
 obtain⟨hs,he,hsh,_⟩:=k.two hb;obtain⟨Z,hz,hr⟩:=hr;have hzl:Z.length=h:=by rw[hz.1.length_eq,Ax,AK,AK];omega
 have o1:Ord (X.drop s):=hX.sub (List.drop_sublist _ _);have o2:Ord (Y.drop (h-s)):=hY.sub (List.drop_sublist _ _);constructor
 . intro c1 c2 a m E ha hm hE
   have e0:A ++ (Z ++ (X.drop s ++ (Y.drop (h-s) ++ B)))=(A ++ Z) ++ (X.drop s ++ (Y.drop (h-s) ++ B)):=(by simp only[AQ]);rw[e0] at hr;refine(ih (A ++ Z) (X.drop s) (Y.drop (h-s)) B V a m E (by rw[AU];omega) (by rw[AU];omega) (by rw[AU,AU];omega) o1 o2 hr (by rw[Ax,hzl];exact ha) (by rw[AU];omega) (by rw[AU];omega) ?_).mono ?_
   . rw[<- hn];simp only[Ax,AU,hzl];omega
   . rintro e w' ⟨he',⟨Z2,JG,hr2⟩,hc⟩
     refine⟨he',⟨Z ++ Z2,k.mrg hb hX hY hz JG,?_⟩,hc⟩;have e1:(A ++ Z) ++ (Z2 ++ B)=A ++ ((Z ++ Z2) ++ B):=by simp only[AQ]
     rw[<- e1];exact hr2
 . intro c
   have hm2:MrgP (X.drop s) (Y.drop (h-s)) (X.drop s ++ Y.drop (h-s)):=by
    by_cases c1:s<X.length
    . have e1:Y.drop (h-s)=[]:=BZ (by omega)
      rw[e1,BB];exact MrgP.nilR o1
    . have e1:X.drop s=[]:=BZ (by omega)
      rw[e1,B0];exact MrgP.nilL o2
   refine⟨Z ++ (X.drop s ++ Y.drop (h-s)),k.mrg hb hX hY hz hm2,?_⟩;have e1:A ++ (Z ++ (X.drop s ++ (Y.drop (h-s) ++ B)))=A ++ ((Z ++ (X.drop s ++ Y.drop (h-s))) ++ B):=by simp only[AQ]
   rw[<- e1];exact hr
end
theorem Ym{w:Ah}{g C n cap:Nat}(A X Y B:List BC)(ih:bO g C n cap (X.length+Y.length))(hX:Ord X)(hY:Ord Y)(hr:RwE w g C (A ++ (X ++ (Y ++ B))))(Qb:2<=X.length)(ir:2<=Y.length){a m b:Nat}(ha:A.length=a)(hm:a+X.length=m)(hb:m+Y.length=b)(hn:(A ++ (X ++ (Y ++ B))).length=n)(EJ:n<=1000000):
 AA Ae 130 #[Ak (U ⟨g,0,G⟩) n cap,H J a,H J m,H J b,Fy] w fun e w'=>e=Ag (AO #[])/\(∃ Z,MrgP X Y Z/\RwE w' g C (A ++ (Z ++ B)))/\ChE g w w':=by
 obtain⟨x,hx⟩:∃ x,X.length=x:=⟨_,rfl⟩;obtain⟨y,hy⟩:∃ y,Y.length=y:=⟨_,rfl⟩;obtain⟨h,hh⟩:=nm ((x+y) / 2);obtain⟨mid,hmid⟩:=nm (a+h);obtain⟨nn,hnn⟩:=nm (mid+m);obtain⟨p,hp⟩:∃ p,p+1=nn:=⟨nn-1,by omega⟩;obtain⟨ab,TZ⟩:=nm (a+b);have Sn:b<=n:=by rw[<- hn];simp only[Ax];omega
 have z1:(m:Int)-(a:Int)=(x:Int):=by omega
 have z2:¬ (x:Int)=1:=by omega
 have z3:(b:Int)-(m:Int)=(y:Int):=by omega
 have z4:¬ (y:Int)=1:=by omega
 have z2b:((x:Int)==1)=AI:=by rw[beq_eq_false_iff_ne];omega
 have z4b:((y:Int)==1)=AI:=by rw[beq_eq_false_iff_ne];omega
 have z5:(a:Int)+(b:Int)=(ab:Int):=by omega
 have z6:J.wrap (ab:Int)=(ab:Int):=A9 _ (by omega);have z7:IntKind.u64.wrap (ab:Int)=(ab:Int):=Dh _ (by omega);have z8:(ab:Int) / 2=(mid:Int):=by omega
 have z9:(mid:Int)+(m:Int)=(nn:Int):=by omega
 have z10:J.wrap (nn:Int)=(nn:Int):=A9 _ (by omega);have z11:(nn:Int)-1=(p:Int):=by omega
 have HU:Hid (∀ k i,k<x->a+k=i->(A ++ (X ++ (Y ++ B))).getD i default=X.getD k default):=vJ fun k i hk hi=>Qe _ _ _ (by omega) (by omega)
 have HV:Hid (∀ k i,k<y->m+k=i->(A ++ (X ++ (Y ++ B))).getD i default=Y.getD k default):=vJ fun k i hk hi=>by
  have e:A ++ (X ++ (Y ++ B))=(A ++ X) ++ (Y ++ B):=by simp only[AQ]
  rw[e];exact Qe _ _ _ (by omega) (by rw[Ax];omega)
 have HR:=vJ hr;have HN:=vJ hn;have HBIG:=vJ EJ;have HIH:=vJ ih;have HOX:=vJ hX;have HOY:=vJ hY;have HXL:=vJ hx;have HYL:=vJ hy;have HA:=vJ ha;have HNUM:Hid (a+x=m/\m+y=b/\mid=a+h/\p+1=mid+m/\nn=mid+m/\2<=x/\2<=y/\h=(x+y) / 2):=vJ ⟨by omega,by omega,hmid,by omega,hnn,by omega,by omega,hh⟩;obtain⟨lo,hi,s0,r0,Se,tw,Of,hbnd⟩:∃ lo hi s0 r0,a+lo=s0/\a+hi=r0/\((mid<m/\s0+b=nn/\r0=mid)\/(¬ mid<m/\s0=a/\r0=m))/\SrcB x y h lo hi:=by
  by_cases c:mid<m
  . exact⟨h-y,h,a+(h-y),a+h,rfl,rfl,AN ⟨c,by omega,by omega⟩,⟨by omega,by omega,by omega,by omega,by omega,Ba rfl⟩⟩
  . exact⟨0,x,a,a+x,rfl,rfl,Ba ⟨c,rfl,by omega⟩,⟨by omega,by omega,by omega,by omega,AN rfl,AN rfl⟩⟩
 have HBN:=vJ hbnd;have HLH:Hid (a+lo=s0/\a+hi=r0):=vJ ⟨Se,tw⟩;have HST:Hid (∀ s r,s=s0->r=r0->∃ s' r',a+s'=s/\a+r'=r/\s<=r/\r<=m/\SrcS X Y h lo hi s' r'):=vJ fun s r e1 e2=>⟨lo,hi,by omega,by omega,by have:=hbnd.lh;omega,by have:=hbnd.hx;omega,AB _,hbnd.lh,AB _,AN rfl,AN rfl⟩
 have hcz:((mid:Int)<(m:Int)/\(nn:Int)-(b:Int)=(s0:Int)/\Hid (mid=r0))\/(¬ (mid:Int)<(m:Int)/\Hid (a=s0)/\Hid (m=r0)):=by
  rcases Of with⟨c1,c2,c3⟩| ⟨c1,c2,c3⟩
  . exact AN ⟨by omega,by omega,vJ c3.symm⟩
  . exact Ba ⟨by omega,vJ c2.symm,vJ c3.symm⟩
 clear hr Qb ir hx hy hh hmid hnn hp TZ ha hm hb hn ih hX hY Se tw Of hbnd;rcases hcz with⟨g1,g2,HC2⟩| ⟨g1,HC1,HC2⟩
 all_goals
  go_enter Tryz.func130,Tryz.ntmps130;go_wp2;go_loopw [20,21] (fun s20 s21 wr=>∃ s r s' r':Nat,a+s'=s/\a+r'=r/\s<=r/\r<=m/\s20=H J s/\s21=H J r/\Hid (SrcS X Y h lo hi s' r')/\Hid (At w.heap.size w wr)) (fun s20 s21 _=>(intOf s21).toNat-(intOf s20).toNat)
  case atStart=>
   first
    |(obtain⟨s',r',q1,q2,q3,q4,q5⟩:=HST.out s0 mid rfl HC2.out
      exact⟨s0,mid,s',r',q1,q2,q3,q4,rfl,rfl,vJ q5,vJ (AM _ _)⟩)
    |(obtain⟨s',r',q1,q2,q3,q4,q5⟩:=HST.out a m HC1.out HC2.out
      exact⟨a,m,s',r',q1,q2,q3,q4,rfl,rfl,vJ q5,vJ (AM _ _)⟩)
  case round=>
   obtain⟨s,r,s',r',hs',hr',hsr,hrm,rfl,rfl,HS,HB⟩:=hrel;by_cases hlt:s<r
   . obtain⟨t,ht⟩:=nm (s+r)
     obtain⟨c,hc⟩:=nm (t / 2);obtain⟨c',hc'⟩:∃ c',a+c'=c:=⟨c-a,by omega⟩;have hn1:=HNUM.out;have hk1:=HS.out;have hb1:=HBN.out;have k1:c'<h:=(by have:=hb1.hh;have:=hk1.2.2.1;omega);have k2:h-1-c'<y:=(by have:=hb1.ly;have:=hk1.1;omega);have k3:c'<x:=(by have:=hb1.hx;have:=hk1.2.2.1;omega);obtain⟨q,hq⟩:∃ q,m+(h-1-c')=q:=⟨_,rfl⟩;have y1:(s:Int)<(r:Int):=(by omega);have y2:(s:Int)+(r:Int)=(t:Int):=(by omega);have y3:J.wrap (t:Int)=(t:Int):=A9 _ (by omega);have y4:IntKind.u64.wrap (t:Int)=(t:Int):=Dh _ (by omega);have y5:(t:Int) / 2=(c:Int):=(by omega);have y6:(p:Int)-(c:Int)=(q:Int):=(by omega);have y7:c<n:=(by omega);have y8:(c:Int)<(n:Int):=(by omega);have y9:q<n:=(by omega);have y10:(q:Int)<(n:Int):=(by omega);have y11:J.wrap (q:Int)=(q:Int):=A9 _ (by omega);have y12:J.wrap ((p:Int)-(c:Int))=(q:Int):=(by rw[y6];exact y11);have sc:s<=c:=(by omega);have cr:c<r:=(by omega);have sc':s'<=c':=(by omega);have cr':c'<r':=(by omega);obtain⟨u,hu⟩:=nm (Y.getD (h-1-c') default);obtain⟨v,hv⟩:=nm (X.getD c' default);have HCE:=vJ (Jz (HR.out.below HB.out) (i:=q) (j:=c) (by rw[HN.out];exact y9) (by rw[HN.out];exact y7) (u:=u) (v:=v) (by rw[HV.out _ _ k2 hq,hu]) (by rw[HU.out _ _ k3 hc',hv]));have HUP:Hid (Ii v u->SrcS X Y h lo hi (c'+1) r'):=vJ fun e=>HS.out.up sc' cr' (by rw[<- hu,<- hv];exact e)
     have HDN:Hid (JK u.2 v.2->SrcS X Y h lo hi s' c'):=vJ fun e=>HS.out.dn sc' cr' (by rw[<- hu,<- hv];exact LN e)
     obtain⟨d,hd⟩:=nm (WZ u v);have KL:Hid (∀ V,At wr.heap.size wr V->AA Ae 44 #[BD #[H J u.1,.string u.2],BD #[H J v.1,.string v.2]] V fun e w'=>e=Ag (H J d)/\At wr.heap.size wr w'):=vJ fun V hb=>(LQ u v V).mono fun e w' ⟨he,h2⟩=>⟨by rw[hd];exact he,hb.trans (h2.mono hb.size)⟩
     have HD:=vJ hd;have HC':=vJ hc';have HS':=vJ hs';have HR':=vJ hr';have hbd:At wr.heap.size wr wr.drew:=(AM _ _).drew;clear ht hc hc' hn1 hk1 hb1 k1 k2 k3 hq hu hv hd hs' hr' sc' cr';obtain⟨x1,s1⟩:=u;obtain⟨x2,s2⟩:=v;obtain⟨⟨d1,d2⟩,d3,d4⟩:=HCE.out _ hbd;by_cases Ml:d<0
     . have rK:decide (d<0)=AL:=AF Ml
       go_wp2
       go_region_held3 (fun W=>W.cell? ⟨g,q*2,G⟩=U (H J x1)/\W.cell? ⟨g,q*2+1,G⟩=U (.string s1)/\W.cell? ⟨g,c*2,G⟩=U (H J x2)/\W.cell? ⟨g,c*2+1,G⟩=U (.string s2)) (first|exact⟨f1,f2,f3,f4⟩|exact⟨d1,d2,d3,d4⟩) (first
        |(go_at_call 44;(with_reducible refine(KL.out _ hbd).mono ?_);rintro e w3 ⟨rfl,hb3⟩;obtain⟨⟨f1,f2⟩,f3,f4⟩:=HCE.out _ hb3))
       go_wp2;go_roundw
       case rel=>exact⟨s,c,s',c',HS'.out,HC'.out,sc,by omega,rfl,rfl,vJ (HDN.out ((Kv _ _).1 (by rw[<- HD.out];exact Ml))),vJ (HB.out.trans (hb3.mono HB.out.size))⟩
       case measure=>simp[intOf];omega
     . have rK:decide (d<0)=AI:=AG Ml
       go_wp2
       go_region_held3 (fun W=>W.cell? ⟨g,q*2,G⟩=U (H J x1)/\W.cell? ⟨g,q*2+1,G⟩=U (.string s1)/\W.cell? ⟨g,c*2,G⟩=U (H J x2)/\W.cell? ⟨g,c*2+1,G⟩=U (.string s2)) (first|exact⟨f1,f2,f3,f4⟩|exact⟨d1,d2,d3,d4⟩) (first
        |(go_at_call 44;(with_reducible refine(KL.out _ hbd).mono ?_);rintro e w3 ⟨rfl,hb3⟩;obtain⟨⟨f1,f2⟩,f3,f4⟩:=HCE.out _ hb3))
       go_wp2;go_roundw
       case rel=>exact⟨c+1,r,c'+1,r',by have:=HC'.out;omega,HR'.out,by omega,hrm,by go_num,rfl,vJ (HUP.out ((Qk _ _).1 (by have:=HD.out;omega))),vJ (HB.out.trans (hb3.mono HB.out.size))⟩
       case measure=>simp[intOf];omega
   . obtain rfl:s=r:=by omega
     obtain rfl:s'=r':=by omega
     have hn1:=HNUM.out;have hb1:SrcB X.length Y.length h lo hi:=(by rw[HXL.out,HYL.out];exact HBN.out);obtain⟨t1,t2,t3,_⟩:=HS.out.two hb1;rw[HXL.out] at t1;rw[HYL.out] at t2;obtain⟨E,hE⟩:∃ E,m+(h-s')=E:=⟨_,rfl⟩;have zE:(nn:Int)-(s:Int)=(E:Int):=(by omega);have hrow:=HR.out.below HB.out;have KA:=oq (cap:=cap) (V:=wr) (g:=g) (C:=C) (by rw[HXL.out];exact t1) (by rw[HYL.out];exact t2) t3 HN.out HBIG.out hrow;have KB:=fun V=>gU (V:=V) (cap:=cap) (s:=s') (h:=h) (B:=B) HIH.out HOX.out HOY.out (by rw[HXL.out];exact t1) (by rw[HYL.out];exact t2) t3 (by rw[HXL.out,HYL.out];omega) HN.out
     have KC:=fun V=>YE (V:=V) (B:=B) HIH.out HOX.out HOY.out HS.out hb1 (by omega) HN.out
     have KR:Hid (s'<x->0<h-s'->AA Ae 174 #[Ak (U ⟨g,0,G⟩) n cap,H J s,H J m,H J E,Fy] wr fun e w'=>e=Ag (AO #[])/\Lw g C A X Y B s' (h-s') w'/\ChE g wr w'):=vJ fun c1 c2=>KA.1 (by rw[HXL.out];exact c1) c2 s m E (by rw[HA.out];exact hs') (by rw[HA.out,HXL.out];omega) hE
     have NR:Hid (¬ (s'<x/\0<h-s')->Lw g C A X Y B s' (h-s') wr):=vJ fun c=>KA.2 (by rw[HXL.out];exact c)
     have K1:Hid (∀ V,Lw g C A X Y B s' (h-s') V->0<s'->0<h-s'->AA Ae 130 #[Ak (U ⟨g,0,G⟩) n cap,H J a,H J s,H J mid,Fy] V fun e w'=>e=Ag (AO #[])/\RO g C A X Y B s' (h-s') w'/\ChE g V w'):=vJ fun V hv c1 c2=>(KB V hv).1 c1 c2 a s mid HA.out (by rw[HA.out];exact hs') (by rw[HA.out];omega)
     have N1:Hid (∀ V,Lw g C A X Y B s' (h-s') V->¬ (0<s'/\0<h-s')->RO g C A X Y B s' (h-s') V):=vJ fun V hv=>(KB V hv).2
     have K2:Hid (∀ V,RO g C A X Y B s' (h-s') V->s'<x->h-s'<y->AA Ae 130 #[Ak (U ⟨g,0,G⟩) n cap,H J mid,H J E,H J b,Fy] V fun e w'=>e=Ag (AO #[])/\aO g C A X Y B w'/\ChE g V w'):=vJ fun V hv c1 c2=>(KC V hv).1 (by rw[HXL.out];exact c1) (by rw[HYL.out];exact c2) mid E b (by rw[HA.out];omega) (by rw[HA.out,HXL.out];omega) (by rw[HA.out,HXL.out,HYL.out];omega)
     have N2:Hid (∀ V,RO g C A X Y B s' (h-s') V->¬ (s'<x/\h-s'<y)->aO g C A X Y B V):=vJ fun V hv c=>(KC V hv).2 (by rw[HXL.out,HYL.out];exact c)
     obtain⟨e',he'⟩:=nm (h-s');rw[<- he'] at KR NR K1 N1 K2 N2 hE t2;have HC0:Hid (ChE g w wr):=vJ (ChE.of_below HB.out);have hx1:a+x=m:=hn1.1;have Qb:m+y=b:=hn1.2.1;have hx3:s+e'=mid:=(by omega);have hx4:mid+x=E+s':=(by omega);have hx5:2<=h/\h+2<=x+y:=(by omega);have hx6:s'+e'=h:=(by omega);have hx7:2<=x/\2<=y:=(by omega);clear hn1 hb1 hrow KA KB KC he' t3;by_cases c1:s'<x
     . skip
       by_cases c2:0<e'
       . skip
         by_cases c3:0<s'
         . skip
           by_cases c4:e'<y
           . skip
             have f1:(s:Int)<(m:Int):=(by omega);have f2:(m:Int)<(E:Int):=(by omega);have f3:(a:Int)<(s:Int):=(by omega);have f4:(s:Int)<(mid:Int):=(by omega);have f5:(mid:Int)<(E:Int):=(by omega);have f6:(E:Int)<(b:Int):=(by omega);have KRR:=vJ (KR.out c1 c2)
             skip
             go_wp2_with (first|fail|(go_at_call 174;(with_reducible refine KRR.out.mono ?_);rintro ee w4 ⟨rfl,h1,hc1⟩;have H1:=vJ h1;have HC1':=vJ (HC0.out.trans hc1);clear h1 hc1;have K11:=vJ (K1.out _ H1.out c3 c2))|(go_at_call 130;(with_reducible refine K11.out.mono ?_);rintro ee w5 ⟨rfl,h2,hc2⟩;have H2:=vJ h2;have HC2':=vJ (HC1'.out.trans hc2);clear h2 hc2 K11;have K22:=vJ (K2.out _ H2.out c1 c4))|(go_at_call 130;(with_reducible refine K22.out.mono ?_);rintro ee w6 ⟨rfl,h3,hc3⟩;have H3:=vJ h3;have HC3':=vJ (HC2'.out.trans hc3);clear h3 hc3))
             all_goals (go_end0;exact⟨rfl,H3.out,HC3'.out⟩)
           . skip
             have f1:(s:Int)<(m:Int):=(by omega);have f2:(m:Int)<(E:Int):=(by omega);have f3:(a:Int)<(s:Int):=(by omega);have f4:(s:Int)<(mid:Int):=(by omega);have f5:(mid:Int)<(E:Int):=(by omega);have f6:¬ (E:Int)<(b:Int):=(by omega);have KRR:=vJ (KR.out c1 c2)
             skip
             go_wp2_with (first|fail|(go_at_call 174;(with_reducible refine KRR.out.mono ?_);rintro ee w4 ⟨rfl,h1,hc1⟩;have H1:=vJ h1;have HC1':=vJ (HC0.out.trans hc1);clear h1 hc1;have K11:=vJ (K1.out _ H1.out c3 c2))|(go_at_call 130;(with_reducible refine K11.out.mono ?_);rintro ee w5 ⟨rfl,h2,hc2⟩;have H2:=vJ h2;have HC2':=vJ (HC1'.out.trans hc2);clear h2 hc2 K11;have H3:=vJ (N2.out _ H2.out (fun z=>absurd z.2 c4))))
             all_goals (go_end0;exact⟨rfl,H3.out,HC2'.out⟩)
         . skip
           by_cases c4:e'<y
           . skip
             have f1:(s:Int)<(m:Int):=(by omega);have f2:(m:Int)<(E:Int):=(by omega);have f3:¬ (a:Int)<(s:Int):=(by omega);have f4:(s:Int)<(mid:Int):=(by omega);have f5:(mid:Int)<(E:Int):=(by omega);have f6:(E:Int)<(b:Int):=(by omega);have KRR:=vJ (KR.out c1 c2)
             skip
             go_wp2_with (first|fail|(go_at_call 174;(with_reducible refine KRR.out.mono ?_);rintro ee w4 ⟨rfl,h1,hc1⟩;have H1:=vJ h1;have HC1':=vJ (HC0.out.trans hc1);clear h1 hc1;have H2:=vJ (N1.out _ H1.out (fun z=>absurd z.1 c3));have K22:=vJ (K2.out _ H2.out c1 c4))|(go_at_call 130;(with_reducible refine K22.out.mono ?_);rintro ee w6 ⟨rfl,h3,hc3⟩;have H3:=vJ h3;have HC3':=vJ (HC1'.out.trans hc3);clear h3 hc3))
             all_goals (go_end0;exact⟨rfl,H3.out,HC3'.out⟩)
           . skip
             have f1:(s:Int)<(m:Int):=(by omega);have f2:(m:Int)<(E:Int):=(by omega);have f3:¬ (a:Int)<(s:Int):=(by omega);have f4:(s:Int)<(mid:Int):=(by omega);have f5:(mid:Int)<(E:Int):=(by omega);have f6:¬ (E:Int)<(b:Int):=(by omega);have KRR:=vJ (KR.out c1 c2)
             skip
             go_wp2_with (first|fail|(go_at_call 174;(with_reducible refine KRR.out.mono ?_);rintro ee w4 ⟨rfl,h1,hc1⟩;have H1:=vJ h1;have HC1':=vJ (HC0.out.trans hc1);clear h1 hc1;have H2:=vJ (N1.out _ H1.out (fun z=>absurd z.1 c3));have H3:=vJ (N2.out _ H2.out (fun z=>absurd z.2 c4))))
             all_goals (go_end0;exact⟨rfl,H3.out,HC1'.out⟩)
       . skip
         by_cases c3:0<s'
         . skip
           by_cases c4:e'<y
           . skip
             have f1:(s:Int)<(m:Int):=(by omega);have f2:¬ (m:Int)<(E:Int):=(by omega);have f3:(a:Int)<(s:Int):=(by omega);have f4:¬ (s:Int)<(mid:Int):=(by omega);have f5:(mid:Int)<(E:Int):=(by omega);have f6:(E:Int)<(b:Int):=(by omega);have H1:=vJ (NR.out (by omega));have H2:=vJ (N1.out _ H1.out (by omega));have K22:=vJ (K2.out _ H2.out c1 c4)
             skip
             go_wp2_with (first|fail|(go_at_call 130;(with_reducible refine K22.out.mono ?_);rintro ee w6 ⟨rfl,h3,hc3⟩;have H3:=vJ h3;have HC3':=vJ (HC0.out.trans hc3);clear h3 hc3))
             all_goals (go_end0;exact⟨rfl,H3.out,HC3'.out⟩)
           . skip
             exfalso;omega
         . skip
           by_cases c4:e'<y
           . skip
             exfalso;omega
           . skip
             exfalso;omega
     . skip
       by_cases c2:0<e'
       . skip
         by_cases c3:0<s'
         . skip
           by_cases c4:e'<y
           . skip
             have f1:¬ (s:Int)<(m:Int):=(by omega);have f2:(m:Int)<(E:Int):=(by omega);have f3:(a:Int)<(s:Int):=(by omega);have f4:(s:Int)<(mid:Int):=(by omega);have f5:¬ (mid:Int)<(E:Int):=(by omega);have f6:(E:Int)<(b:Int):=(by omega);have H1:=vJ (NR.out (by omega));have K11:=vJ (K1.out _ H1.out c3 c2)
             skip
             go_wp2_with (first|fail|(go_at_call 130;(with_reducible refine K11.out.mono ?_);rintro ee w5 ⟨rfl,h2,hc2⟩;have H2:=vJ h2;have HC2':=vJ (HC0.out.trans hc2);clear h2 hc2 K11;have H3:=vJ (N2.out _ H2.out (fun z=>absurd z.1 c1))))
             all_goals (go_end0;exact⟨rfl,H3.out,HC2'.out⟩)
           . skip
             exfalso;omega
         . skip
           by_cases c4:e'<y
           . skip
             exfalso;omega
           . skip
             exfalso;omega
       . skip
         by_cases c3:0<s'
         . skip
           by_cases c4:e'<y
           . skip
             have f1:¬ (s:Int)<(m:Int):=(by omega);have f2:¬ (m:Int)<(E:Int):=(by omega);have f3:(a:Int)<(s:Int):=(by omega);have f4:¬ (s:Int)<(mid:Int):=(by omega);have f5:¬ (mid:Int)<(E:Int):=(by omega);have f6:(E:Int)<(b:Int):=(by omega);have H1:=vJ (NR.out (by omega));have H2:=vJ (N1.out _ H1.out (by omega));have H3:=vJ (N2.out _ H2.out (by omega));clear K1 K2 N1 N2 KR NR;go_wp2;all_goals (go_end0;exact⟨rfl,H3.out,HC0.out⟩)
           . skip
             exfalso;omega
         . skip
           by_cases c4:e'<y
           . skip
             exfalso;omega
           . skip
             exfalso;omega
theorem Tr(g C n cap:Nat)(EJ:n<=1000000):∀ N,bO g C n cap N
 |0=>fun A X Y B V a m b _ _ h=>absurd h (A8 _)
 |N+1=>fun A X Y B V a m b h1 h2 h3 oX oY hr ha hm hb hn=>by
  by_cases hx:X.length=1
  . obtain⟨v,rfl⟩:=List.length_eq_one_iff.1 hx
    exact VY A v Y B oY hr ha (by simpa using hm) hb hn EJ
  . by_cases hy:Y.length=1
    . obtain⟨v,rfl⟩:=List.length_eq_one_iff.1 hy
      exact UE A X v B oX hr (by omega) ha hm (by simpa using hb) hn EJ
    . refine Ym A X Y B (fun A' X' Y' B' V' a' m' b' k1 k2 k3=>Tr g C n cap EJ N A' X' Y' B' V' a' m' b' k1 k2 (by omega)) oX oY hr (by omega) (by omega) ha hm hb hn EJ
theorem TH{V:Ah}{g C n cap:Nat}(A X Y B:List BC)(h1:1<=X.length)(h2:1<=Y.length)(oX:Ord X)(oY:Ord Y)(hr:RwE V g C (A ++ (X ++ (Y ++ B)))){a m b:Nat}(ha:A.length=a)(hm:a+X.length=m)(hb:m+Y.length=b)(hn:(A ++ (X ++ (Y ++ B))).length=n)(EJ:n<=1000000):
 AA Ae 130 #[Ak (U ⟨g,0,G⟩) n cap,H J a,H J m,H J b,Fy] V fun e w'=>e=Ag (AO #[])/\(∃ Z,MrgP X Y Z/\RwE w' g C (A ++ (Z ++ B)))/\ChE g V w':=
 Tr g C n cap EJ (X.length+Y.length+1) A X Y B V a m b h1 h2 (by omega) oX oY hr ha hm hb hn
def BlkO(bs:Nat)(D:List BC):Prop:=∀ j,Ord ((D.drop (j*bs)).take bs)
theorem BlkO.nil(bs:Nat):BlkO bs []:=fun j=>by rw[List.drop_nil,List.take_nil];exact Ord.nil
theorem QO{bs k:Nat}{P Z:List BC}(hP:BlkO bs P)(hl:P.length=k*bs)(hZ:Ord Z)(hz:Z.length<=bs):BlkO bs (P ++ Z):=by
 intro j;rcases Nat.lt_trichotomy j k with h|h|h
 . have h1:j*bs+bs<=P.length:=by rw[hl,<- Nat.succ_mul];exact Nat.mul_le_mul_right _ h
   rw[List.drop_append_of_le_length (by omega),CT (by rw[AU];omega)];exact hP j
 . subst h
   rw[<- hl,List.drop_left,AV hz];exact hZ
 . have h1:(k+1)*bs<=j*bs:=Nat.mul_le_mul_right _ h
   rw[Nat.succ_mul] at h1;rw[BZ (by rw[Ax];omega),List.take_nil];exact Ord.nil
theorem BlkO.all{bs:Nat}{D:List BC}(h:BlkO bs D)(hl:D.length<=bs):Ord D:=by
 have:=h 0;rw[Nat.zero_mul,CP,AV hl] at this;exact this
def StB(g C bs:Nat)(D:List BC)(a:Nat)(w:Ah):Prop:=∃ P k,P.length=a/\a=k*bs/\BlkO bs P/\P.Perm (D.take a)/\RwE w g C (P ++ D.drop a)
def ns(g C bs:Nat)(D:List BC)(w:Ah):Prop:=∃ Z,Z.Perm D/\BlkO bs Z/\RwE w g C Z
section
variable {g C n cap bs:Nat}{D:List BC}{w:Ah}{a:Nat}
theorem StB.zero(h:RwE w g C D):StB g C bs D 0 w:=⟨[],0,rfl,by rw[Nat.zero_mul],BlkO.nil bs,by rw[List.take_zero],by rw[B0,CP];exact h⟩
theorem StB.le(h:StB g C bs D a w):a<=D.length:=by
 obtain⟨P,k,h1,_,_,h4,_⟩:=h;have:=h4.length_eq;rw[AK] at this;omega
theorem StB.more(hP:∃ P k,P.length=a/\a=k*bs/\BlkO bs P/\P.Perm (D.take a)/\∃ Z,Z.Perm ((D.drop a).take bs)/\Ord Z/\RwE w g C (P ++ (Z ++ D.drop (a+bs))))(ha:a+bs<=D.length):StB g C bs D (a+bs) w:=by
 obtain⟨P,k,h1,h2,h3,h4,Z,z1,z2,z3⟩:=hP;have hz:Z.length=bs:=by rw[z1.length_eq,AK,AU];omega
 refine⟨P ++ Z,k+1,by rw[Ax];omega,by rw[Nat.succ_mul,<- h2],QO h3 (h1.trans h2) z2 (by omega),?_,by rw[AQ];exact z3⟩;rw[List.take_add];exact h4.append z1
theorem StB.last(hP:∃ P k,P.length=a/\a=k*bs/\BlkO bs P/\P.Perm (D.take a)/\∃ Z,Z.Perm (D.drop a)/\Ord Z/\RwE w g C (P ++ Z))(ha:D.length<=a+bs):ns g C bs D w:=by
 obtain⟨P,k,h1,h2,h3,h4,Z,z1,z2,z3⟩:=hP;refine⟨P ++ Z,?_,QO h3 (h1.trans h2) z2 (by rw[z1.length_eq,AU];omega),z3⟩;have:=h4.append z1;rw[Be] at this;exact this
theorem StB.ins(h:StB g C bs D a w)(hn:D.length=n)(EJ:n<=1000000){b:Nat}(hb:a+bs=b)(Sn:b<=n):
 AA Ae 129 #[Ak (U ⟨g,0,G⟩) n cap,H J a,H J b,Fy] w fun e w'=>e=Ag (AO #[])/\StB g C bs D b w'/\ChE g w w':=by
 obtain⟨P,k,h1,h2,h3,h4,h5⟩:=h;have e:D.drop a=(D.drop a).take bs ++ D.drop (a+bs):=by rw[<- List.drop_drop,Be]
 have hl:((D.drop a).take bs).length=bs:=by rw[AK,AU];omega
 rw[e] at h5;refine(TE P _ _ h5 h1 (by rw[hl];exact hb) (by rw[Ax,Ax,hl,AU];omega) EJ).mono ?_;rintro e w' ⟨he,⟨Z,z1,z2,z3⟩,hc⟩;refine⟨he,?_,hc⟩;rw[<- hb];exact StB.more ⟨P,k,h1,h2,h3,h4,Z,z1,z2,z3⟩ (by omega)
theorem StB.insL(h:StB g C bs D a w)(hn:D.length=n)(EJ:n<=1000000)(Sn:n<=a+bs):
 AA Ae 129 #[Ak (U ⟨g,0,G⟩) n cap,H J a,H J n,Fy] w fun e w'=>e=Ag (AO #[])/\ns g C bs D w'/\ChE g w w':=by
 have Mi:=h.le;obtain⟨P,k,h1,h2,h3,h4,h5⟩:=h;have hl:(D.drop a).length=n-a:=by rw[AU];omega
 rw[<- BB (D.drop a)] at h5;refine(TE P _ [] h5 h1 (by rw[hl];omega) (by rw[BB,Ax,hl];omega) EJ).mono ?_;rintro e w' ⟨he,⟨Z,z1,z2,z3⟩,hc⟩;rw[BB] at z3;exact⟨he,StB.last ⟨P,k,h1,h2,h3,h4,Z,z1,z2,z3⟩ (by omega),hc⟩
theorem Ve(hD:BlkO bs D){k:Nat}(ha:a=k*(2*bs)):Ord ((D.drop a).take bs)/\Ord (((D.drop a).drop bs).take bs):=by
 have e1:a=2*k*bs:=by rw[ha,Nat.mul_comm k,Nat.mul_assoc,Nat.mul_assoc,Nat.mul_comm bs k]
 have e2:a+bs=(2*k+1)*bs:=by rw[Nat.succ_mul,<- e1]
 constructor
 . rw[e1];exact hD _
 . rw[List.drop_drop,e2];exact hD _
theorem StB.sym(h:StB g C (2*bs) D a w)(hD:BlkO bs D)(hn:D.length=n)(EJ:n<=1000000)(hbs:1<=bs){m b:Nat}(hm:a+bs=m)(hb:a+2*bs=b)(Sn:b<=n):
 AA Ae 130 #[Ak (U ⟨g,0,G⟩) n cap,H J a,H J m,H J b,Fy] w fun e w'=>e=Ag (AO #[])/\StB g C (2*bs) D b w'/\ChE g w w':=by
 obtain⟨P,k,h1,h2,h3,h4,h5⟩:=h;obtain⟨o1,o2⟩:=Ve hD h2;have e2:(D.drop a).take (2*bs)=(D.drop a).take bs ++ ((D.drop a).drop bs).take bs:=by rw[Nat.two_mul,List.take_add]
 have e:D.drop a=(D.drop a).take bs ++ (((D.drop a).drop bs).take bs ++ D.drop (a+2*bs)):=by
  rw[<- AQ,<- e2,<- List.drop_drop,Be]
 have hl1:((D.drop a).take bs).length=bs:=by rw[AK,AU];omega
 have Mu:(((D.drop a).drop bs).take bs).length=bs:=by rw[AK,AU,AU];omega
 rw[e] at h5;refine(TH P _ _ _ (by rw[hl1];exact hbs) (by rw[Mu];exact hbs) o1 o2 h5 h1 (by rw[hl1];exact hm) (by rw[Mu];omega) (by rw[Ax,Ax,Ax,hl1,Mu,AU];omega) EJ).mono ?_;rintro e w' ⟨he,⟨Z,⟨z1,z2⟩,z3⟩,hc⟩;refine⟨he,?_,hc⟩;rw[<- hb];exact StB.more ⟨P,k,h1,h2,h3,h4,Z,by rw[e2];exact z1,z2,z3⟩ (by omega)
theorem StB.symL(h:StB g C (2*bs) D a w)(hD:BlkO bs D)(hn:D.length=n)(EJ:n<=1000000)(hbs:1<=bs){m:Nat}(hm:a+bs=m)(Vu:m<n)(Sn:n<a+2*bs):
 AA Ae 130 #[Ak (U ⟨g,0,G⟩) n cap,H J a,H J m,H J n,Fy] w fun e w'=>e=Ag (AO #[])/\ns g C (2*bs) D w'/\ChE g w w':=by
 obtain⟨P,k,h1,h2,h3,h4,h5⟩:=h;obtain⟨o1,o2⟩:=Ve hD h2;have e:D.drop a=(D.drop a).take bs ++ (D.drop a).drop bs:=(Be _ _).symm;have hl1:((D.drop a).take bs).length=bs:=by rw[AK,AU];omega
 have Mu:((D.drop a).drop bs).length=n-m:=by rw[AU,AU];omega
 rw[AV (by omega)] at o2;have h5':RwE w g C (P ++ ((D.drop a).take bs ++ ((D.drop a).drop bs ++ []))):=by rw[BB,<- e];exact h5
 refine(TH P _ _ [] (by rw[hl1];exact hbs) (by omega) o1 o2 h5' h1 (by rw[hl1];exact hm) (by rw[Mu];omega) (by rw[BB,<- e,Ax,AU];omega) EJ).mono ?_;rintro e2 w' ⟨he,⟨Z,⟨z1,z2⟩,z3⟩,hc⟩;rw[BB] at z3;exact⟨he,StB.last ⟨P,k,h1,h2,h3,h4,Z,by rw[e];exact z1,z2,z3⟩ (by omega),hc⟩
theorem StB.noL(h:StB g C (2*bs) D a w)(hD:BlkO bs D)(hn:D.length=n)(Vu:n<=a+bs):ns g C (2*bs) D w:=by
 obtain⟨P,k,h1,h2,h3,h4,h5⟩:=h;obtain⟨o1,o2⟩:=Ve hD h2;rw[AV (by rw[AU];omega)] at o1;exact StB.last ⟨P,k,h1,h2,h3,h4,_,List.Perm.refl _,o1,h5⟩ (by omega)
end
theorem Up{w:Ah}{g C n cap:Nat}{D:List BC}(h:RwE w g C D)(hn:D.length=n)(EJ:n<=1000000):
 AA Ae 86 #[Ak (U ⟨g,0,G⟩) n cap,H J n,Fy] w fun e w'=>e=Ag (AO #[])/\(∃ Z,Z.Perm D/\Ord Z/\RwE w' g C Z)/\ChE g w w':=by
 have H0:Hid (StB g C 20 D 0 w):=vJ (StB.zero h);have K1:Hid (∀ (V:Ah) (a b:Nat),StB g C 20 D a V->a+20=b->b<=n->AA Ae 129 #[Ak (U ⟨g,0,G⟩) n cap,H J a,H J b,Fy] V fun e w'=>e=Ag (AO #[])/\StB g C 20 D b w'/\ChE g V w'):=vJ fun V a b hs hb Sn=>hs.ins hn EJ hb Sn
 have K2:Hid (∀ (V:Ah) (a:Nat),StB g C 20 D a V->n<a+20->AA Ae 129 #[Ak (U ⟨g,0,G⟩) n cap,H J a,H J n,Fy] V fun e w'=>e=Ag (AO #[])/\ns g C 20 D w'/\ChE g V w'):=vJ fun V a hs Sn=>hs.insL hn EJ (by omega)
 have HLE:Hid (∀ (V:Ah) (a:Nat),StB g C 20 D a V->a<=n):=vJ fun V a hs=>by have:=hs.le;omega
 have HEND:Hid (∀ (V:Ah) (bs:Nat),ns g C bs D V->n<=bs->∃ Z,Z.Perm D/\Ord Z/\RwE V g C Z):=vJ fun V bs ⟨Z,z1,z2,z3⟩ hb=>⟨Z,z1,z2.all (by rw[z1.length_eq];omega),z3⟩
 have HN:=vJ hn;have HBIG:=vJ EJ;clear h hn;go_enter Tryz.func86,Tryz.ntmps86;go_wp2;go_loopw [7,8] (fun s7 s8 wr=>∃ a b:Nat,a+20=b/\a<=n/\s7=H J a/\s8=H J b/\Hid (StB g C 20 D a wr)/\Hid (ChE g w wr)) (fun s7 _ _=>n-(intOf s7).toNat)
 case atStart=>exact⟨0,20,rfl,AX _,rfl,rfl,H0,vJ (Chg.refl _ _)⟩
 case round=>
  obtain⟨a,b,TZ,han,rfl,rfl,HS,HC⟩:=hrel;clear H0;by_cases hlt:b<=n
  . have J6:(b:Int)<=(n:Int):=by omega
    obtain⟨b2,hb2⟩:∃ b2,b+20=b2:=⟨_,rfl⟩;have sh:(b:Int)+20=(b2:Int):=(by omega);have rS:J.wrap (b2:Int)=(b2:Int):=A9 _ (by omega);have hwb2:J.wrap ((b:Int)+20)=(b2:Int):=(by rw[sh];exact rS);have KK:=vJ (K1.out wr a b HS.out TZ hlt);have hmea:n-b<n-a:=(by omega);have HB2:=vJ hb2;clear K1 K2 HEND TZ hb2;go_wp2_with (go_at_call 129;(with_reducible refine KK.out.mono ?_);rintro e w3 ⟨rfl,h3,hc3⟩)
    go_roundw
    case rel=>exact⟨b,b2,HB2.out,hlt,rfl,by go_num,vJ h3,vJ (HC.out.trans hc3)⟩
    case measure=>simp[intOf];omega
  . have J6:¬ (b:Int)<=(n:Int):=by omega
    have KK:=vJ (K2.out wr a HS.out (by omega));clear K1 K2;go_wp2_with (go_at_call 129;(with_reducible refine KK.out.mono ?_);rintro e w3 ⟨rfl,h3,hc3⟩;have H3:=vJ h3;have HC3:=vJ (HC.out.trans hc3);clear h3 hc3)
    go_loopw [6] (fun s6 wr=>∃ bs:Nat,20<=bs/\bs<=2*n+20/\s6=H J bs/\Hid (ns g C bs D wr)/\Hid (ChE g w wr)) (fun s6 _=>n-(intOf s6).toNat)
    case atStart=>exact⟨20,AB _,by omega,rfl,H3,HC3⟩
    case round=>
     obtain⟨bs,hbs,hbsn,rfl,HD,HC4⟩:=hrel;clear H3 HC3 KK;by_cases Od:bs<n
     . have uV:(bs:Int)<(n:Int):=by omega
       obtain⟨Z,z1,z2,z3⟩:=HD.out;have hzn:Z.length=n:=(by rw[z1.length_eq];exact HN.out);obtain⟨tb,oU⟩:=nm (2*bs);have KA:Hid (∀ (V:Ah) (a m b:Nat),StB g C tb Z a V->a+bs=m->a+tb=b->b<=n->AA Ae 130 #[Ak (U ⟨g,0,G⟩) n cap,H J a,H J m,H J b,Fy] V fun e w'=>e=Ag (AO #[])/\StB g C tb Z b w'/\ChE g V w'):=vJ fun V a m b hs hm hb Sn=>by rw[oU] at hs |-;exact hs.sym z2 hzn HBIG.out (by omega) hm (by omega) Sn
       have KB:Hid (∀ (V:Ah) (a m:Nat),StB g C tb Z a V->a+bs=m->m<n->n<a+tb->AA Ae 130 #[Ak (U ⟨g,0,G⟩) n cap,H J a,H J m,H J n,Fy] V fun e w'=>e=Ag (AO #[])/\ns g C tb D w'/\ChE g V w'):=vJ fun V a m hs hm Vu Sn=>by
        rw[oU] at hs;refine(hs.symL z2 hzn HBIG.out (by omega) hm Vu (by omega)).mono ?_;rintro e w' ⟨he,⟨Y,y1,y2,y3⟩,hc⟩;exact⟨he,⟨Y,y1.trans z1,by rw[oU];exact y2,y3⟩,hc⟩
       have NB:Hid (∀ (V:Ah) (a:Nat),StB g C tb Z a V->n<=a+bs->ns g C tb D V):=vJ fun V a hs Vu=>by
        rw[oU] at hs;obtain⟨Y,y1,y2,y3⟩:=hs.noL z2 hzn Vu;exact⟨Y,y1.trans z1,by rw[oU];exact y2,y3⟩
       have HI0:Hid (StB g C tb Z 0 wr):=vJ (StB.zero z3);have htbz:2*(bs:Int)=(tb:Int):=(by omega);have uW:(bs:Int)*2=(tb:Int):=(by omega);have hwt:J.wrap (tb:Int)=(tb:Int):=A9 _ (by omega);have hwt2:J.wrap (2*(bs:Int))=(tb:Int):=(by rw[htbz];exact hwt);have hwt3:J.wrap ((bs:Int)*2)=(tb:Int):=(by rw[uW];exact hwt);have htb1:40<=tb:=(by omega);have uX:tb<=2*n+20:=(by omega);have htb3:bs<tb:=(by omega);have HTB:=vJ oU;clear z1 z2 z3 hzn oU HD;go_wp2;go_loopw [7,8] (fun s7 s8 wr=>∃ a b:Nat,a+tb=b/\a<=n/\s7=H J a/\s8=H J b/\Hid (StB g C tb Z a wr)/\Hid (ChE g w wr)) (fun s7 _ _=>n-(intOf s7).toNat)
       case atStart=>exact⟨0,tb,by omega,AX _,rfl,rfl,HI0,HC4⟩
       case round=>
        obtain⟨a,b,TZ,han,rfl,rfl,HS,HC5⟩:=hrel;clear HI0 HC4;obtain⟨m,hm⟩:∃ m,a+bs=m:=⟨_,rfl⟩;have cT:(a:Int)+(bs:Int)=(m:Int):=(by omega);have hwm:J.wrap (m:Int)=(m:Int):=A9 _ (by omega);have hwm2:J.wrap ((a:Int)+(bs:Int))=(m:Int):=(by rw[cT];exact hwm);by_cases uY:b<=n
        . have uZ:(b:Int)<=(n:Int):=by omega
          obtain⟨b2,hb2⟩:∃ b2,b+tb=b2:=⟨_,rfl⟩;have sh:(b:Int)+(tb:Int)=(b2:Int):=(by omega);have rS:J.wrap (b2:Int)=(b2:Int):=A9 _ (by omega);have hwb2:J.wrap ((b:Int)+(tb:Int))=(b2:Int):=(by rw[sh];exact rS);have KK:=vJ (KA.out wr a m b HS.out hm TZ uY);have hmea:n-b<n-a:=(by omega);have HB2:=vJ hb2;clear KA KB NB TZ hb2 hm;go_wp2_with (go_at_call 130;(with_reducible refine KK.out.mono ?_);rintro e w3 ⟨rfl,h3,hc3⟩)
          go_roundw
          case rel=>exact⟨b,b2,HB2.out,uY,rfl,by go_num,vJ h3,vJ (HC5.out.trans hc3)⟩
          case measure=>simp[intOf];omega
        . have uZ:¬ (b:Int)<=(n:Int):=by omega
          by_cases oR:m<n
          . have u4:(m:Int)<(n:Int):=by omega
            have KK:=vJ (KB.out wr a m HS.out hm oR (by omega));clear KA KB NB TZ hm;go_wp2_with (go_at_call 130;(with_reducible refine KK.out.mono ?_);rintro e w3 ⟨rfl,h3,hc3⟩)
            go_roundw
            case rel=>exact⟨tb,by omega,uX,by go_num,vJ h3,vJ (HC5.out.trans hc3)⟩
            case measure=>simp[intOf];omega
          . have u4:¬ (m:Int)<(n:Int):=by omega
            have HN3:=vJ (NB.out wr a HS.out (by omega));clear KA KB NB TZ hm;go_wp2;go_roundw
            case rel=>exact⟨tb,by omega,uX,by go_num,HN3,HC5⟩
            case measure=>simp[intOf];omega
     . have uV:¬ (bs:Int)<(n:Int):=by omega
       have HE:=vJ (HEND.out wr bs HD.out (by omega));go_wp2
       go_end0
       exact⟨rfl,HE.out,HC4.out⟩
theorem jq{w:Ah}{g C n cap:Nat}{D:List BC}(h:RwE w g C D)(hn:D.length=n)(EJ:n<=1000000):
 AA Ae 43 #[Ak (U ⟨g,0,G⟩) n cap,Fy] w fun e w'=>e=Ag (AO #[])/\(∃ Z,Z.Perm D/\Ord Z/\RwE w' g C Z)/\ChE g w w':=by
 have K:=vJ (Up (cap:=cap) h hn EJ);clear h hn;go_enter Tryz.func43,Tryz.ntmps43;go_wp2_with (go_at_call 86;(with_reducible refine K.out.mono ?_);rintro e w3 ⟨rfl,h3,hc3⟩)
 go_end0
 exact⟨rfl,h3,hc3⟩
end
section
open Go.RowKit
theorem RG(b off N cap:Nat)(h:16<=cap)(W:Ah):(Instr.slice 49 (Ak (U ⟨b,off,G⟩) N cap) G (U (H J 16)) G).run Ae W=.ok (Ak (U ⟨b,off,G⟩) 16 cap) W:=by
 obtain⟨i,g2,g3,g4,g5⟩:=By F7;have ee:Ae.elem 49=5:=by kernel_rfl
 have hs:(sizeOf 5).run Ae W=.ok 1 W:=by simp[sizeOf,typeInfo,g2,g4]
 rw[run_slice_h W 49 _ N cap (by rw[ee];exact Tryz.underlying49) J 16 (by omega) (by omega),ee,hs];have hne:cap≠0:=by omega
 simp[sliced,hne,Cb]
end
end Go.Proofs.YtdefiimcmecnnaaGreat
