/- What the law rests on. -/
import Derived.Test.YtdefiimcmecnnaaGreatQC10
open Go.Value renaming int->J,slice->Ak,pointer->Am,tuple->AO,agg->BD
open Go.IntKind renaming i64->H
open Go.Proofs.Tryz renaming prog->I
open Option renaming none->U,some->D
open Go.Ending renaming returned->C
open Go renaming World->Ah,Value->Aq,Calls->AA,Oper->BS,wpList->Cn
open Go.Obj renaming cells->Ar
open Go.RowKit renaming Below->At
open List renaming replicate->AD,range->Co
open Bool renaming false->AI,true->AL
open Or renaming inl->AN,inr->Ba
open Array renaming replicate->A3
open Int renaming toNat_natCast->B5
namespace Go.Proofs.YtdefiimcmecnnaaGreat
set_option maxHeartbeats 12000000
set_option linter.unusedVariables false
set_option maxRecDepth 100000
theorem Br:type_of% @List.mem_append_left:=@List.mem_append_left
theorem Ep:type_of% @List.mem_append_right:=@List.mem_append_right
section
open Go.RowKit BM
section
variable {w:Ah}{f:Aq}{n i:Nat}{R0 R1 R2:Nat->Ah->Prop}{R3:Ah->Prop}
theorem sD{i:Int}(hO:AA I 132 #[f,J H n,J H i] w fun e w'=>e=C (AO #[Am U,J H 1])/\R3 w'):
 AA I 88 #[f,J H n,J H i] w fun e w'=>e=C (AO #[J H 0,J H 1])/\R3 w':=by
 have K:=vJ hO;clear hO;go_enter Tryz.func88,Tryz.ntmps88;go_wp2_with (go_at_call 132;refine K.out.mono ?_;rintro e w2 ⟨rfl,h2⟩)
 go_ret2;exact⟨rfl,h2⟩
theorem eJ{v:Int}(hv:v≠0)(hO:AA I 132 #[f,J H n,J H i] w fun e w'=>∃ bc,e=C (AO #[Am (D ⟨bc,0,U⟩),J H 0])/\R0 bc w')
 (hA:∀ bc V,R0 bc V->AA I 133 #[Am (D ⟨bc,0,U⟩),J H i] V fun e w'=>e=C (J H v)/\V=w'):
 AA I 88 #[f,J H n,J H i] w fun e w'=>e=C (AO #[J H v,J H 0])/\∃ bc,R0 bc w':=by
 have K:=vJ hO;have KA:=vJ hA;have hz:(v != 0)=AL:=by simpa using hv
 clear hO hA hv;go_enter Tryz.func88,Tryz.ntmps88
 go_wp2_with (first
  |(go_at_call 132;refine K.out.mono ?_;rintro e w2 ⟨bc,rfl,h2⟩)
  |(go_at_call 133;refine(KA.out _ _ h2).mono ?_;rintro e w' ⟨rfl,rfl⟩))
 go_ret2;exact⟨rfl,bc,h2⟩
theorem RK{mp g:Int}{E v:Int}(pS:¬ ((10:Int)<=i/\mp=0))(hO:AA I 132 #[f,J H n,J H i] w fun e w'=>∃ bc,e=C (AO #[Am (D ⟨bc,0,U⟩),J H 0])/\R0 bc w')
 (hA:∀ bc V,R0 bc V->AA I 133 #[Am (D ⟨bc,0,U⟩),J H i] V fun e w'=>e=C (J H 0)/\V=w')
 (hc:∀ bc V,R0 bc V->V.cell? ⟨bc,15,U⟩=D (J H mp))
 (hG:∀ bc V,R0 bc V->AA I 136 #[Am (D ⟨bc,0,U⟩),J H i] V fun e w'=>e=C (J H g)/\V=w')
 (hT:∀ bc V,R0 bc V->AA I 135 #[Am (D ⟨bc,0,U⟩),J H g,J H i] V fun e w'=>e=C (AO #[J H v,J H E])/\R2 bc w')
 (hS:E=0->∀ bc V,R2 bc V->AA I 137 #[Am (D ⟨bc,0,U⟩),J H i,J H v] V fun e w'=>e=C (J H 0)/\R3 w'):
 AA I 88 #[f,J H n,J H i] w fun e w'=>(E=0/\e=C (AO #[J H v,J H 0])/\R3 w')\/(E≠0/\e=C (AO #[J H 0,J H E])/\∃ bc,R2 bc w'):=by
 have K:=vJ hO;have KA:=vJ hA;have KC:=vJ hc;have KG:=vJ hG;have KT:=vJ hT;by_cases hE:E=0
 . subst hE
   have KS:=vJ (hS rfl);clear hO hA hc hG hT hS;by_cases Gm:(10:Int)<=i
   . have hz:(mp==0)=AI:=by simpa using fun e=>pS ⟨Gm,e⟩
     clear pS;go_enter Tryz.func88,Tryz.ntmps88
     go_wp2_with (first
      |(go_at_call 132;refine K.out.mono ?_;rintro e w2 ⟨bc,rfl,h2⟩;have c15:=KC.out _ _ h2)
      |(go_at_call 133;refine(KA.out _ _ h2).mono ?_;rintro e w' ⟨rfl,rfl⟩)
      |(go_at_call 136;refine(KG.out _ _ h2).mono ?_;rintro e w' ⟨rfl,rfl⟩)
      |(go_at_call 135;refine(KT.out _ _ h2).mono ?_;rintro e w3 ⟨rfl,h3⟩)
      |(go_at_call 137;refine(KS.out _ _ h3).mono ?_;rintro e w4 ⟨rfl,h4⟩))
     go_ret2;exact AN ⟨by trivial,rfl,h4⟩
   . clear pS
     go_enter Tryz.func88,Tryz.ntmps88
     go_wp2_with (first
      |(go_at_call 132;refine K.out.mono ?_;rintro e w2 ⟨bc,rfl,h2⟩;have c15:=KC.out _ _ h2)
      |(go_at_call 133;refine(KA.out _ _ h2).mono ?_;rintro e w' ⟨rfl,rfl⟩)
      |(go_at_call 136;refine(KG.out _ _ h2).mono ?_;rintro e w' ⟨rfl,rfl⟩)
      |(go_at_call 135;refine(KT.out _ _ h2).mono ?_;rintro e w3 ⟨rfl,h3⟩)
      |(go_at_call 137;refine(KS.out _ _ h3).mono ?_;rintro e w4 ⟨rfl,h4⟩))
     go_ret2;exact AN ⟨by trivial,rfl,h4⟩
 . have hE2:(E != 0)=AL:=by simpa using hE
   have HE:=vJ hE;clear hO hA hc hG hT hS hE;by_cases Gm:(10:Int)<=i
   . have hz:(mp==0)=AI:=by simpa using fun e=>pS ⟨Gm,e⟩
     clear pS;go_enter Tryz.func88,Tryz.ntmps88
     go_wp2_with (first
      |(go_at_call 132;refine K.out.mono ?_;rintro e w2 ⟨bc,rfl,h2⟩;have c15:=KC.out _ _ h2)
      |(go_at_call 133;refine(KA.out _ _ h2).mono ?_;rintro e w' ⟨rfl,rfl⟩)
      |(go_at_call 136;refine(KG.out _ _ h2).mono ?_;rintro e w' ⟨rfl,rfl⟩)
      |(go_at_call 135;refine(KT.out _ _ h2).mono ?_;rintro e w3 ⟨rfl,h3⟩))
     go_ret2;exact Ba ⟨HE.out,rfl,bc,h3⟩
   . clear pS
     go_enter Tryz.func88,Tryz.ntmps88
     go_wp2_with (first
      |(go_at_call 132;refine K.out.mono ?_;rintro e w2 ⟨bc,rfl,h2⟩;have c15:=KC.out _ _ h2)
      |(go_at_call 133;refine(KA.out _ _ h2).mono ?_;rintro e w' ⟨rfl,rfl⟩)
      |(go_at_call 136;refine(KG.out _ _ h2).mono ?_;rintro e w' ⟨rfl,rfl⟩)
      |(go_at_call 135;refine(KT.out _ _ h2).mono ?_;rintro e w3 ⟨rfl,h3⟩))
     go_ret2;exact Ba ⟨HE.out,rfl,bc,h3⟩
theorem OR{g:Int}{M E v:Int}(Gm:(10:Int)<=i)(hO:AA I 132 #[f,J H n,J H i] w fun e w'=>∃ bc,e=C (AO #[Am (D ⟨bc,0,U⟩),J H 0])/\R0 bc w')
 (hA:∀ bc V,R0 bc V->AA I 133 #[Am (D ⟨bc,0,U⟩),J H i] V fun e w'=>e=C (J H 0)/\V=w')
 (hc:∀ bc V,R0 bc V->V.cell? ⟨bc,15,U⟩=D (J H 0))
 (hM:∀ bc V,R0 bc V->AA I 134 #[Am (D ⟨bc,0,U⟩)] V fun e w'=>e=C (J H M)/\R1 bc w')
 (hG:M=0->∀ bc V,R1 bc V->AA I 136 #[Am (D ⟨bc,0,U⟩),J H i] V fun e w'=>e=C (J H g)/\V=w')
 (hT:M=0->∀ bc V,R1 bc V->AA I 135 #[Am (D ⟨bc,0,U⟩),J H g,J H i] V fun e w'=>e=C (AO #[J H v,J H E])/\R2 bc w')
 (hS:M=0->E=0->∀ bc V,R2 bc V->AA I 137 #[Am (D ⟨bc,0,U⟩),J H i,J H v] V fun e w'=>e=C (J H 0)/\R3 w'):
 AA I 88 #[f,J H n,J H i] w fun e w'=>(M≠0/\e=C (AO #[J H 0,J H M])/\∃ bc,R1 bc w')\/(M=0/\E=0/\e=C (AO #[J H v,J H 0])/\R3 w')\/(M=0/\E≠0/\e=C (AO #[J H 0,J H E])/\∃ bc,R2 bc w'):=by
 have K:=vJ hO;have KA:=vJ hA;have KC:=vJ hc;have KM:=vJ hM;by_cases hM0:M=0
 . subst hM0
   have KG:=vJ (hG rfl);have KT:=vJ (hT rfl);by_cases hE:E=0
   . subst hE
     have KS:=vJ (hS rfl rfl);clear hO hA hc hM hG hT hS;go_enter Tryz.func88,Tryz.ntmps88
     go_wp2_with (first
      |(go_at_call 132;refine K.out.mono ?_;rintro e w2 ⟨bc,rfl,h2⟩;have c15:=KC.out _ _ h2)
      |(go_at_call 133;refine(KA.out _ _ h2).mono ?_;rintro e w' ⟨rfl,rfl⟩)
      |(go_at_call 134;refine(KM.out _ _ h2).mono ?_;rintro e w3 ⟨rfl,h3⟩)
      |(go_at_call 136;refine(KG.out _ _ h3).mono ?_;rintro e w' ⟨rfl,rfl⟩)
      |(go_at_call 135;refine(KT.out _ _ h3).mono ?_;rintro e w4 ⟨rfl,h4⟩)
      |(go_at_call 137;refine(KS.out _ _ h4).mono ?_;rintro e w5 ⟨rfl,h5⟩))
     go_ret2;exact Ba (AN ⟨by trivial,by trivial,rfl,h5⟩)
   . have hE2:(E != 0)=AL:=by simpa using hE
     have HE:=vJ hE;clear hO hA hc hM hG hT hS hE;go_enter Tryz.func88,Tryz.ntmps88
     go_wp2_with (first
      |(go_at_call 132;refine K.out.mono ?_;rintro e w2 ⟨bc,rfl,h2⟩;have c15:=KC.out _ _ h2)
      |(go_at_call 133;refine(KA.out _ _ h2).mono ?_;rintro e w' ⟨rfl,rfl⟩)
      |(go_at_call 134;refine(KM.out _ _ h2).mono ?_;rintro e w3 ⟨rfl,h3⟩)
      |(go_at_call 136;refine(KG.out _ _ h3).mono ?_;rintro e w' ⟨rfl,rfl⟩)
      |(go_at_call 135;refine(KT.out _ _ h3).mono ?_;rintro e w4 ⟨rfl,h4⟩))
     go_ret2;exact Ba (Ba ⟨by trivial,HE.out,rfl,bc,h4⟩)
 . have hM2:(M != 0)=AL:=by simpa using hM0
   have HM:=vJ hM0;clear hO hA hc hM hG hT hS hM0;go_enter Tryz.func88,Tryz.ntmps88
   go_wp2_with (first
    |(go_at_call 132;refine K.out.mono ?_;rintro e w2 ⟨bc,rfl,h2⟩;have c15:=KC.out _ _ h2)
    |(go_at_call 133;refine(KA.out _ _ h2).mono ?_;rintro e w' ⟨rfl,rfl⟩)
    |(go_at_call 134;refine(KM.out _ _ h2).mono ?_;rintro e w3 ⟨rfl,h3⟩))
   go_ret2;exact AN ⟨HM.out,rfl,bc,h3⟩
end
structure Fmd (w:Ah) (P:Nat->Prop) (d p:Aq) (X:XSt) (S:List Int) (N:List (List Int)) (O:List (Int × Int)) (kk:Nat) (F:Nat->List Int) (bf:Nat):Prop where
 inv:SInv w P d p X
 wi:X.wi=AL
 pl:Pl D8 X.call S N O kk F
 st:Stil S kk
 fs:FsAt w bf p
 nb:¬ P bf
def Onw(X X':XSt):Prop:=X'.is=X.is/\X'.ds=X.ds
theorem Onw.trans{X Y Z:XSt}(h:Onw X Y)(k:Onw Y Z):Onw X Z:=⟨k.1.trans h.1,k.2.trans h.2⟩
theorem Onw.refl(X:XSt):Onw X X:=⟨rfl,rfl⟩
section
variable {w:Ah}{P:Nat->Prop}{d p:Aq}{X:XSt}{S:List Int}{N:List (List Int)}{O:List (Int × Int)}{kk:Nat}{F:Nat->List Int}{bf:Nat}
theorem Fmd.cur(h:Fmd w P d p X S N O kk F bf):X.cur=X.call:=by unfold XSt.cur;rw[AC h.wi]
theorem Fmd.isl(h:Fmd w P d p X S N O kk F bf):X.is.length=64*kk:=by rw[<- h.inv.xok.curLen,h.cur];exact h.pl.has.len
theorem Fmd.low(h:Fmd w P d p X S N O kk F bf){w':Ah}(hb:At w.heap.size w w'):Fmd w' P d p X S N O kk F bf:={ h with inv:=h.inv.low hb,fs:=h.fs.low hb }
end
structure Chs (w0:Ah) (P0:Nat->Prop) (w:Ah) (P:Nat->Prop) (d p:Aq) (X:XSt) (S:List Int) (N:List (List Int)) (O:List (Int × Int)) (kk:Nat) (F:Nat->List Int) (bf n i bc:Nat) (fv:Aq):Prop where
 md:Fmd w P d p X S N O kk F bf
 ch:ChAt w bc bf n (N.getD n []) fv
 nc:¬ P bc
 bb:w0.heap.size<=bc
 far:10<=i->∃ bg,FarA w w0.heap.size bc P fv (F n) bg
 cg:Chg P0 P w0 w
section
variable {w0 w:Ah}{P0 P:Nat->Prop}{d p:Aq}{X:XSt}{S:List Int}{N:List (List Int)}{O:List (Int × Int)}{kk:Nat}{F:Nat->List Int}{bf n i bc:Nat}{fv:Aq}
theorem Chs.open(h:Fmd w P d p X S N O kk F bf)(h1:1<=n)(Bu:n<48)(hk:Ca N n≠0)(hi:i<138):
 AA I 132 #[Am (D ⟨bf,0,U⟩),J H n,J H i] w fun e w'=>∃ bc,e=C (AO #[Am (D ⟨bc,0,U⟩),J H 0])/\∃ fv,Chs w P w' P d p X S N O kk F bf n i bc fv:=by
 have hc:=h.cur;refine(Ns (F:=F) h.inv h.fs (by rw[hc];exact h.pl.tab) (by rw[hc];exact h.pl.fi) h.pl.ok.k12 (by rw[hc];exact h.pl.has.len) h1 Bu hk hi (AM _ _)).mono ?_;rintro e w' ⟨bc,fv,he,hbc,Sm,mc,hb⟩;exact⟨bc,he,fv,h.low hb,Sm,fun hp=>by have:=h.inv.lt _ hp;omega,hbc,mc,Chg.of_below hb⟩
theorem Chs.at(h:Chs w0 P0 w P d p X S N O kk F bf n i bc fv)(hi:i<138):AA I 133 #[Am (D ⟨bc,0,U⟩),J H i] w fun e w'=>e=C (J H (BJ (N.getD n []) (F n) i))/\w=w':=Nw h.ch h.far hi
theorem Chs.goal(h:Chs w0 P0 w P d p X S N O kk F bf n i bc fv)(Bu:n<48)(hi:i<138):AA I 136 #[Am (D ⟨bc,0,U⟩),J H i] w fun e w'=>e=C (J H (Gt (N.getD n []) (F n) i))/\w=w':=
 df h.ch h.far hi fun h0=>Nu (h.md.pl.tab.n.frm n Bu) (h.md.pl.fi.fl n) (by omega)
def Hu(X:XSt)(O:List (Int × Int))(f:Nat)(q:Int × Int):XSt:=Su (IJ X (f / 64) (Fa (O.set f q) (f / 64))) f z256
structure Base (Q:List Int) (S:List Int) (kk n:Nat) (mp:Int):Prop where
 g:∀ g,g<kk->(Ci g:Int)∈Q/\(Ci g:Int)+1∈Q
 t:((Dj S (n / 8):Nat):Int)∈Q
 m:mp≠0->mp∈Q
theorem PutS.adds{X X':XSt}{Q:List Int}(h:PutS X Q){a b:Int}(ha:a∈Q)(hb:b∈Q)(e:X'.put=Fj (Fj X.put a) b):PutS X' Q:=
 PutS.add (X:={ X with put:=Fj X.put a }) (h.add ha rfl) hb e
theorem PutS.tak{Q:List Int}(h:PutS X Q){f:Nat}{q:Int × Int}(hg:(Ci (f / 64):Int)∈Q/\(Ci (f / 64):Int)+1∈Q):PutS (IJ X (f / 64) (Fa (O.set f q) (f / 64))) Q/\PutS (Hu X O f q) (Q ++ [(f:Int)]):=by
 have h1:PutS (IJ X (f / 64) (Fa (O.set f q) (f / 64))) Q:=h.adds hg.2 hg.1 rfl;exact⟨h1,(h1.wide fun a ha=>Br _ ha).add (Ep _ (Et.2 rfl)) rfl⟩
theorem jn{f:Nat}(hf:FreeB O kk f)(h12:kk<=12):Ei f:=by
 have hx:=hf.fx;have:=hf.lt;unfold CJ at hx;have:=BL hx;unfold Ei;omega
theorem Chs.take(h:Chs w0 P0 w P d p X S N O kk F bf n i bc fv)(h1:1<=n)(Bu:n<48)(g:Int){a:Nat}(ha:a<139){Q:List Int}(hq:PutS X Q)(hQ:Q.length<=35)(hB:∀ g,g<kk->(Ci g:Int)∈Q/\(Ci g:Int)+1∈Q)(hr:(Dm O (64*kk):Int)<62*(kk:Int)-42):
 ∃ f:Nat,FreeB O kk f/\Hk O (64*kk) (Hl (64*kk) g)=f/\PutS (Hu X O f (n,IP a)) (Q ++ [(f:Int)])/\
   AA I 135 #[Am (D ⟨bc,0,U⟩),J H g,J H (IP a)] w fun e w'=>e=C (AO #[J H f,J H 0])/\∃ P',Chs w0 P0 w' P' d p (Hu X O f (n,IP a)) S N (O.set f (n,IP a)) kk F bf n i bc fv/\Chg P P' w w':=by
 have hO:=h.md.pl.ok;have h12:=hO.k12;obtain⟨f,f1,f2,f3,f4⟩:=S2 hO (m:=kk) (g:=Hl (64*kk) g) hO.k1 (AB _) (by unfold Hl;have:=hO.k1;split <;> omega) hr;have hf:FreeB O kk f:=⟨f3,f4,f1⟩;have hbd:=iV ha;obtain⟨A,hA⟩:∃ A:Nat,IP a=(A:Int):=⟨(IP a).toNat,by omega⟩;have cw:=LJ h1 Bu ha;obtain⟨p1,p2⟩:=hq.tak (O:=O) (f:=f) (q:=((n:Int),IP a)) (hB (f / 64) (by omega));refine⟨f,hf,f2,p2,?_⟩;have hpl:=(h.md.pl.take hf.fr hf.fx hf.lt (i:=(n:Int)) (j:=IP a) (by omega) hbd cw (by omega) (by omega)).1;rw[hA] at hbd cw hpl p1 |-
 refine(Zt (X1:=IJ X (f / 64) (Fa (O.set f ((n:Int),(A:Int))) (f / 64))) (f:=f) (d:=d) h.ch h.nc h.md.fs h.md.nb Bu (a:=A) (by omega) h.md.inv.lt (fun V hV=>Z7 (h.md.inv.low hV) h.md.wi (by have:=hq.le;omega) h.md.pl.has hO (h.md.fs.low hV) h.md.pl.tab h.md.st g (by omega) hbd cw (by omega) (by omega) hr f1 f2 f4)
  h.md.wi (by have:=p1.le;omega) (by show f<X.is.length;rw[h.md.isl];exact f1) (by omega) (jn hf h12)).mono ?_
 rintro e w' ⟨he,P',hi,hg⟩;obtain⟨hfs,IH⟩:=h.md.fs.chg hg h.md.nb;obtain⟨Sm,Hn⟩:=h.ch.chg hg h.nc;exact⟨he,P',⟨⟨hi,h.md.wi,hpl,h.md.st,hfs,IH⟩,Sm,Hn,h.bb,fun Gm=>let ⟨bg,hbg⟩:=h.far Gm;⟨bg,hbg.chg hg⟩,h.cg.trans hg⟩,hg⟩
theorem Chs.full(h:Chs w0 P0 w P d p X S N O kk F bf n i bc fv)(h1:1<=n)(Bu:n<48)(g:Int){a:Nat}(ha:a<139)(hr:62*(kk:Int)-42<=(Dm O (64*kk):Int)):
 AA I 135 #[Am (D ⟨bc,0,U⟩),J H g,J H (IP a)] w fun e w'=>e=C (AO #[J H 0,J H 13])/\At w.heap.size w w':=by
 have hbd:=iV ha;obtain⟨A,hA⟩:∃ A:Nat,IP a=(A:Int):=⟨(IP a).toNat,by omega⟩;have cw:=LJ h1 Bu ha;rw[hA] at hbd cw |-
 exact Xm (R:=fun _=>True) h.ch Bu (a:=A) (by omega) fun V hV=>Wd (h.md.inv.low hV) h.md.wi h.md.pl.has h.md.pl.ok (h.md.fs.low hV) h.md.pl.tab h.md.st g (by omega) hbd cw (by omega) (by omega) hr
theorem Chs.low(h:Chs w0 P0 w P d p X S N O kk F bf n i bc fv){w':Ah}(hb:At w.heap.size w w'):Chs w0 P0 w' P d p X S N O kk F bf n i bc fv:=
 ⟨h.md.low hb,h.ch.low hb,h.nc,h.bb,fun Gm=>let ⟨bg,hbg⟩:=h.far Gm;⟨bg,hbg.low hb⟩,h.cg.trans (Chg.of_below hb)⟩
theorem Chs.near(h:Chs w0 P0 w P d p X S N O kk F bf n i bc fv)(h1:1<=n)(Bu:n<48)(hp:X.put.length<37){b:Nat}(hb:b<10){v:Int}(IF:El ((N.getD n []).set (3+b) v)=AL)(hpl:Pl D8 (PQ X.call S N n ((N.getD n []).set (3+b) v)) S (N.set n ((N.getD n []).set (3+b) v)) O kk F):
 AA I 137 #[Am (D ⟨bc,0,U⟩),J H b,J H v] w fun e w'=>e=C (J H 0)/\∃ P',Chs w0 P0 w' P' d p (putI X S N n ((N.getD n []).set (3+b) v)) S (N.set n ((N.getD n []).set (3+b) v)) O kk F bf n i bc fv:=by
 refine(R8 h.md.inv h.md.wi hp h.md.fs h.md.pl.tab h1 Bu h.ch h.nc hb IF).mono ?_;rintro e w' ⟨he,P',hi,Sm,hg,Hn⟩;obtain⟨hfs,IH⟩:=h.md.fs.chg hg (fun hx=>hx.elim h.md.nb fun e=>h.md.fs.ne_ch h.ch e);have hy:(N.set n ((N.getD n []).set (3+b) v)).getD n []=(N.getD n []).set (3+b) v:=by rw[D5 (by rw[h.md.pl.tab.n.len];exact Bu),AC rfl]
 refine⟨he,P',⟨hi,h.md.wi,hpl,h.md.st,hfs,fun e=>IH (AN e)⟩,by rw[hy];exact Sm,Hn,h.bb,fun Gm=>?_,Chg.inner2 h.cg hg fun k hk=>by rw[hk];exact h.bb⟩;obtain⟨bg,f1,f2,f3,f4,f5,f6⟩:=h.far Gm;have:=hg.keep bg (Al.1 f6).1 fun hx=>hx.elim f4 f3
 exact⟨bg,f1,f2,f3,fun e=>this.2 (AN e),f5,this.1.trans f6⟩
theorem Chs.setFar(h:Chs w0 P0 w P d p X S N O kk F bf n i bc fv)(h1:1<=n)(Bu:n<48)(hp:X.put.length<37){b:Nat}(Gm:10<=b)(hb:b<138)(aD:∃ bg,FarA w w0.heap.size bc P fv (F n) bg){v:Int}(hL:FP ((F n).set (b-10) v)=AL){m:Nat}(hm:num (N.getD n []) 13=(m:Int))(FH:m≠0)
 (hpl:Pl D8 (X.call.set m (FO ((F n).set (b-10) v))) S N O kk (setF F n ((F n).set (b-10) v))):
 AA I 137 #[Am (D ⟨bc,0,U⟩),J H b,J H v] w fun e w'=>e=C (J H 0)/\∃ P',Chs w0 P0 w' P' d p (Su X m (FO ((F n).set (b-10) v))) S N O kk (setF F n ((F n).set (b-10) v)) bf n i bc fv:=by
 have ho:=hpl.fi.map h1 Bu id (by rw[hm];omega);rw[hm] at ho;have h12:=hpl.ok.k12;have hob:=ho.1;have cN:=ho.outJ h12;rw[B5] at cN;obtain⟨bg,hbg⟩:=aD;obtain⟨f1,f2,f3,f4,f5,f6⟩:=hbg;refine(Tu h.md.inv h.md.wi hp h.md.fs h.ch h.nc ⟨f1,f2,f3,f4,f5,f6⟩ Gm hb hL hm (by rw[h.md.isl];omega) (by omega) cN).mono ?_;rintro e w' ⟨he,P',hi,Sm,mc,hg,Hn⟩;obtain⟨hfs,IH⟩:=h.md.fs.chg hg (fun hx=>hx.elim h.md.nb fun e=>h.md.fs.ne_io f6 f1 e);exact⟨he,P',⟨hi,h.md.wi,hpl,h.md.st,hfs,fun e=>IH (AN e)⟩,Sm,Hn,h.bb,fun _=>⟨bg,by rw[JX];exact mc⟩,Chg.inner2 h.cg hg fun k hk=>by rw[hk];exact f2⟩
theorem Chs.addMap(h:Chs w0 P0 w P d p X S N O kk F bf n i bc fv)(h1:1<=n)(Bu:n<48)(hk:Ca N n≠0)(h0:num (N.getD n []) 13=0){Q:List Int}(hq:PutS X Q)(hQ:Q.length<=35)(hB:∀ g,g<kk->(Ci g:Int)∈Q/\(Ci g:Int)+1∈Q)(hr:(Dm O (64*kk):Int)<62*(kk:Int)-42):
 ∃ m:Nat,FreeB O kk m/\Hk O (64*kk) (Hl (64*kk) 0)=m/\PutS (Hu X O m (n,65535)) (Q ++ [(m:Int)])/\
   AA I 134 #[Am (D ⟨bc,0,U⟩)] w fun e w'=>e=C (J H 0)/\∃ P',Chs w0 P0 w' P' d p (putI (Hu X O m (n,65535)) S N n ((N.getD n []).set 13 m)) S (N.set n ((N.getD n []).set 13 m)) (O.set m (n,65535)) kk F bf n i bc fv:=by
 obtain⟨m,hm,hms,p2,hT⟩:=h.take h1 Bu 0 (a:=138) (by decide) hq hQ hB hr;have e138:IP 138=65535:=rfl;rw[e138] at p2 hT;obtain⟨hst,IF⟩:=h.md.pl.addMap h1 Bu hk h0 hm;refine⟨m,hm,hms,p2,?_⟩;have sM:=p2.le;rw[Ax,List.length_singleton] at sM;have htab:=(h.md.pl.take hm.fr hm.fx hm.lt (i:=(n:Int)) (j:=65535) (by omega) (by omega) (LJ h1 Bu (i:=138) (by omega)) (by omega) (by omega)).1.tab;refine(Ui (X:=Hu X O m (n,65535)) (hT.mono fun e w' ⟨he,P',hx,hg⟩=>⟨he,P',hx.md.inv,hg⟩) h.md.wi (by omega) h.md.fs h.md.nb htab h1 Bu h.ch h.nc IF).mono ?_;rintro e w' ⟨he,P',hi,Sm,hg,Hn⟩;obtain⟨hfs,IH⟩:=h.md.fs.chg hg (fun hx=>hx.elim h.md.nb fun e=>h.md.fs.ne_ch h.ch e);have hy:(N.set n ((N.getD n []).set 13 (m:Int))).getD n []=(N.getD n []).set 13 (m:Int):=by rw[D5 (by rw[h.md.pl.tab.n.len];exact Bu),AC rfl]
 refine⟨he,P',⟨hi,h.md.wi,hst.pl,h.md.st,hfs,fun e=>IH (AN e)⟩,by rw[hy];exact Sm,Hn,h.bb,fun Gm=>?_,Chg.inner2 h.cg hg fun k hk=>by rw[hk];exact h.bb⟩;obtain⟨bg,f1,f2,f3,f4,f5,f6⟩:=h.far Gm;have:=hg.keep bg (Al.1 f6).1 fun hx=>hx.elim f4 f3
 exact⟨bg,f1,f2,f3,fun e=>this.2 (AN e),f5,this.1.trans f6⟩
end
structure MapR (X:XSt) (S:List Int) (N:List (List Int)) (O:List (Int × Int)) (kk:Nat) (F:Nat->List Int) (n i:Nat) (Q:List Int) (v:Int) (X':XSt) (N':List (List Int)) (O':List (Int × Int)) (F':Nat->List Int):Prop where
 st:Stp S kk X.call N O F n X'.call N' O' F'
 v0:0<v
 loc:∀ b,b<138->BJ (N'.getD n []) (F' n) b=if b=i then v else BJ (N.getD n []) (F n) b
 mp:num (N'.getD n []) 13≠0 ↔ (num (N.getD n []) 13≠0\/10<=i)
 zer:X'.call.getD v.toNat []=z256
 on:Onw X X'
 pt:∃ R,R.length<=2/\(i<10->R=[v])/\PutS X' (Q ++ R)
 near:i<10->O'=O.set v.toNat (n,i)/\v=Hk O (64*kk) (Hl (64*kk) (Gt (N.getD n []) (F n) i))
 pw:∃ R,R.length<=2/\v∈R/\PutS X' (Q ++ R)/\(num (N'.getD n []) 13≠0->num (N'.getD n []) 13∈Q ++ R)
def Ra(mp:Int)(i:Nat):Nat:=if 10<=i/\mp=0 then 2 else 1
section
variable {w:Ah}{P:Nat->Prop}{d p:Aq}{X:XSt}{S:List Int}{N:List (List Int)}{O:List (Int × Int)}{kk:Nat}{F:Nat->List Int}{bf n i:Nat}{Q:List Int}
theorem XA(hO:OOk O kk)(g:Int)(hr:(Dm O (64*kk):Int)<62*(kk:Int)-42):∃ f:Nat,FreeB O kk f/\Hk O (64*kk) (Hl (64*kk) g)=f:=by
 obtain⟨f,f1,f2,f3,f4⟩:=S2 hO (m:=kk) (g:=Hl (64*kk) g) hO.k1 (AB _) (by unfold Hl;have:=hO.k1;split <;> omega) hr;exact⟨f,⟨f3,f4,f1⟩,f2⟩
theorem PutS.last{Q R:List Int}(h:PutS X (Q ++ R)){X':XSt}{a:Int}(ha:a∈Q)(e:X'.put=Fj X.put a):PutS X' (Q ++ R):=h.add (Br _ ha) e
theorem YC(h:Fmd w P d p X S N O kk F bf)(h1:1<=n)(Bu:n<48)(hk:Ca N n≠0)(hi:i<10)(h0:BJ (N.getD n []) (F n) i=0)(hq:PutS X Q)(hQ:Q.length<=34)(hB:Base Q S kk n (num (N.getD n []) 13))(hr:(Dm O (64*kk):Int)<62*(kk:Int)-42):
 AA I 88 #[Am (D ⟨bf,0,U⟩),J H n,J H i] w fun e w'=>∃ v P' X' N' O' F',e=C (AO #[J H v,J H 0])/\Fmd w' P' d p X' S N' O' kk F' bf/\MapR X S N O kk F n i Q v X' N' O' F'/\Chg P P' w w':=by
 have Ha:IP i=(i:Int):=by unfold IP;rw[AE (by omega)]
 obtain⟨f,hf,hfs⟩:=XA h.pl.ok (Gt (N.getD n []) (F n) i) hr;obtain⟨hst,IF,hz⟩:=h.pl.mapNear h1 Bu hk hi h0 hf;have hn:n<N.length:=by rw[h.pl.tab.n.len];exact Bu
 have hx:=h.pl.tab.n.get Bu;have pY:=(Gs hf.fx).1
 refine(RK (mp:=num (N.getD n []) 13) (g:=Gt (N.getD n []) (F n) i) (E:=0) (v:=(f:Int)) (R0:=fun bc V=>∃ fv,Chs w P V P d p X S N O kk F bf n i bc fv)
  (R2:=fun bc V=>PutS (Hu X O f (n,i)) (Q ++ [(f:Int)])/\∃ fv P2,Chs w P V P2 d p (Hu X O f (n,i)) S N (O.set f (n,i)) kk F bf n i bc fv)
  (R3:=fun w'=>PutS (Hu X O f (n,i)) (Q ++ [(f:Int)])/\∃ bc fv P3,Chs w P w' P3 d p (putI (Hu X O f (n,i)) S N n ((N.getD n []).set (3+i) f)) S (N.set n ((N.getD n []).set (3+i) f)) (O.set f (n,i)) kk F bf n i bc fv)
  (by omega) (Chs.open h h1 Bu hk (by omega)) ?_ ?_ ?_ ?_ ?_).mono ?_
 . rintro bc V ⟨fv,hc⟩;rw[<- h0];exact(hc.at (by omega))
 . rintro bc V ⟨fv,hc⟩;exact hc.ch.cm
 . rintro bc V ⟨fv,hc⟩;exact hc.goal Bu (by omega)
 . rintro bc V ⟨fv,hc⟩
   obtain⟨f',hf',uO,p2,hT⟩:=hc.take h1 Bu (Gt (N.getD n []) (F n) i) (a:=i) (by omega) hq (by omega) hB.g hr;obtain rfl:f'=f:=by omega
   rw[Ha] at p2 hT;exact hT.mono fun e w' ⟨he,P',hc',_⟩=>⟨he,p2,fv,P',hc'⟩
 . rintro _ bc V ⟨p2,fv,P2,hc⟩
   have:=p2.le;rw[Ax,List.length_singleton] at this;exact(hc.near h1 Bu (by omega) hi IF hst.pl).mono fun e w' ⟨he,P',hc'⟩=>⟨he,p2,bc,fv,P',hc'⟩
 . rintro e w' (⟨_,he,p2,bc,fv,P3,hc⟩| ⟨h,_⟩)
   . refine⟨(f:Int),P3,_,_,_,_,he,hc.md,⟨hst,by omega,fun b hb=>?_,?_,by rw[B5];exact hz,⟨rfl,rfl⟩,⟨[(f:Int)],by simp,fun _=>rfl,p2.last hB.t rfl⟩,fun _=>⟨by rw[B5],hfs.symm⟩,⟨[(f:Int)],by simp,by simp,p2.last hB.t rfl,fun h=>?_⟩⟩,hc.cg⟩
     . rw[D5 hn,AC rfl,L0 hx hi]
     . rw[D5 hn,AC rfl,CA (by omega),AE (by omega)]
       exact⟨AN,fun h=>h.elim id fun h=>absurd h (by omega)⟩
     . rw[D5 hn,AC rfl,CA (by omega),AE (by omega)] at h |-
       exact Br _ (hB.m h)
   . exact absurd rfl h
theorem cZ(h:Fmd w P d p X S N O kk F bf)(h1:1<=n)(Bu:n<48)(hk:Ca N n≠0)(Gm:10<=i)(hi:i<138)(h0:BJ (N.getD n []) (F n) i=0)(hq:PutS X Q)(hQ:Q.length<=34)(hB:Base Q S kk n (num (N.getD n []) 13))(hr:(Dm O (64*kk):Int)<62*(kk:Int)-42)(FH:num (N.getD n []) 13≠0):
 AA I 88 #[Am (D ⟨bf,0,U⟩),J H n,J H i] w fun e w'=>∃ v P' X' N' O' F',e=C (AO #[J H v,J H 0])/\Fmd w' P' d p X' S N' O' kk F' bf/\MapR X S N O kk F n i Q v X' N' O' F'/\Chg P P' w w':=by
 have Ha:IP i=(i:Int):=by unfold IP;rw[AE (by omega)]
 obtain⟨f,hf,hfs⟩:=XA h.pl.ok (Gt (N.getD n []) (F n) i) hr;have ho:=h.pl.fi.map h1 Bu id FH;obtain⟨m,hm⟩:∃ m:Nat,num (N.getD n []) 13=(m:Int):=⟨(num (N.getD n []) 13).toNat,by have:=ho.1;omega⟩;have cT:m≠0:=by omega
 obtain⟨hst,hL,hz⟩:=h.pl.mapFar h1 Bu Gm hi h0 hf hm cT;have pY:=(Gs hf.fx).1;have hmQ:=hB.m FH;rw[hm] at hmQ
 refine(RK (mp:=num (N.getD n []) 13) (g:=Gt (N.getD n []) (F n) i) (E:=0) (v:=(f:Int)) (R0:=fun bc V=>∃ fv,Chs w P V P d p X S N O kk F bf n i bc fv)
  (R2:=fun bc V=>PutS (Hu X O f (n,i)) (Q ++ [(f:Int)])/\∃ fv P2,Chs w P V P2 d p (Hu X O f (n,i)) S N (O.set f (n,i)) kk F bf n i bc fv)
  (R3:=fun w'=>PutS (Hu X O f (n,i)) (Q ++ [(f:Int)])/\∃ bc fv P3,Chs w P w' P3 d p (Su (Hu X O f (n,i)) m (FO ((F n).set (i-10) f))) S N (O.set f (n,i)) kk (setF F n ((F n).set (i-10) f)) bf n i bc fv)
  (fun e=>FH e.2) (Chs.open h h1 Bu hk hi) ?_ ?_ ?_ ?_ ?_).mono ?_
 . rintro bc V ⟨fv,hc⟩;rw[<- h0];exact(hc.at hi)
 . rintro bc V ⟨fv,hc⟩;exact hc.ch.cm
 . rintro bc V ⟨fv,hc⟩;exact hc.goal Bu hi
 . rintro bc V ⟨fv,hc⟩
   obtain⟨f',hf',uO,p2,hT⟩:=hc.take h1 Bu (Gt (N.getD n []) (F n) i) (a:=i) (by omega) hq (by omega) hB.g hr;obtain rfl:f'=f:=by omega
   rw[Ha] at p2 hT;exact hT.mono fun e w' ⟨he,P',hc',_⟩=>⟨he,p2,fv,P',hc'⟩
 . rintro _ bc V ⟨p2,fv,P2,hc⟩
   have:=p2.le;rw[Ax,List.length_singleton] at this;exact(hc.setFar h1 Bu (by omega) Gm hi (hc.far Gm) hL hm cT hst.pl).mono fun e w' ⟨he,P',hc'⟩=>⟨he,p2,bc,fv,P',hc'⟩
 . rintro e w' (⟨_,he,p2,bc,fv,P3,hc⟩| ⟨h,_⟩)
   . refine⟨(f:Int),P3,_,_,_,_,he,hc.md,⟨hst,by omega,fun b hb=>?_,⟨AN,fun _=>FH⟩,by rw[B5];exact hz,⟨rfl,rfl⟩,⟨[(f:Int)],by simp,fun _=>rfl,p2.last hmQ rfl⟩,fun h=>absurd h (by omega),⟨[(f:Int)],by simp,by simp,p2.last hmQ rfl,fun _=>by rw[hm];exact Br _ hmQ⟩⟩,hc.cg⟩
     rw[JX,Lr (h.pl.fi.fl n).1 Gm hi]
   . exact absurd rfl h
theorem Chs.mapFar{w0:Ah}{P0:Nat->Prop}{bc:Nat}{fv:Aq}{f m:Nat}(hc:Chs w0 P0 w P d p (Hu X O f (n,i)) S N (O.set f (n,i)) kk F bf n i bc fv)(h1:1<=n)(Bu:n<48)(Gm:10<=i)(hi:i<138)(hp:(Hu X O f (n,i)).put.length<37)(hL:FP ((F n).set (i-10) f)=AL)(hm:num (N.getD n []) 13=(m:Int))(cT:m≠0)
 (hpl:Pl D8 ((P9 X.call O f (n,i)).set m (FO ((F n).set (i-10) f))) S N (O.set f (n,i)) kk (setF F n ((F n).set (i-10) f))):
 AA I 137 #[Am (D ⟨bc,0,U⟩),J H i,J H f] w fun e w'=>e=C (J H 0)/\∃ P',Chs w0 P0 w' P' d p (Su (Hu X O f (n,i)) m (FO ((F n).set (i-10) f))) S N (O.set f (n,i)) kk (setF F n ((F n).set (i-10) f)) bf n i bc fv:=
 hc.setFar h1 Bu hp Gm hi (hc.far Gm) hL hm cT hpl
theorem YX(h:Fmd w P d p X S N O kk F bf)(h1:1<=n)(Bu:n<48)(hk:Ca N n≠0)(Gm:10<=i)(hi:i<138)(h0:BJ (N.getD n []) (F n) i=0)(hq:PutS X Q)(hQ:Q.length<=34)(hB:Base Q S kk n (num (N.getD n []) 13))(hr:(Dm O (64*kk):Int)+1<62*(kk:Int)-42)(FH:num (N.getD n []) 13=0):
 AA I 88 #[Am (D ⟨bf,0,U⟩),J H n,J H i] w fun e w'=>∃ v P' X' N' O' F',e=C (AO #[J H v,J H 0])/\Fmd w' P' d p X' S N' O' kk F' bf/\MapR X S N O kk F n i Q v X' N' O' F'/\Chg P P' w w':=by
 have Ha:IP i=(i:Int):=by unfold IP;rw[AE (by omega)]
 obtain⟨m,hm,hms⟩:=XA h.pl.ok 0 (by omega);obtain⟨hst1,IF⟩:=h.pl.addMap h1 Bu hk FH hm;have cT:=(Gs hm.fx).1;have hn:n<N.length:=by rw[h.pl.tab.n.len];exact Bu
 have hx:=h.pl.tab.n.get Bu;obtain⟨N1,hN1⟩:=nm (N.set n ((N.getD n []).set 13 (m:Int)));obtain⟨X1,rY⟩:=nm (putI (Hu X O m (n,65535)) S N n ((N.getD n []).set 13 m));obtain⟨O1,sV⟩:=nm (O.set m ((n:Int),(65535:Int)));have hy:N1.getD n []=(N.getD n []).set 13 (m:Int):=by rw[hN1,D5 hn,AC rfl]
 have hst:Stp S kk X.call N O F n X1.call N1 O1 F:=by rw[rY,hN1,sV];exact hst1
 have o5:num (N1.getD n []) 13=(m:Int):=by rw[hy,CA (by omega),AC rfl]
 have p_:∀ b,b<138->BJ (N1.getD n []) (F n) b=BJ (N.getD n []) (F n) b:=fun b hb=>by rw[hy,L6 hx,AE (by omega)]
 have hc1:Dm O1 (64*kk)=Dm O (64*kk)+1:=by
  rw[sV];exact Kp (by rw[h.pl.ok.len];exact hm.lt) hm.fr hm.fx (by omega) _ hm.lt
 obtain⟨f,hf,hfs⟩:=XA hst.pl.ok (Gt (N1.getD n []) (F n) i) (by rw[hc1];push_cast;omega);have h01:BJ (N1.getD n []) (F n) i=0:=by rw[p_ i hi];exact h0
 obtain⟨hst2,hL,hz⟩:=hst.pl.mapFar h1 Bu Gm hi h01 hf o5 cT;have pY:=(Gs hf.fx).1
 refine(OR (g:=Gt (N1.getD n []) (F n) i) (M:=0) (E:=0) (v:=(f:Int)) (R0:=fun bc V=>∃ fv,Chs w P V P d p X S N O kk F bf n i bc fv)
  (R1:=fun bc V=>PutS (Hu X O m (n,65535)) (Q ++ [(m:Int)])/\∃ fv P1,Chs w P V P1 d p X1 S N1 O1 kk F bf n i bc fv)
  (R2:=fun bc V=>PutS (Hu X1 O1 f (n,i)) (Q ++ [(m:Int)] ++ [(f:Int)])/\∃ fv P2,Chs w P V P2 d p (Hu X1 O1 f (n,i)) S N1 (O1.set f (n,i)) kk F bf n i bc fv)
  (R3:=fun w'=>PutS (Hu X1 O1 f (n,i)) (Q ++ [(m:Int)] ++ [(f:Int)])/\∃ bc fv P3,Chs w P w' P3 d p (Su (Hu X1 O1 f (n,i)) m (FO ((F n).set (i-10) f))) S N1 (O1.set f (n,i)) kk (setF F n ((F n).set (i-10) f)) bf n i bc fv)
  (by omega) (Chs.open h h1 Bu hk hi) ?_ ?_ ?_ ?_ ?_ ?_).mono ?_
 . rintro bc V ⟨fv,hc⟩;rw[<- h0];exact(hc.at hi)
 . rintro bc V ⟨fv,hc⟩;rw[<- FH];exact hc.ch.cm
 . rintro bc V ⟨fv,hc⟩
   obtain⟨m',hm',hms',p2,hT⟩:=hc.addMap h1 Bu hk FH hq (by omega) hB.g (by omega);obtain rfl:m'=m:=by omega
   rw[<- rY,<- hN1,<- sV] at hT;exact hT.mono fun e w' ⟨he,P',hc'⟩=>⟨he,p2,fv,P',hc'⟩
 . rintro _ bc V ⟨p2,fv,P1,hc⟩;exact hc.goal Bu hi
 . rintro _ bc V ⟨p2,fv,P1,hc⟩
   have p3:PutS X1 (Q ++ [(m:Int)]):=p2.last hB.t (by rw[rY];rfl);obtain⟨f',hf',uO,p4,hT⟩:=hc.take h1 Bu (Gt (N1.getD n []) (F n) i) (a:=i) (by omega) p3 (by rw[Ax,List.length_singleton];omega) (fun g hg=>⟨Br _ (hB.g g hg).1,Br _ (hB.g g hg).2⟩) (by rw[hc1];push_cast;omega);obtain rfl:f'=f:=by omega
   rw[Ha] at p4 hT;exact hT.mono fun e w' ⟨he,P',hc',_⟩=>⟨he,p4,fv,P',hc'⟩
 . rintro _ _ bc V ⟨p2,fv,P2,hc⟩
   have:=p2.le;rw[Ax,Ax,List.length_singleton,List.length_singleton] at this;exact(hc.mapFar h1 Bu Gm hi (by omega) hL o5 cT hst2.pl).mono fun e w' ⟨he,P',hc'⟩=>⟨he,p2,bc,fv,P',hc'⟩
 . rintro e w' (⟨h,_⟩| ⟨_,_,he,p2,bc,fv,P3,hc⟩| ⟨_,h,_⟩)
   . exact absurd rfl h
   . have hx1:Onw X X1:=by rw[rY];exact⟨rfl,rfl⟩
     refine⟨(f:Int),P3,_,_,_,_,he,hc.md,⟨hst.trans hst2,by omega,fun b hb=>?_,?_,by rw[B5];exact hz,hx1.trans ⟨rfl,rfl⟩,⟨[(m:Int),(f:Int)],by simp,fun h=>absurd h (by omega),?_⟩,fun h=>absurd h (by omega),⟨[(m:Int),(f:Int)],by simp,by simp,?_,fun _=>by rw[o5];simp⟩⟩,hc.cg⟩
     . rw[JX,Lr (h.pl.fi.fl n).1 Gm hi,p_ b hb]
     . rw[o5];exact⟨fun _=>Ba Gm,fun _=>by omega⟩
     . rw[AQ] at p2
       exact p2.add (Ep _ (B7)) rfl
     . rw[AQ] at p2
       exact p2.add (Ep _ (B7)) rfl
   . exact absurd rfl h
theorem Zj(h:Fmd w P d p X S N O kk F bf)(h1:1<=n)(Bu:n<48)(hk:Ca N n≠0)(hi:i<138)(h0:BJ (N.getD n []) (F n) i=0)(hq:PutS X Q)(hQ:Q.length<=34)(hB:Base Q S kk n (num (N.getD n []) 13))(hr:62*(kk:Int)-42<(Dm O (64*kk):Int)+(Ra (num (N.getD n []) 13) i:Int)):
 AA I 88 #[Am (D ⟨bf,0,U⟩),J H n,J H i] w fun e w'=>e=C (AO #[J H 0,J H 13])/\∃ P' X' N' O',Fmd w' P' d p X' S N' O' kk F bf/\Onw X X'/\Chg P P' w w':=by
 have Ha:IP i=(i:Int):=by unfold IP;rw[AE (by omega)]
 by_cases hc:10<=i/\num (N.getD n []) 13=0
 . obtain⟨Gm,FH⟩:=hc
   have e2:Ra (num (N.getD n []) 13) i=2:=AC ⟨Gm,FH⟩;rw[e2] at hr;by_cases hr1:(Dm O (64*kk):Int)<62*(kk:Int)-42
   . obtain⟨m,hm,hms⟩:=XA h.pl.ok 0 hr1
     have hn:n<N.length:=(by rw[h.pl.tab.n.len];exact Bu);have hx:=h.pl.tab.n.get Bu;have cT:=(Gs hm.fx).1;have hc1:Dm (O.set m ((n:Int),(65535:Int))) (64*kk)=Dm O (64*kk)+1:=Kp (by rw[h.pl.ok.len];exact hm.lt) hm.fr hm.fx (by omega) _ hm.lt;obtain⟨N1,hN1⟩:=nm (N.set n ((N.getD n []).set 13 (m:Int)));obtain⟨X1,rY⟩:=nm (putI (Hu X O m (n,65535)) S N n ((N.getD n []).set 13 m));obtain⟨O1,sV⟩:=nm (O.set m ((n:Int),(65535:Int)));rw[<- sV] at hc1
     refine(OR (g:=Gt (N1.getD n []) (F n) i) (M:=0) (E:=13) (v:=0) (R0:=fun bc V=>∃ fv,Chs w P V P d p X S N O kk F bf n i bc fv)
      (R1:=fun bc V=>∃ fv P1,Chs w P V P1 d p X1 S N1 O1 kk F bf n i bc fv)
      (R2:=fun bc V=>∃ fv P2,Chs w P V P2 d p X1 S N1 O1 kk F bf n i bc fv) (R3:=fun _=>False)
      (by omega) (Chs.open h h1 Bu hk hi) ?_ ?_ ?_ ?_ ?_ ?_).mono ?_
     . rintro bc V ⟨fv,hc⟩;rw[<- h0];exact(hc.at hi)
     . rintro bc V ⟨fv,hc⟩;rw[<- FH];exact hc.ch.cm
     . rintro bc V ⟨fv,hc⟩
       obtain⟨m',hm',hms',p2,hT⟩:=hc.addMap h1 Bu hk FH hq (by omega) hB.g hr1;obtain rfl:m'=m:=by omega
       rw[<- rY,<- hN1,<- sV] at hT;exact hT.mono fun e w' ⟨he,P',hc'⟩=>⟨he,fv,P',hc'⟩
     . rintro _ bc V ⟨fv,P1,hc⟩;exact hc.goal Bu hi
     . rintro _ bc V ⟨fv,P1,hc⟩
       have:=hc.full h1 Bu (Gt (N1.getD n []) (F n) i) (a:=i) (by omega) (by rw[hc1];push_cast;omega);rw[Ha] at this;exact this.mono fun e w' ⟨he,hb⟩=>⟨he,fv,P1,hc.low hb⟩
     . intro _ h;cases h
     . rintro e w' (⟨h,_⟩| ⟨_,_,_,h⟩| ⟨_,_,he,bc,fv,P2,hc⟩)
       . exact absurd rfl h
       . exact h.elim
       . exact⟨he,P2,X1,N1,O1,hc.md,by rw[rY];exact⟨rfl,rfl⟩,hc.cg⟩
   . refine(OR (g:=0) (M:=13) (E:=13) (v:=0) (R0:=fun bc V=>∃ fv,Chs w P V P d p X S N O kk F bf n i bc fv)
      (R1:=fun bc V=>∃ fv,Chs w P V P d p X S N O kk F bf n i bc fv)
      (R2:=fun bc V=>False) (R3:=fun _=>False)
      (by omega) (Chs.open h h1 Bu hk hi) ?_ ?_ ?_ ?_ ?_ ?_).mono ?_
     . rintro bc V ⟨fv,hc⟩;rw[<- h0];exact(hc.at hi)
     . rintro bc V ⟨fv,hc⟩;rw[<- FH];exact hc.ch.cm
     . rintro bc V ⟨fv,hc⟩
       have:=hc.full h1 Bu 0 (a:=138) (by omega) (by omega);rw[show IP 138=65535 from rfl] at this;exact(Sr this).mono fun e w' ⟨he,hb⟩=>⟨he,fv,hc.low hb⟩
     . intro h;cases h
     . intro h;cases h
     . intro h;cases h
     . rintro e w' (⟨_,he,bc,fv,hc⟩| ⟨h,_⟩| ⟨h,_⟩)
       . exact⟨he,P,X,N,O,hc.md,Onw.refl X,hc.cg⟩
       . cases h
       . cases h
 . have e1:Ra (num (N.getD n []) 13) i=1:=AE hc
   rw[e1] at hr
   refine(RK (mp:=num (N.getD n []) 13) (g:=Gt (N.getD n []) (F n) i) (E:=13) (v:=0) (R0:=fun bc V=>∃ fv,Chs w P V P d p X S N O kk F bf n i bc fv)
    (R2:=fun bc V=>∃ fv,Chs w P V P d p X S N O kk F bf n i bc fv) (R3:=fun _=>False)
    (fun e=>hc ⟨by omega,e.2⟩) (Chs.open h h1 Bu hk hi) ?_ ?_ ?_ ?_ ?_).mono ?_
   . rintro bc V ⟨fv,hc⟩;rw[<- h0];exact(hc.at hi)
   . rintro bc V ⟨fv,hc⟩;exact hc.ch.cm
   . rintro bc V ⟨fv,hc⟩;exact hc.goal Bu hi
   . rintro bc V ⟨fv,hc⟩
     have:=hc.full h1 Bu (Gt (N.getD n []) (F n) i) (a:=i) (by omega) (by omega);rw[Ha] at this;exact this.mono fun e w' ⟨he,hb⟩=>⟨he,fv,hc.low hb⟩
   . intro h;cases h
   . rintro e w' (⟨h,_⟩| ⟨_,he,bc,fv,hc⟩)
     . cases h
     . exact⟨he,P,X,N,O,hc.md,Onw.refl X,hc.cg⟩
theorem fF(h:Fmd w P d p X S N O kk F bf)(h1:1<=n)(Bu:n<48)(hk:Ca N n≠0)(hi:i<138)(h0:BJ (N.getD n []) (F n) i=0)(hq:PutS X Q)(hQ:Q.length<=34)(hB:Base Q S kk n (num (N.getD n []) 13))(hr:(Dm O (64*kk):Int)+(Ra (num (N.getD n []) 13) i:Int)<=62*(kk:Int)-42):
 AA I 88 #[Am (D ⟨bf,0,U⟩),J H n,J H i] w fun e w'=>∃ v P' X' N' O' F',e=C (AO #[J H v,J H 0])/\Fmd w' P' d p X' S N' O' kk F' bf/\MapR X S N O kk F n i Q v X' N' O' F'/\Chg P P' w w':=by
 unfold Ra at hr;by_cases Gm:i<10
 . rw[AE (by omega)] at hr
   exact YC h h1 Bu hk Gm h0 hq hQ hB (by omega)
 . by_cases hm:num (N.getD n []) 13=0
   . rw[AC ⟨by omega,hm⟩] at hr
     exact YX h h1 Bu hk (by omega) hi h0 hq hQ hB (by omega) hm
   . rw[AE (fun e=>hm e.2)] at hr
     exact cZ h h1 Bu hk (by omega) hi h0 hq hQ hB (by omega) hm
theorem fb(h:Fmd w P d p X S N O kk F bf)(h1:1<=n)(Bu:n<48)(hk:Ca N n≠0)(hi:i<138)(h0:BJ (N.getD n []) (F n) i≠0):
 AA I 88 #[Am (D ⟨bf,0,U⟩),J H n,J H i] w fun e w'=>e=C (AO #[J H (BJ (N.getD n []) (F n) i),J H 0])/\Fmd w' P d p X S N O kk F bf/\Chg P P w w':=by
 refine(eJ h0 (R0:=fun bc V=>∃ fv,Chs w P V P d p X S N O kk F bf n i bc fv) (Chs.open h h1 Bu hk hi) ?_).mono ?_
 . rintro bc V ⟨fv,hc⟩;exact hc.at hi
 . rintro e w' ⟨he,bc,fv,hc⟩;exact⟨he,hc.md,hc.cg⟩
end
section
variable {w:Ah}{P:Nat->Prop}{d p:Aq}{X:XSt}{S:List Int}{N:List (List Int)}{O:List (Int × Int)}{kk:Nat}{F:Nat->List Int}{bf n:Nat}{Q:List Int}
theorem Da(N:List (List Int))(n:Nat):Ca N n=num (N.getD n []) 0:=rfl
end
section
variable {w:Ah}{P:Nat->Prop}{d p:Aq}{X:XSt}{S:List Int}{N:List (List Int)}{O:List (Int × Int)}{kk:Nat}{F:Nat->List Int}{bf:Nat}
structure Frd (w:Ah) (P:Nat->Prop) (d p:Aq) (X:XSt) (S:List Int) (N:List (List Int)) (O:List (Int × Int)) (kk:Nat) (F:Nat->List Int) (bf:Nat):Prop where
 inv:SInv w P d p X
 fs:FsAt w bf p
 tab:Tab X.cur S N
 fi:Fils D8 X.cur S N O kk F
 k12:kk<=12
 len:X.cur.length=64*kk
theorem Frd.low(h:Frd w P d p X S N O kk F bf){w':Ah}(hb:At w.heap.size w w'):Frd w' P d p X S N O kk F bf:={ h with inv:=h.inv.low hb,fs:=h.fs.low hb }
theorem ml(h:Frd w P d p X S N O kk F bf){n i:Nat}(h1:1<=n)(Bu:n<48)(hk:Ca N n≠0)(hi:i<138):
 AA I 118 #[Am (D ⟨bf,0,U⟩),J H n,J H i] w fun e w'=>e=C (AO #[J H (BJ (N.getD n []) (F n) i),J H 0])/\At w.heap.size w w':=by
 have KO:=vJ (Ns h.inv h.fs h.tab h.fi h.k12 h.len h1 Bu hk hi (AM _ _));have KA:Hid (∀ (V:Ah) (bc:Nat) (fv:Aq),ChAt V bc bf n (N.getD n []) fv->(10<=i->∃ bg,FarA V w.heap.size bc P fv (F n) bg)->AA I 133 #[Am (D ⟨bc,0,U⟩),J H i] V fun e w'=>e=C (J H (BJ (N.getD n []) (F n) i))/\V=w'):=vJ fun V bc fv hc hF=>Nw hc hF hi
 clear h hk;go_enter Tryz.func118,Tryz.ntmps118
 go_wp2_with (first
  |(go_at_call 132;refine KO.out.mono ?_;rintro e w2 ⟨bc,fv,rfl,hbc,hc,mc,hb2⟩)
  |(go_at_call 133;refine(KA.out _ _ _ hc mc).mono ?_;rintro e w' ⟨rfl,rfl⟩))
 go_ret2;exact⟨rfl,hb2⟩
end
end
section
open Go.RowKit Go.ChangeShapes Go.WideShapes
structure O12 where
 k:Int
 b:Int
 l:Int
 g:Int
 n:Int
 i:Int
 a:Int
instance:Inhabited O12:=⟨⟨0,0,0,0,0,0,0⟩⟩
end
section
open Go.RowKit
structure Tsd (w0 w:Ah) (P:Nat->Prop) (d p:Aq) (X:XSt) (S:List Int) (N:List (List Int)) (O:List (Int × Int)) (kk bf:Nat):Prop where
 inv:SInv w P d p X
 wi:X.wi=AI
 fu:X.ds.fu=AI
 has:Has X.is O kk
 ok:OOk O kk
 tab:Tab X.is S N
 fs:FsAt w bf p
 nb:¬ P bf
 bN:w0.heap.size<=bf
 pN:∀ x,P x->w0.heap.size<=x
 be:At w0.heap.size w0 w
theorem k_(bs:Nat)(w:Ah):AA I 7 #[Am (D ⟨bs,0,U⟩)] w fun e w'=>e=C (Am (D ⟨w.heap.size,0,U⟩))/\FsAt w' w.heap.size (Am (D ⟨bs,0,U⟩))/\At w.heap.size w w':=by
 have hb:=Ay w (Ar #[Am (D ⟨bs,0,U⟩)] 35);have hr:=Aw w (Ar #[Am (D ⟨bs,0,U⟩)] 35);go_enter Tryz.func7,Tryz.ntmps7;go_wp2;go_ret;exact⟨rfl,hr,hb⟩
theorem bm{kk:Nat}(h1:1<=kk)(h2:kk<=12)(w0:Ah):∀ {w:Ah},At w0.heap.size w0 w->AA I 8 #[J H (64*(kk:Int)),J H (64*(kk:Int))] w fun e w'=>∃ b,e=C (Am (D ⟨b,0,U⟩))/\At w0.heap.size w0 w'/\
 AA I 7 #[Am (D ⟨b,0,U⟩)] w' fun e w''=>∃ bf P d X,e=C (Am (D ⟨bf,0,U⟩))/\Tsd w0 w'' P d (Am (D ⟨b,0,U⟩)) X (Ed kk) newN (FE kk) kk bf/\bf<w''.heap.size:=fun {w} hb=>by
 refine(YQ h1 h2 w).mono fun e w' ⟨b,P,d,G,ds,he,hI,Mc,hH,hT,hP,hb1⟩=>⟨b,he,hb.trans (hb1.mono hb.size),?_⟩
 refine(k_ b w').mono fun e w'' ⟨mf,hfs,hb2⟩=>?_
 have hs:=hb.size;have hs1:=hb1.size;have hlt:=hI.lt;refine⟨w'.heap.size,P,d,_,mf,⟨hI.low hb2,rfl,Mc,hH,bt h1 h2,hT,hfs,fun hp=>by have:=hlt _ hp;omega,by omega,fun x hx=>by have:=hP x hx;omega,?_⟩,(Al.1 hfs).1⟩;exact(hb.trans (hb1.mono hs)).trans (hb2.mono (by omega))
end
section
open Go.RowKit BM
structure Fsd (w0 w:Ah) (P:Nat->Prop) (d p:Aq) (X:XSt) (S:List Int) (N:List (List Int)) (O:List (Int × Int)) (kk:Nat) (F:Nat->List Int) (bf:Nat):Prop where
 inv:SInv w P d p X
 wi:X.wi=AI
 fu:X.ds.fu=AI
 pl:Pl D8 X.is S N O kk F
 st:Stil S kk
 fs:FsAt w bf p
 nb:¬ P bf
 bN:w0.heap.size<=bf
 pN:∀ x,P x->w0.heap.size<=x
 be:At w0.heap.size w0 w
structure Fsm (w0 w:Ah) (P:Nat->Prop) (d p:Aq) (X:XSt) (S:List Int) (N:List (List Int)) (O:List (Int × Int)) (kk:Nat) (F:Nat->List Int) (bf:Nat):Prop where
 inv:SInv w P d p X
 wi:X.wi=AL
 fu:X.ds.fu=AI
 pl:Pl D8 X.is S N O kk F
 st:Stil S kk
 fs:FsAt w bf p
 nb:¬ P bf
 bN:w0.heap.size<=bf
 pN:∀ x,P x->w0.heap.size<=x
 sz:w0.heap.size<=w.heap.size
 be:At w0.heap.size w0 w
section
variable {w0 w:Ah}{P:Nat->Prop}{d p:Aq}{X:XSt}{S:List Int}{N:List (List Int)}{O:List (Int × Int)}{kk:Nat}{F:Nat->List Int}{bf:Nat}
theorem Fsd.begin(h:Fsd w0 w P d p X S N O kk F bf):AA I 9 #[p] w fun e w'=>e=C (J H 0)/\∃ P',Fsm w0 w' P' d p (Kx X) S N O kk F bf/\Fmd w' P' d p (Kx X) S N O kk F bf/\Chg P P' w w':=by
 refine(landed.begin h.inv).mono fun e w' ⟨he,P',hi,hc⟩=>?_
 have e1:QI X=(0,Kx X):=by unfold QI;rw[AE (by rw[h.wi];decide)];rfl
 rw[e1] at he hi;obtain⟨hf,hn⟩:=h.fs.chg hc h.nb;obtain⟨hb,hp⟩:=Jv h.be h.pN hc;exact⟨he,P',⟨hi,rfl,h.fu,h.pl,h.st,hf,hn,h.bN,hp,hb.size,hb⟩,⟨hi,rfl,h.pl,h.st,hf,hn⟩,hc⟩
theorem Fsm.next(h:Fsm w0 w P d p X S N O kk F bf){w':Ah}{P':Nat->Prop}{X':XSt}(hi:SInv w' P' d p X')(hw:X'.wi=AL)(ho:Onw X X')(hc:Chg P P' w w'):Fsm w0 w' P' d p X' S N O kk F bf:=by
 obtain⟨hf,hn⟩:=h.fs.chg hc h.nb;obtain⟨hb,hp⟩:=Jv h.be h.pN hc;exact⟨hi,hw,by rw[ho.2];exact h.fu,by rw[ho.1];exact h.pl,h.st,hf,hn,h.bN,hp,hb.size,hb⟩
end
def WD:Nat->List (List Int)
 |0=>newN
 |c+1=>(WD c).set (2+c) (Jk 1)
def iM:Nat->List Int:=fun _=>AD 128 0
theorem aV:∀ c,(WD c).length=48
 |0=>rfl
 |c+1=>by rw[WD,AJ];exact aV c
theorem Qp:∀ c m,c<=4->(WD c).getD m []=if 2<=m/\m<2+c then Jk 1 else newN.getD m []
 |0,m,_=>by rw[AE (by omega)];rfl
 |c+1,m,h=>by
  rw[WD,D5 (by rw[aV];omega),Qp c m (by omega)];by_cases e:m=2+c
  . rw[AC e,AC (by omega)]
  . rw[AE e]
    by_cases c2:2<=m/\m<2+c
    . rw[AC c2,AC (by omega)]
    . rw[AE c2,AE (by omega)]
theorem fK:∀ m,m<48->(newN.getD m []).getD 0 0=if m=1 then 2 else 0:=by decide
theorem Kl:∀ m,m<48->∀ j,j<11->(newN.getD m []).getD (3+j) 0=0:=by decide
theorem FS{c m:Nat}(hc:c<=4)(hm:m<48):Ca (WD c) m=if m=1 then 2 else if 2<=m/\m<2+c then 1 else 0:=by
 unfold Ca;rw[Qp c m hc];by_cases h:2<=m/\m<2+c
 . rw[AC h,AE (by omega),AC h];rfl
 . rw[AE h,fK m hm,AE h]
theorem V4{kk:Nat}(h1:1<=kk)(G:List (List Int)):Fils D8 G (Ed kk) newN (FE kk) kk iM:=by
 have hz:∀ n i,n<48->i<139->BJ (newN.getD n []) (iM n) i=0:=fun n i hn hi=>by
  unfold BJ num;split
  . next Gm=>exact Kl n hn i (by omega)
  . split
    . exact Kl n hn 10 (by decide)
    . show(AD 128 (0:Int)).getD (i-10) 0=0
      rw[An,BF];split <;> rfl
 refine⟨fun n=>⟨rfl,(by decide:FP (AD 128 0)=AL)⟩,fun _ _ _ _=>rfl,fun n _ hn hm=>absurd (Kl n hn 10 (by decide)) hm,fun n i _ hn hi _ hl=>absurd (hz n i hn hi) hl,fun t ht=>?_⟩;have e:Dj (Ed kk) t=43+t:=by
  have Hc:t=0\/t=1\/t=2\/t=3\/t=4\/t=5:=by omega
  rcases Hc with rfl|rfl|rfl|rfl|rfl|rfl <;> rfl
 rw[e];unfold FE;rw[F9 _ _ _ (by omega)];unfold Gx;rw[AE (by rw[(NG (j:=43+t)).2 (by omega) (by omega)];decide),AC (by omega)];exact Prod.ext rfl (by simp only;omega)
theorem WX{kk:Nat}(h1:1<=kk)(h2:kk<=12):Stil (Ed kk) kk:=by
 refine⟨fun i=>?_,rfl,?_⟩
 . by_cases hi:i<12
   . have Hc:i=0\/i=1\/i=2\/i=3\/i=4\/i=5\/i=6\/i=7\/i=8\/i=9\/i=10\/i=11:=by omega
     have e0:num (Ed kk) 0=64*(kk:Int):=rfl;rcases Hc with rfl|rfl|rfl|rfl|rfl|rfl|rfl|rfl|rfl|rfl|rfl|rfl
     . rw[e0];omega
     all_goals first
      |exact(by decide:(0:Int)<=9223372036854775807)
      |exact(by decide:(43:Int)<=9223372036854775807)
      |exact(by decide:(44:Int)<=9223372036854775807)
      |exact(by decide:(45:Int)<=9223372036854775807)
      |exact(by decide:(46:Int)<=9223372036854775807)
      |exact(by decide:(47:Int)<=9223372036854775807)
      |exact(by decide:(48:Int)<=9223372036854775807)
   . unfold num
     rw[An,A5 (by show 12<=i;omega)];decide
 . unfold We
   rw[AC (RM h1 h2),AE (by show ¬ (0:Int)=2;decide)];rfl
theorem ef(k:Int){i:Nat}(hi:i<139):BJ (Jk k) (AD 128 0) i=0:=by
 unfold BJ num;split
 . next Gm=>
   have:∀ j,j<10->(Jk k).getD (3+j) 0=0:=fun j hj=>by
    have oQ:j=0\/j=1\/j=2\/j=3\/j=4\/j=5\/j=6\/j=7\/j=8\/j=9:=(by omega);rcases oQ with rfl|rfl|rfl|rfl|rfl|rfl|rfl|rfl|rfl|rfl <;> rfl
   exact this i Gm
 . split
   . rfl
   . rw[An,BF];split <;> rfl
theorem Un{c m:Nat}(hc:c<=4)(hm:m<48){i:Nat}(hi:i<139):BJ ((WD c).getD m []) (iM m) i=0:=by
 rw[Qp c m hc];split
 . exact ef 1 hi
 . unfold BJ num
   split
   . next Gm=>exact Kl m hm i (by omega)
   . split
     . exact Kl m hm 10 (by decide)
     . show(AD 128 (0:Int)).getD (i-10) 0=0
       rw[An,BF];split <;> rfl
def RX(S:List Int)(kk n:Nat)(mp:Int):List Int:=(Co kk).flatMap (fun g=>[(Ci g:Int),(Ci g:Int)+1]) ++ [((Dj S (n / 8):Nat):Int),mp]
theorem SH(S:List Int)(kk n:Nat)(mp:Int):(RX S kk n mp).length=2*kk+2:=by
 unfold RX;rw[Ax];have:∀ l:List Nat,(l.flatMap fun g=>[(Ci g:Int),(Ci g:Int)+1]).length=2*l.length:=fun l=>by
  induction l with
  |nil=>rfl
  |cons a l ih=>rw[CD,Ax,ih];simp;omega
 rw[this,List.length_range];rfl
theorem R4(S:List Int)(kk n:Nat)(mp:Int):Base (RX S kk n mp) S kk n mp:=by
 refine⟨fun g hg=>?_,Ep _ (by simp),fun _=>Ep _ (by simp)⟩;have:∀ a∈[(Ci g:Int),(Ci g:Int)+1],a∈RX S kk n mp:=fun a ha=>Br _ (List.mem_flatMap.2 ⟨g,Bo.2 hg,ha⟩)
 exact⟨this _ (by simp),this _ (by simp)⟩
theorem WL(X:XSt)(Q:List Int):PutS (Kx X) Q:=⟨List.nodup_nil,fun a ha=>absurd ha BI⟩
section
variable {w:Ah}{P:Nat->Prop}{d p:Aq}{X:XSt}{G:List (List Int)}{S:List Int}{N:List (List Int)}{O:List (Int × Int)}{kk:Nat}{F:Nat->List Int}{bf:Nat}{Q:List Int}
theorem Pl.data(h:Pl D8 G S N O kk F){v:Nat}{n i:Nat}(h1:1<=n)(Bu:n<48)(hi:i<138)(ho:OwAt O kk v ((n:Int),(i:Int)))(l:List Int):Pl D8 (G.set v l) S N O kk F:=by
 have hne:=Gs ho.2.1;refine⟨h.has.other h.ok.k12 (Ba (Ba ho.2.1)) _,h.ok,h.tab.same (by rw[AJ]) fun a ha=>BE _ _ _ ?_,h.fi.data (fun m k1 k48 hm e=>?_) _⟩
 . rcases ha with rfl|rfl| ⟨t,ht,rfl⟩
   . exact CR hne.1
   . exact CR hne.2
   . intro e
     have h2:=h.fi.tb t ht;have h3:=ho.2.2;rw[B5,<- e,h2] at h3;have:=(Dx h3).1;omega
 . have hm2:=h.fi.map k1 k48 id hm
   refine hm2.ne ho (fun e3=>?_) (by have:=hm2.1;omega);have:=(Dx e3).2;omega
theorem Fmd.data(h:Fmd w P d p X S N O kk F bf){v:Nat}{n i:Nat}(h1:1<=n)(Bu:n<48)(hi:i<138)(ho:OwAt O kk v ((n:Int),(i:Int))){l:List Int}(hl:l.length=256){u:Aq}(hu:BSl w u l)(hp:X.put.length<37):
 AA I 85 #[p,J H v,u] w fun e w'=>e=C (J H 0)/\∃ P',Fmd w' P' d p (Su X v l) S N O kk F bf/\Chg P P' w w':=by
 have hb:=ho.1;have h12:=h.pl.ok.k12;have cN:=ho.outJ h12;rw[B5] at cN;refine(YK h.inv h.wi hp (m:=v) (by rw[h.isl];omega) (by omega) cN hl hu).mono ?_;rintro e w' ⟨he,P',Hc,hg⟩;obtain⟨hfs,IH⟩:=h.fs.chg hg h.nb;exact⟨he,P',⟨Hc,h.wi,h.pl.data h1 Bu hi ho l,h.st,hfs,IH⟩,hg⟩
theorem Jl{n i:Nat}(hi:i<138){v:Int}(ho:OwAt O kk v ((n:Int),IP i)):OwAt O kk (v.toNat:Nat) ((n:Int),(i:Int)):=by
 have hb:=ho.1;have e:((v.toNat:Nat):Int)=v:=by omega
 rw[e];have:IP i=(i:Int):=by unfold IP;rw[AE (by omega)]
 rwa [<- this]
end
structure Fat (G N:List (List Int)) (F:Nat->List Int) (n sz:Nat) (M:Nat->Option (List Int)):Prop where
 kd:Ca N n=1\/Ca N n=2
 zs:num (N.getD n []) 2=(sz:Int)
 sb:sz<=35328
 dt:∀ i,i<138->M i=if BJ (N.getD n []) (F n) i=0 then U else D (G.getD (BJ (N.getD n []) (F n) i).toNat [])
 hi:∀ i,138<=i->M i=U
 mp:num (N.getD n []) 13≠0 ↔ ∃ b,10<=b/\b<138/\BJ (N.getD n []) (F n) b≠0
 ok:OkB M
section
variable {G G':List (List Int)}{S:List Int}{N N':List (List Int)}{O O':List (Int × Int)}{kk:Nat}{F F':Nat->List Int}{n sz:Nat}{M:Nat->Option (List Int)}{X X':XSt}{Q:List Int}
theorem Fat.k0(h:Fat G N F n sz M):Ca N n≠0:=by rcases h.kd with e|e <;> rw[e] <;> decide
theorem Fat.none(h:Fat G N F n sz M){i:Nat}(hi:i<138)(h0:BJ (N.getD n []) (F n) i=0):M i=.none:=by rw[h.dt i hi,AC h0]
theorem Fat.some(h:Fat G N F n sz M){i:Nat}(hi:i<138)(h0:BJ (N.getD n []) (F n) i≠0):M i=.some (G.getD (BJ (N.getD n []) (F n) i).toNat []):=by rw[h.dt i hi,AE h0]
theorem Fat.iff(h:Fat G N F n sz M){i:Nat}(hi:i<138):(M i).isSome=AL ↔ BJ (N.getD n []) (F n) i≠0:=by
 by_cases h0:BJ (N.getD n []) (F n) i=0
 . rw[h.none hi h0];exact⟨fun e=>absurd e (by decide),fun e=>absurd h0 e⟩
 . rw[h.some hi h0];exact⟨fun _=>h0,fun _=>rfl⟩
theorem Fat.used(h:Fat G N F n sz M):IZ (N.getD n []) (F n)=DL M:=by
 unfold IZ DL;rw[I5,LX (f:=BJ (N.getD n []) (F n)) (g:=Rv M) 138 fun i hi=>by rw[keyB_ne,h.iff hi],jg];congr 1;by_cases hf:∃ b:Nat,10<=b/\b<138/\(M b).isSome=AL
 . rw[Im 138 hf]
   obtain⟨b,a1,a2,a3⟩:=hf;rw[AC (h.mp.2 ⟨b,a1,a2,(h.iff a2).1 a3⟩)]
 . rw[H6 138 hf,AE fun e=>?_]
   obtain⟨b,a1,a2,a3⟩:=h.mp.1 e;exact hf ⟨b,a1,a2,(h.iff a2).2 a3⟩
theorem L9(hp:Pl D8 G S N O kk F)(hp':Pl D8 G' S N' O' kk F')(hd:DataK O O' G G')(h1:1<=n)(Bu:n<48){i:Nat}(hi:i<138)(e:BJ (N'.getD n []) (F' n) i=BJ (N.getD n []) (F n) i)(h0:BJ (N.getD n []) (F n) i≠0):
 G'.getD (BJ (N.getD n []) (F n) i).toNat []=G.getD (BJ (N.getD n []) (F n) i).toNat []:=by
 have a:=(Jl hi (hp.fi.ow n i h1 Bu (by omega) id h0)).2.2;have b:=(Jl hi (hp'.fi.ow n i h1 Bu (by omega) id (by rw[e];exact h0))).2.2;rw[e] at b;rw[B5] at a b;exact hd _ (by rw[b];simp only;omega) (by rw[b];simp only;omega) (by rw[b];simp only;omega) (by rw[a,b])
theorem Fat.other(h:Fat G N F n sz M)(hp:Pl D8 G S N O kk F)(hp':Pl D8 G' S N' O' kk F')(hd:DataK O O' G G')(h1:1<=n)(Bu:n<48)(e1:N'.getD n []=N.getD n [])(e2:F' n=F n):Fat G' N' F' n sz M:=by
 refine⟨by rw[Da,e1,<- Da];exact h.kd,by rw[e1];exact h.zs,h.sb,fun i hi=>?_,h.hi,by rw[e1,e2];exact h.mp,h.ok⟩;rw[e1,e2];by_cases h0:BJ (N.getD n []) (F n) i=0
 . rw[AC h0];exact h.none hi h0
 . rw[AE h0,L9 hp hp' hd h1 Bu hi (by rw[e1,e2]) h0];exact h.some hi h0
structure Fst (S:List Int) (kk:Nat) (X:XSt) (N:List (List Int)) (O:List (Int × Int)) (F:Nat->List Int) (n:Nat) (X':XSt) (N':List (List Int)) (O':List (Int × Int)) (F':Nat->List Int):Prop where
 ot:∀ m sz M,m≠n->1<=m->m<48->Fat X.call N F m sz M->Fat X'.call N' F' m sz M
 on:Onw X X'
 cn:Dm O' (64*kk)+IZ (N.getD n []) (F n)=Dm O (64*kk)+IZ (N'.getD n []) (F' n)
 kd:Ca N' n=Ca N n
 oth:∀ m,m≠n->N'.getD m []=N.getD m []
theorem Fst.refl(S:List Int)(kk:Nat)(X:XSt)(N:List (List Int))(O:List (Int × Int))(F:Nat->List Int)(n:Nat):Fst S kk X N O F n X N O F:=⟨fun _ _ _ _ _ _ h=>h,Onw.refl X,rfl,rfl,fun _ _=>rfl⟩
theorem Fst.trans{X1 X2:XSt}{N1 N2:List (List Int)}{O1 O2:List (Int × Int)}{F1 F2:Nat->List Int}(h:Fst S kk X N O F n X1 N1 O1 F1)(k:Fst S kk X1 N1 O1 F1 n X2 N2 O2 F2):Fst S kk X N O F n X2 N2 O2 F2:=
 ⟨fun m sz M a b c d=>k.ot m sz M a b c (h.ot m sz M a b c d),h.on.trans k.on,by have:=h.cn;have:=k.cn;omega,k.kd.trans h.kd,fun m hm=>(k.oth m hm).trans (h.oth m hm)⟩
theorem Stp.fst(h:Stp S kk X.call N O F n X'.call N' O' F')(hp:Pl D8 X.call S N O kk F)(ho:Onw X X'):Fst S kk X N O F n X' N' O' F':=
 ⟨fun m sz M a b c d=>d.other hp h.pl h.dat b c (h.oth m a).1 (h.oth m a).2,ho,h.cnt,by rw[Da,h.hd 0 (by decide),<- Da],fun m hm=>(h.oth m hm).1⟩
theorem Fat.map(h:Fat X.call N F n sz M)(hp:Pl D8 X.call S N O kk F){i:Nat}{v:Int}(hr:MapR X S N O kk F n i Q v X' N' O' F')(h1:1<=n)(Bu:n<48)(hi:i<138):Fat X'.call N' F' n sz (E7 M i z256):=by
 have hv:=hr.v0;refine⟨by rw[Da,hr.st.hd 0 (by decide),<- Da];exact h.kd,by rw[hr.st.hd 2 (by decide)];exact h.zs,h.sb,fun b hb=>?_,fun b hb=>by rw[FW _ (by omega)];exact h.hi b hb,?_,h.ok.upd _ QD R9⟩
 . rw[hr.loc b hb]
   by_cases e:b=i
   . subst e
     rw[AC rfl,AE (by omega),Hs,hr.zer]
   . rw[AE e,FW _ e]
     by_cases h0:BJ (N.getD n []) (F n) b=0
     . rw[AC h0];exact h.none hb h0
     . rw[AE h0,L9 hp hr.st.pl hr.st.dat h1 Bu hb (by rw[hr.loc b hb,AE e]) h0];exact h.some hb h0
 . rw[hr.mp,h.mp]
   constructor
   . rintro(⟨b,a1,a2,a3⟩|e)
     . refine⟨b,a1,a2,?_⟩
       rw[hr.loc b a2];split
       . omega
       . exact a3
     . exact⟨i,e,hi,by rw[hr.loc i hi,AC rfl];omega⟩
   . rintro⟨b,a1,a2,a3⟩
     rw[hr.loc b a2] at a3;by_cases e:b=i
     . exact Ba (by omega)
     . rw[AE e] at a3
       exact AN ⟨b,a1,a2,a3⟩
theorem Fat.put(h:Fat G N F n sz M)(hp:Pl D8 G S N O kk F)(h1:1<=n)(Bu:n<48){i:Nat}(hi:i<138){v:Nat}(hv:BJ (N.getD n []) (F n) i=(v:Int))(h0:v≠0){l:List Int}(hl:l.length=256)(hb:FJ l):Fat (G.set v l) N F n sz (E7 M i l):=by
 have ho:=Jl hi (hp.fi.ow n i h1 Bu (by omega) id (by rw[hv];omega));rw[hv,B5] at ho;have hlt:v<G.length:=by rw[hp.has.len];have:=ho.1;omega
 refine⟨h.kd,h.zs,h.sb,fun b hb2=>?_,fun b hb2=>by rw[FW _ (by omega)];exact h.hi b hb2,h.mp,h.ok.upd _ hl hb⟩;by_cases e:b=i
 . subst e
   rw[hv,AE (by omega),Hs,B5,getD_set _ _ _ _ _ hlt,AC rfl]
 . rw[FW _ e]
   by_cases hz:BJ (N.getD n []) (F n) b=0
   . rw[AC hz];exact h.none hb2 hz
   . have ho2:=Jl hb2 (hp.fi.ow n b h1 Bu (by omega) id hz)
     have hne:=ho2.ne ho (fun e2=>e (by have:=(Dx e2).2;omega));rw[AE hz,BE _ _ _ (by omega)];exact h.some hb2 hz
theorem Fat.putOther(h:Fat G N F n sz M)(hp:Pl D8 G S N O kk F)(h1:1<=n)(Bu:n<48){m i:Nat}(hm:m≠n){v:Nat}(ho:OwAt O kk v ((m:Int),(i:Int)))(l:List Int):Fat (G.set v l) N F n sz M:=by
 refine⟨h.kd,h.zs,h.sb,fun b hb2=>?_,h.hi,h.mp,h.ok⟩;by_cases hz:BJ (N.getD n []) (F n) b=0
 . rw[AC hz];exact h.none hb2 hz
 . have ho2:=Jl hb2 (hp.fi.ow n b h1 Bu (by omega) id hz)
   have hne:=ho2.ne ho (fun e2=>hm (by have:=(Dx e2).1;omega));rw[AE hz,BE _ _ _ (by omega)];exact h.some hb2 hz
theorem kQ{x F:List Int}(hx:x.length=14)(v:Int){i:Nat}:BJ (x.set 2 v) F i=BJ x F i:=by
 have e:∀ b,b≠2->num (x.set 2 v) b=num x b:=fun b hb=>by rw[CA (by omega),AE hb]
 unfold BJ;rw[e (3+i) (by omega),e 13 (by decide)]
theorem gD{x:List Int}(hl:x.length=14)(hx:El x=AL)(hk:num x 0=1\/num x 0=2){v:Nat}(hv:v<=35328):El (x.set 2 (v:Int))=AL:=by
 have hn:∀ b,b≠2->(x.set 2 (v:Int)).getD b 0=x.getD b 0:=fun b hb=>by
  have:=CA (x:=x) (a:=2) (by omega) (v:Int) b;unfold num at this;rw[this,AE hb]
 have h2:(x.set 2 (v:Int)).getD 2 0=(v:Int):=by
  have:=CA (x:=x) (a:=2) (by omega) (v:Int) 2;unfold num at this;rw[this,AC rfl]
 unfold num at hk;unfold El at hx |-
 rw[AE (by rcases hk with e|e <;> rw[e] <;> decide)] at hx;rw[hn 0 (by decide),hn 1 (by decide),h2,hn 13 (by decide),AE (by rcases hk with e|e <;> rw[e] <;> decide)];have e:(x.set 2 (v:Int)).drop 3=x.drop 3:=by rw[List.drop_set_of_lt (by decide)]
 rw[e];unfold Nz at hx |-
 simp only[AY] at hx |-
 refine⟨hx.1,hx.2.1,?_,hx.2.2.2⟩;rcases hk with hk|hk
 . rw[hk]
   exact AF ⟨by omega,by show(v:Int)<=35328;omega⟩
 . rw[hk]
   exact AF ⟨by omega,by show(v:Int)<=35328;omega⟩
theorem Fat.size(h:Fat X.call N F n sz M)(hp:Pl D8 X.call S N O kk F)(h1:1<=n)(Bu:n<48){v:Nat}(hv:v<=35328):
 Fat (PQ X.call S N n ((N.getD n []).set 2 (v:Int))) (N.set n ((N.getD n []).set 2 (v:Int))) F n v M/\Pl D8 (PQ X.call S N n ((N.getD n []).set 2 (v:Int))) S (N.set n ((N.getD n []).set 2 (v:Int))) O kk F/\
  El ((N.getD n []).set 2 (v:Int))=AL/\∀ X',X'.call=PQ X.call S N n ((N.getD n []).set 2 (v:Int))->Onw X X'->Fst S kk X N O F n X' (N.set n ((N.getD n []).set 2 (v:Int))) O F:=by
 have hx:=hp.tab.n.get Bu;have IF:=hp.tab.n.frm n Bu;have hn:n<N.length:=by rw[hp.tab.n.len];exact Bu
 have X0:=gD hx IF (by rw[<- Da];exact h.kd) hv;have hm:num ((N.getD n []).set 2 (v:Int)) 13=num (N.getD n []) 13:=by rw[CA (by omega),AE (by omega)]
 have hl:∀ i,BJ ((N.getD n []).set 2 (v:Int)) (F n) i=BJ (N.getD n []) (F n) i:=fun i=>kQ hx _
 obtain⟨s1,s2⟩:=hp.node h1 Bu (y:=(N.getD n []).set 2 (v:Int)) (by rw[AJ];exact hx) X0 (fun a b e=>e.elim)
  (by rw[hm];exact hp.fi.m0 n h1 Bu) (by rw[hm];exact hp.fi.m1 n h1 Bu) (fun i hi hz=>by rw[hl] at hz |-;exact hp.fi.ow n i h1 Bu hi id hz)
 have hy:(N.set n ((N.getD n []).set 2 (v:Int))).getD n []=(N.getD n []).set 2 (v:Int):=by rw[D5 hn,AC rfl]
 refine⟨⟨?_,?_,hv,fun i hi=>?_,h.hi,?_,h.ok⟩,s1,X0,fun X' e ho=>⟨fun m sz M a b c d=>?_,ho,?_,by rw[Da,Da,hy,CA (by omega),AE (by omega)],fun m hm=>by rw[D5 hn,AE hm]⟩⟩
 . rw[Da,hy,CA (by omega),AE (by omega),<- Da];exact h.kd
 . rw[hy,CA (by omega),AC rfl]
 . rw[hy,hl]
   by_cases h0:BJ (N.getD n []) (F n) i=0
   . rw[AC h0];exact h.none hi h0
   . rw[AE h0,L9 hp s1 s2 h1 Bu hi (by rw[hy,hl]) h0];exact h.some hi h0
 . rw[hy,hm,h.mp]
   exact⟨fun⟨b,a1,a2,a3⟩=>⟨b,a1,a2,by rw[hl];exact a3⟩,fun⟨b,a1,a2,a3⟩=>⟨b,a1,a2,by rw[hl] at a3;exact a3⟩⟩
 . rw[e];exact d.other hp s1 s2 b c (BE _ _ _ a) rfl
 . rw[hy]
   have:IZ ((N.getD n []).set 2 (v:Int)) (F n)=IZ (N.getD n []) (F n):=LX 139 fun i _=>by rw[hl]
   rw[this]
theorem Fat.need(h:Fat G N F n sz M){i:Nat}(hi:i<138)(h0:M i=.none)(l:List Int):DL (E7 M i l)=DL M+Ra (num (N.getD n []) 13) i:=by
 unfold DL;have h1:I5 (Rv (E7 M i l)) 138=I5 (Rv M) 138+1:=by
  refine LM (i:=i) ?_ ?_ 138 hi fun j hj hne=>?_
  . unfold Rv;rw[h0];rfl
  . rw[keyB_ne,Hs];rfl
  . rw[keyB_ne,keyB_ne,FW _ hne]
 rw[h1];unfold Ra;by_cases hm:num (N.getD n []) 13=0
 . have hz:¬ ∃ b:Nat,10<=b/\b<138/\(M b).isSome=AL:=fun⟨b,a1,a2,a3⟩=>h.mp.2 ⟨b,a1,a2,(h.iff a2).1 a3⟩ hm
   rw[H6 138 hz];by_cases Gm:10<=i
   . rw[AC ⟨Gm,hm⟩,Im 138 ⟨i,Gm,hi,by rw[Hs];rfl⟩]
   . rw[AE (fun e=>Gm e.1),H6 138 fun⟨b,a1,a2,a3⟩=>hz ⟨b,a1,a2,by rwa [FW _ (by omega)] at a3⟩]
 . rw[AE (fun e=>hm e.2)]
   obtain⟨b,a1,a2,a3⟩:=h.mp.1 hm;have a4:=(h.iff a2).2 a3;rw[Im 138 ⟨b,a1,a2,a4⟩,Im 138 ⟨b,a1,a2,by
    by_cases e:b=i
    . rw[e,Hs];rfl
    . rw[FW _ e];exact a4⟩]
end
section
variable {w:Ah}{P:Nat->Prop}{d p:Aq}{X:XSt}{S:List Int}{N:List (List Int)}{O:List (Int × Int)}{kk:Nat}{F:Nat->List Int}{bf:Nat}
theorem MF(h:Frd w P d p X S N O kk F bf){n:Nat}(h1:1<=n)(Bu:n<48)(hk:Ca N n≠0):
 AA I 46 #[Am (D ⟨bf,0,U⟩),J H n] w fun e w'=>e=C (AO #[BD (iC (N.getD n [])).toArray,J H 0])/\At w.heap.size w w':=by
 have KG0:=fun V hV=>GM (W:=V) h.inv h.fs h.tab h1 Bu hV
 have hx:=h.tab.n.get Bu;unfold Ca at hk;generalize N.getD n []=x at KG0 hx hk |-
 obtain⟨kd,ln,sz,d0,d1,d2,d3,d4,d5,d6,d7,d8,d9,mp,rfl⟩:=JU hx;have XT:(kd==0)=AI:=by simpa using hk
 have KG:Hid (∀ V,At w.heap.size w V->AA I 37 #[Am (D ⟨bf,0,U⟩),J H n] V fun e w'=>e=C (AO #[BD #[J H kd,J H ln,J H sz,J H d0,J H d1,J H d2,J H d3,J H d4,J H d5,J H d6,J H d7,J H d8,J H d9,J H mp],J H 0])/\At V.heap.size V w'):=vJ KG0;clear KG0 h hx hk h1;have hb1:=Ay w (iO zeroI 80);have hr1:=Aw w (iO zeroI 80);obtain⟨w1,hw1⟩:=nm (w.alloc (iO zeroI 80));rw[<- hw1] at hb1 hr1;have h1:w.alloc (Ar #[J H 0,J H 0,J H 0,J H 0,J H 0,J H 0,J H 0,J H 0,J H 0,J H 0,J H 0,J H 0,J H 0,J H 0] 80)=w1:=by rw[hw1];rfl
 have H1:=vJ h1;have HR1:Hid (∀ V,At w1.heap.size w1 V->V.heap[w.heap.size]? =D (iO zeroI 80)):=vJ fun V hv=>BA hr1 hv
 have HB1:=vJ hb1;clear h1 hw1 hr1;go_enter Tryz.func46,Tryz.ntmps46
 go_wp2_with (first
  |(go_at_call 37;rw[H1.out];refine(KG.out _ HB1.out).mono ?_;rintro e w2 ⟨rfl,hb2⟩
    have hb3:=hb2.trans ((Ay w2 (Ar #[J H kd,J H ln,J H sz,J H d0,J H d1,J H d2,J H d3,J H d4,J H d5,J H d6,J H d7,J H d8,J H d9,J H mp] 80)).mono hb2.size);have hr3:=HR1.out _ hb3)
  |(with_reducible refine FI rfl (.tmp 4) (.tmp 22) rfl w.heap.size rfl [kd,ln,sz,d0,d1,d2,d3,d4,d5,d6,d7,d8,d9,mp] zeroI rfl rfl rfl _ hr3 ?_;intro w9 hw9 hr9))
 refine Bv (V8 rfl _ _ w.heap.size _ [kd,ln,sz,d0,d1,d2,d3,d4,d5,d6,d7,d8,d9,mp] _ rfl rfl hr9 rfl) rfl ⟨rfl,(hb1.trans (hb3.mono hb1.size)).trans (hw9.below (AB _))⟩
theorem Fmd.rd(h:Fmd w P d p X S N O kk F bf):Frd w P d p X S N O kk F bf:=by
 have hc:=h.cur;exact⟨h.inv,h.fs,by rw[hc];exact h.pl.tab,by rw[hc];exact h.pl.fi,h.pl.ok.k12,by rw[hc];exact h.pl.has.len⟩
theorem U5(h:Fmd w P d p X S N O kk F bf){n:Nat}(h1:1<=n)(Bu:n<48){v:Nat}(hp:X.put.length<37)(IF:El ((N.getD n []).set 2 (v:Int))=AL):
 AA I 49 #[Am (D ⟨bf,0,U⟩),J H n,J H v] w fun e w'=>e=C (J H 0)/\∃ P',SInv w' P' d p (putI X S N n ((N.getD n []).set 2 (v:Int)))/\Chg P P' w w':=by
 have hr:=h.rd;have KG0:=GM hr.inv hr.fs hr.tab h1 Bu (AM _ w);have hx:=h.pl.tab.n.get Bu;have KP0:∀ V,At w.heap.size w V->AA I 42 #[Am (D ⟨bf,0,U⟩),J H n,BD (iC ((N.getD n []).set 2 (v:Int))).toArray] V fun e w'=>e=C (J H 0)/\∃ P',SInv w' P' d p (putI X S N n ((N.getD n []).set 2 (v:Int)))/\Chg P P' w w':=fun V hV=>
  (OC h.inv h.wi hp h.fs h.pl.tab h1 Bu (by rw[AJ];exact hx) IF hV).mono fun e w' ⟨he,P',hi,hc⟩=>⟨he,P',hi,(Chg.of_below hV).trans hc⟩
 obtain⟨XX,hXX⟩:=nm (putI X S N n ((N.getD n []).set 2 (v:Int)));rw[<- hXX] at KP0 |-
 clear hXX IF;generalize N.getD n []=x at KG0 KP0 hx;obtain⟨kd,ln,sz,d0,d1,d2,d3,d4,d5,d6,d7,d8,d9,mp,rfl⟩:=JU hx;have KG:Hid (AA I 37 #[Am (D ⟨bf,0,U⟩),J H n] w fun e w'=>e=C (AO #[BD #[J H kd,J H ln,J H sz,J H d0,J H d1,J H d2,J H d3,J H d4,J H d5,J H d6,J H d7,J H d8,J H d9,J H mp],J H 0])/\At w.heap.size w w'):=vJ KG0;have KP:Hid (∀ V,At w.heap.size w V->AA I 42 #[Am (D ⟨bf,0,U⟩),J H n,BD #[J H kd,J H ln,J H v,J H d0,J H d1,J H d2,J H d3,J H d4,J H d5,J H d6,J H d7,J H d8,J H d9,J H mp]] V fun e w'=>e=C (J H 0)/\∃ P',SInv w' P' d p XX/\Chg P P' w w'):=vJ KP0;clear KG0 KP0 h hr hx hp;go_enter Tryz.func49,Tryz.ntmps49
 go_wp2_with (first
  |(go_at_call 37;refine KG.out.mono ?_;rintro e w2 ⟨rfl,hb2⟩
    have hbx:Hid (∀ o,At w.heap.size w (w2.alloc o)):=vJ fun o=>hb2.trans ((Ay w2 o).mono hb2.size)
    have hby:Hid (∀ o u,At w.heap.size w ((w2.alloc o).setCell ⟨w2.heap.size,2,U⟩ u)):=vJ fun o u=>(hbx.out o).trans ((Wrote.setCell _ _ _ _).below hb2.size))
  |(go_at_call 42;refine(KP.out _ (by first|exact hby.out _ _|exact hbx.out _)).mono ?_;rintro e w3 ⟨rfl,P3,ib,hc3⟩))
 go_ret;exact⟨rfl,P3,ib,hc3⟩
end
end
section
open Go.RowKit
theorem TA:∀ (l:List Aq) (k:Nat) (cells:List Aq),k+l.length<=cells.length->
 (l.zipIdx k).foldl (fun(cs:Array Aq) (x:Aq × Nat)=>cs.setIfInBounds (0+x.2) x.1) cells.toArray=(splice cells k l).toArray
 |[],k,cells,_=>by simp[splice]
 |v :: l,k,cells,h=>by
  have hl:k+(l.length+1)<=cells.length:=by simpa using h
  rw[List.zipIdx_cons,List.foldl_cons,show cells.toArray.setIfInBounds (0+k) v=(cells.set k v).toArray by simp,
   TA l (k+1) _ (by rw[AJ];omega)]
  have e:=list_seg_step cells k v l (by omega);simp only[splice]
  simpa [D6] using BH List.toArray e
theorem Zq(cells:Array Aq)(size:Nat)(vs:List Aq)(hs:vs.length=size)(hl:cells.size=size):
 Instr.fill (fun i=>D (i*size,size)) cells [(0,BD vs.toArray)]=D vs.toArray:=by
 obtain⟨L,rfl⟩:∃ L:List Aq,cells=L.toArray:=⟨cells.toList,by simp⟩;have hL:L.length=size:=by simpa using hl
 have hf:=TA vs 0 L (by omega);rw[Instr.fill];have c1:¬ (vs.toArray.size≠size\/0*size+vs.toArray.size > L.toArray.size):=by simp;omega
 simp only[show(Aq.agg vs.toArray).cells=vs.toArray from rfl];rw[AE (by simpa using c1)];rw[EW L vs (by omega)] at hf;simp only[Instr.fill,Nat.zero_mul];congr 1;refine Eq.trans ?_ hf;simp
end
section
open Go.RowKit BM
def Jq(a n:Nat):Nat:=if n=0 then 0 else (a%256+n+255) / 256
def Dz(a n k:Nat):Nat:=min n (256*k-a%256)
def sX(a n k:Nat):List Int:=[((a / 256+k:Nat):Int),(((a+Dz a n k)%256:Nat):Int),(((a+Dz a n k)%256+(Dz a n (k+1)-Dz a n k):Nat):Int)]
def fq(a n:Nat):List (List Int):=(Co (Jq a n)).map (sX a n)
theorem NW(a n:Nat):Dz a n 0=0:=by unfold Dz;omega
theorem YH(a n k:Nat):Dz a n k<=n:=Nat.min_le_left _ _
theorem Ko{a n k:Nat}(h:k<Jq a n):Dz a n k<n/\Dz a n k<Dz a n (k+1)/\Dz a n (k+1)-Dz a n k=min (256-(a+Dz a n k)%256) (n-Dz a n k)/\(a+Dz a n k) / 256=a / 256+k:=by
 unfold Jq at h;split at h
 . omega
 . next h0=>
   unfold Dz;obtain⟨o,ho⟩:=nm (a%256);rw[<- ho] at h |-
   have ha:a=256*(a / 256)+o:=(by omega);have hk:256*k<o+n:=(by omega);have ho2:o<256:=(by omega);obtain⟨b,hb⟩:=nm (a / 256);rw[<- hb] at ha |-
   subst ha;clear ho h hb;by_cases k0:k=0
   . subst k0
     refine⟨by omega,by omega,by omega,by omega⟩
   . have e:min n (256*k-o)=256*k-o:=by omega
     rw[e];have e2:256*b+o+(256*k-o)=256*(b+k):=(by omega);rw[e2];refine⟨by omega,by omega,by omega,by omega⟩
theorem T5(a n:Nat):Dz a n (Jq a n)=n:=by
 unfold Dz Jq;split
 . omega
 . omega
theorem I2(a n:Nat):(fq a n).length=Jq a n:=by unfold fq;rw[Bk,List.length_range]
theorem aP{a n k:Nat}(h:k<Jq a n):(fq a n)[k]'(by rw[I2];exact h)=sX a n k:=by unfold fq;rw[Ct,Cg]
def vy(L:List (List Int)):Prop:=∀ x∈L,x.length=3
def SR(w:Ah)(B:Nat)(v:Aq)(O:List (List Int)):Prop:=vy O/\w.ownsRow B 96 3 v O.length (nC O)
theorem SR.below{w w':Ah}{B:Nat}{v:Aq}{O:List (List Int)}(h:SR w B v O)(hb:At w.heap.size w w'):SR w' B v O:=by
 refine⟨h.1,h.2.1,?_⟩;rcases h.2.2 with h| ⟨g,cap,cur,hv,hg,hh,r⟩
 . exact AN h
 . exact Ba ⟨g,cap,cur,hv,hg,by rw[hb.block g (Al.1 hh).1];exact hh,r⟩
theorem qB(w:Ah)(B:Nat):SR w B (Ak U 0 0) []:=⟨fun x hx=>absurd hx BI,E4 w B _ _⟩
theorem SR.cells{w:Ah}{B:Nat}{v:Aq}{O:List (List Int)}(h:SR w B v O)(h0:0<O.length):∃ g cap,v=Ak (D ⟨g,0,U⟩) O.length cap/\B<=g/\g<w.heap.size/\O.length<=cap/\∀ k (hk:k<O.length) (j:Nat),j<3->w.cell? ⟨g,k*3+j,U⟩=D (J H (O[k].getD j 0)):=by
 rcases h.2.2 with⟨_,hl⟩| ⟨g,cap,cur,hv,hg,hh,Hn,LD,Hb,ht⟩
 . omega
 . refine⟨g,cap,hv,hg,(Al.1 hh).1,Hn,fun k hk j hj=>?_⟩
   rw[Az _ _ _ _ _ _ hh];have hl3:O[k].length=3:=h.1 _ (Bf hk);have hf:=Gw (f:=iC) (L:=O) (s:=3) (fun x hx=>by rw[Cx,h.1 x hx]) k hk;have e1:cur[k*3+j]? =(nC O)[k*3+j]? :=by
    rw[<- ht,AZ,AC (by omega)];exact(Array.getElem?_toList).symm
   rw[e1];have e2:((nC O).drop (k*3)).take 3=iC O[k]:=hf;have e3:(((nC O).drop (k*3)).take 3)[j]? =(iC O[k])[j]? :=(by rw[e2]);rw[AZ,AC hj,Bp] at e3;rw[e3];unfold iC;rw[List.getElem?_map,AS (by omega),An,AS (by omega)];rfl
theorem Xc:(I.info? 96).map (fun i=>(i.zero,i.size,i.bytes))=D (D (BD #[J H 0,J H 0,J H 0]),3,24):=by kernel_rfl
theorem PN{w:Ah}{ops:Array BS}{rest:List BS}{o:BS}{a:Act}{Q:Exit->Act->Ah->Prop}(Dn:o.guard=U)(y:Operand)(ho:o.op=.buildSlice 93 1 #[(0,y)])
 (x:List Int) (hx:x.length=3) (hy:a.eval y=BD (iC x).toArray)
 (h:Cn I ops Q rest (a.put o.dst (Ak (D ⟨w.heap.size,0,U⟩) 1 1)) (w.alloc (iO x 96))):Cn I ops Q (o :: rest) a w:=by
 obtain⟨i,h2,h3,h4,h5⟩:=By Xc;refine wpList_buildSlice Dn 93 96 1 _ ho (iC x).toArray i _ Tryz.underlying93 h2 h3 (by rw[h4];decide) (by rw[h4];decide) ?_ h;rw[h4];simp only[Jd,J5,Sd,hy];exact Zq _ 3 (iC x) (by rw[Cx,hx]) (by simp)
theorem O6(w1:Ah)(x:List Int)(hx3:x.length=3){ops:Array BS}{rest:List BS}{o:BS}{a:Act}{Q:Exit->Act->Ah->Prop}(Dn:o.guard=U)(s y:Operand)
 (ho:o.op=.call { callee:=.builtin .append,args:=#[s,y],argTypes:=#[93,93] })
 (B:Nat) (v:Aq) (O:List (List Int)) (hs:a.eval s=v) (hown:SR w1 B v O) (hO:O.length<=1000000) (hy:a.eval y=Ak (D ⟨w1.heap.size,0,U⟩) 1 1) (hB:B<=w1.heap.size)
 (h:∀ v' w',SR w' B v' (O ++ [x])->At B w1 w'->Cn I ops Q rest (a.put o.dst v') w'):Cn I ops Q (o :: rest) a (w1.alloc (iO x 96)):=by
 obtain⟨t,h2,h3,h4,h5⟩:=By Xc;have hbel:At w1.heap.size w1 (w1.alloc (iO x 96)):=Ay _ _;have MZ:(w1.alloc (iO x 96)).heap[w1.heap.size]? =D (iO x 96):=Aw w1 _;have hf:=hown.below hbel;refine Mh _ Dn s y 93 ho B 96 t _ 3 24 Tryz.underlying93 h2 h3 h4 h5 rfl (by decide) v O.length _ hs hf.2 ⟨w1.heap.size,0,U⟩ 1 1 (iC x) hy (by rw[Cx,hx3]) ?_ (QS x) (by simp only[maxLen];omega) (by omega) (by simp;omega) fun v' w' h6 h7 _=>?_
 . intro m u hm
   rw[Cb,Bm];have:=FN MZ m u hm;rw[Bm] at this;exact this
 . refine h v' w' ⟨fun z hz=>?_,?_⟩ ((hbel.mono hB).trans ((AM _ _).grown h7 (by simp;omega) fun k hk=>(Ck hf.2 k hk).1))
   . rcases C0.1 hz with hz|hz
     . exact hown.1 z hz
     . simp at hz;subst hz;exact hx3
   . have e:nC (O ++ [x])=nC O ++ iC x:=by simp[nC]
     rw[Ax,e];exact h6
structure Flt (w:Ah) (P:Nat->Prop) (d p:Aq) (X:XSt) (S:List Int) (N:List (List Int)) (O:List (Int × Int)) (kk:Nat) (F:Nat->List Int) (bf n sz:Nat) (M:Nat->Option (List Int)) (Q:List Int):Prop where
 md:Fmd w P d p X S N O kk F bf
 ft:Fat X.call N F n sz M
 q:PutS X Q
 bs:Base Q S kk n (num (N.getD n []) 13)
 rm:(Dm O (64*kk):Int)<=62*(kk:Int)-42
def FlO(w:Ah)(P:Nat->Prop)(d p:Aq)(X:XSt)(S:List Int)(N:List (List Int))(O:List (Int × Int))(kk:Nat)(F:Nat->List Int)(bf n:Nat)(Q:List Int)(sz:Nat)(M:Nat->Option (List Int))(k:Nat)(R:(Nat->Prop)->XSt->List (List Int)->(Nat->List Int)->List Int->Prop)(w':Ah):Prop:=
 ∃ P' X' N' O' F' Q',Flt w' P' d p X' S N' O' kk F' bf n sz M Q'/\Fst S kk X N O F n X' N' O' F'/\(∀ a∈Q,a∈Q')/\Q'.length<=Q.length+k/\Chg P P' w w'/\R P' X' N' F' Q'
def R5:(Nat->Prop)->XSt->List (List Int)->(Nat->List Int)->List Int->Prop:=fun _ _ _ _ _=>True
def FlE(w:Ah)(P:Nat->Prop)(d p:Aq)(X:XSt)(S:List Int)(kk bf:Nat)(w':Ah):Prop:=
 ∃ P' X' N' O' F',Fmd w' P' d p X' S N' O' kk F' bf/\Onw X X'/\Chg P P' w w'
section
variable {w:Ah}{P:Nat->Prop}{d p:Aq}{X:XSt}{S:List Int}{N:List (List Int)}{O:List (Int × Int)}{kk:Nat}{F:Nat->List Int}{bf n sz:Nat}{M:Nat->Option (List Int)}{Q:List Int}
theorem Flt.low(h:Flt w P d p X S N O kk F bf n sz M Q){w':Ah}(hb:At w.heap.size w w'):Flt w' P d p X S N O kk F bf n sz M Q:={ h with md:=h.md.low hb }
theorem Flt.here(h:Flt w P d p X S N O kk F bf n sz M Q){R:(Nat->Prop)->XSt->List (List Int)->(Nat->List Int)->List Int->Prop}(hR:R P X N F Q):FlO w P d p X S N O kk F bf n Q sz M 0 R w:=
 ⟨P,X,N,O,F,Q,h,Fst.refl _ _ _ _ _ _ _,fun _ h=>h,AB _,Chg.refl _ _,hR⟩
def Fp(O:List (Int × Int))(kk:Nat)(M M':Nat->Option (List Int)):Prop:=(Dm O (64*kk):Int)+DL M'<=62*(kk:Int)-42+DL M
theorem Tk(M:Nat->Option (List Int))(i:Nat)(l m:List Int):DL (E7 M i l)=DL (E7 M i m):=PB fun j _=>by
 by_cases e:j=i
 . subst e;rw[Hs,Hs];exact⟨fun _=>rfl,fun _=>rfl⟩
 . rw[FW _ e,FW _ e]
theorem Flt.cnt{X':XSt}{N':List (List Int)}{O':List (Int × Int)}{F':Nat->List Int}{M':Nat->Option (List Int)}{sz':Nat}(h:Flt w P d p X S N O kk F bf n sz M Q)(hf:Fat X'.call N' F' n sz' M')(hs:Fst S kk X N O F n X' N' O' F'):Dm O' (64*kk)+DL M=Dm O (64*kk)+DL M':=by
 have h1:=h.ft.used;have h2:=hf.used;have h3:=hs.cn;omega
theorem Flt.map(h:Flt w P d p X S N O kk F bf n sz M Q)(h1:1<=n)(Bu:n<48)(hQ:Q.length<=34){i:Nat}(hi:i<138):
 (Fp O kk M (E7 M i z256)->AA I 88 #[Am (D ⟨bf,0,U⟩),J H n,J H i] w fun e w'=>∃ v:Nat,e=C (AO #[J H v,J H 0])/\
   FlO w P d p X S N O kk F bf n Q sz (E7 M i (Ga M i)) 2 (fun P' X' N' F' Q'=>(v:Int)∈Q'/\BJ (N'.getD n []) (F' n) i=(v:Int)/\v≠0) w')/\
 (¬ Fp O kk M (E7 M i z256)->AA I 88 #[Am (D ⟨bf,0,U⟩),J H n,J H i] w fun e w'=>e=C (AO #[J H 0,J H 13])/\FlE w P d p X S kk bf w'):=by
 have hk:=h.ft.k0;by_cases h0:BJ (N.getD n []) (F n) i=0
 . have hn:=h.ft.none hi h0
   have hnd:=h.ft.need hi hn z256;have hbl:Ga M i=z256:=(by unfold Ga;rw[hn];rfl);rw[hbl];constructor
   . intro hf
     unfold Fp at hf;refine(fF h.md h1 Bu hk hi h0 h.q hQ h.bs (by rw[hnd] at hf;push_cast at hf;omega)).mono ?_;rintro e w' ⟨v,P',X',N',O',F',he,hm,hr,hg⟩;obtain⟨R,r1,r2,r3,r4⟩:=hr.pw;have hv:=hr.v0;have Qv:=h.ft.map h.md.pl hr h1 Bu hi;have hfs:=hr.st.fst h.md.pl hr.on;have hc:=h.cnt Qv hfs;refine⟨v.toNat,by rw[he];congr 3;simp;omega,P',X',N',O',F',Q ++ R,⟨hm,Qv,r3,⟨fun g hg=>⟨Br _ (h.bs.g g hg).1,Br _ (h.bs.g g hg).2⟩,Br _ h.bs.t,r4⟩,by omega⟩,hfs,fun a ha=>Br _ ha,by rw[Ax];omega,hg,?_,?_,by omega⟩
     . rw[show((v.toNat:Nat):Int)=v by omega];exact Ep _ r2
     . rw[hr.loc i hi,AC rfl];omega
   . intro hf
     unfold Fp at hf;refine(Zj h.md h1 Bu hk hi h0 h.q hQ h.bs (by rw[hnd] at hf;push_cast at hf;omega)).mono ?_;rintro e w' ⟨he,P',X',N',O',hm,ho,hg⟩;exact⟨he,P',X',N',O',F,hm,ho,hg⟩
 . have hsm:=h.ft.some hi h0
   have hu:E7 M i (Ga M i)=M:=by
    funext j;by_cases e:j=i
    . subst e;rw[Hs];unfold Ga;rw[hsm];rfl
    . rw[FW _ e]
   have IE:Fp O kk M (E7 M i z256):=by
    unfold Fp;rw[Tk M i z256 (Ga M i),hu];have:=h.rm;omega
   refine⟨fun _=>?_,fun hf=>absurd IE hf⟩;rw[hu];refine(fb h.md h1 Bu hk hi h0).mono ?_;rintro e w' ⟨he,hm,hg⟩;have hbd:=Nu (h.md.pl.tab.n.frm n Bu) (h.md.pl.fi.fl n) (i:=i) (by omega);have ev:(((BJ (N.getD n []) (F n) i).toNat:Nat):Int)=BJ (N.getD n []) (F n) i:=by omega
   refine⟨(BJ (N.getD n []) (F n) i).toNat,by rw[he,ev],P,X,N,O,F,Q ++ [BJ (N.getD n []) (F n) i],⟨hm,h.ft,h.q.wide fun a ha=>Br _ ha,⟨fun g hg=>⟨Br _ (h.bs.g g hg).1,Br _ (h.bs.g g hg).2⟩,Br _ h.bs.t,fun e=>Br _ (h.bs.m e)⟩,h.rm⟩,Fst.refl _ _ _ _ _ _ _,fun a ha=>Br _ ha,by rw[Ax,List.length_singleton];omega,hg,?_,ev.symm,by omega⟩;rw[ev];exact Ep _ (Et.2 rfl)
theorem Flt.put(h:Flt w P d p X S N O kk F bf n sz M Q)(h1:1<=n)(Bu:n<48)(hQ:Q.length<=36){i:Nat}(hi:i<138){v:Nat}(hv:BJ (N.getD n []) (F n) i=(v:Int))(h0:v≠0)(hvQ:(v:Int)∈Q){l:List Int}(hl:l.length=256){u:Aq}(hu:BSl w u l):
 AA I 85 #[p,J H v,u] w fun e w'=>e=C (J H 0)/\FlO w P d p X S N O kk F bf n Q sz (E7 M i l) 0 R5 w':=by
 have ho:=Jl hi (h.md.pl.fi.ow n i h1 Bu (by omega) id (by rw[hv];omega));rw[hv,B5] at ho;refine(h.md.data h1 Bu hi ho hl hu (by have:=h.q.le;omega)).mono ?_;rintro e w' ⟨he,P',hm,hg⟩;exact⟨he,P',_,N,O,F,Q,⟨hm,h.ft.put h.md.pl h1 Bu hi hv h0 hl hu.1,h.q.add hvQ rfl,h.bs,h.rm⟩,⟨fun m sz M a b c e=>e.putOther h.md.pl b c (CR a) ho l,⟨rfl,rfl⟩,rfl,rfl,fun _ _=>rfl⟩,fun _ h=>h,AB _,hg,trivial⟩
theorem Frd.data(h:Frd w P d p X S N O kk F bf)(h1:1<=n)(Bu:n<48){i:Nat}(hi:i<138){v:Nat}(hv:BJ (N.getD n []) (F n) i=(v:Int))(h0:v≠0):v<X.is.length/\Ei v:=by
 have ho:=h.fi.ow n i h1 Bu (by omega) id (by rw[hv];omega);rw[hv] at ho;have hj:=ho.outJ h.k12;rw[B5] at hj;refine⟨?_,hj⟩;rw[<- h.inv.xok.curLen,h.len];have:=ho.1;omega
theorem Frd.getB(h:Frd w P d p X S N O kk F bf)(ft:Fat X.cur N F n sz M)(h1:1<=n)(Bu:n<48){i:Nat}(hi:i<138){v:Nat}(hv:BJ (N.getD n []) (F n) i=(v:Int))(h0:v≠0){V:Ah}(hV:At w.heap.size w V):
 AA I 89 #[p,J H v] V fun e w'=>∃ g cap T rest,e=C (AO #[Ak (D ⟨g,0,U⟩) 256 cap,J H 0])/\Rw w' V.heap.size (Ak (D ⟨g,0,U⟩) 256 cap) (Ga M i) g cap T rest/\At V.heap.size V w':=by
 obtain⟨hl,hj⟩:=h.data h1 Bu hi hv h0;refine(Xo (h.inv.low hV) hl).mono ?_;rintro e w' ⟨u,l,he,⟨g,cap,T,rest,hr⟩,hE,hb⟩;have e1:l=Ga M i:=by
  rw[hE hj];unfold Ga;rw[ft.some hi (by rw[hv];omega),hv,B5];rfl
 subst e1;have hu:=hr.val;subst hu;exact⟨g,cap,T,rest,he,hr,hb⟩
end
section
variable {w:Ah}{P:Nat->Prop}{d p:Aq}{X:XSt}{S:List Int}{N:List (List Int)}{O:List (Int × Int)}{kk:Nat}{F:Nat->List Int}{bf n sz:Nat}{M:Nat->Option (List Int)}{Q:List Int}
def vj(w:Ah)(N:List (List Int))(F:Nat->List Int)(M:Nat->Option (List Int))(n i:Nat)(e:Ending)(w':Ah):Prop:=
 ∃ g cap T rest,e=C (AO #[J H (BJ (N.getD n []) (F n) i),Ak (D ⟨g,0,U⟩) 256 cap,J H 0])/\Rw w' w.heap.size (Ak (D ⟨g,0,U⟩) 256 cap) (Ga M i) g cap T rest/\At w.heap.size w w'
theorem KV(h:Frd w P d p X S N O kk F bf)(ft:Fat X.cur N F n sz M)(h1:1<=n)(Bu:n<48){i:Nat}(hi:i<138):
 AA I 78 #[Am (D ⟨bf,0,U⟩),J H n,J H i] w (vj w N F M n i):=by
 have KA:=vJ (ml h h1 Bu ft.k0 hi);by_cases h0:BJ (N.getD n []) (F n) i=0
 . have hbl:Ga M i=z256:=by unfold Ga;rw[ft.none hi h0];rfl
   unfold vj;rw[hbl];rw[h0] at KA |-
   have HR:Hid (∀ V:Ah,Rw ((V.alloc (Ar (A3 256 (J .u8 0)) 5)).drew) V.heap.size (Ak (D ⟨V.heap.size,0,U⟩) 256 256) z256 V.heap.size 256 5 []):=vJ fun V=>by
    refine⟨R9,QD,rfl,AB _,?_,AB _⟩;have:=Aw V (Ar (A3 256 (J .u8 0)) 5);refine Eq.trans this ?_;rw[BB];unfold z256;rw[List.map_replicate,List.toArray_replicate]
   have sF:=fun W=>Yr W 256 (by decide) 256 rfl
   obtain⟨Z,hZ⟩:=nm (A3 256 (J .u8 0));rw[<- hZ] at HR sF;clear h ft h0 hbl hZ;go_enter Tryz.func78,Tryz.ntmps78;go_wp2_with (go_at_call 118;refine KA.out.mono ?_;rintro e w2 ⟨rfl,hb2⟩)
   go_region
   go_wp2;go_ret3;exact⟨_,_,_,_,rfl,{ HR.out w2 with ge:=hb2.size },(hb2.trans ((Ay w2 _).mono hb2.size)).drew⟩
 . have hbd:=Nu (h.tab.n.frm n Bu) (h.fi.fl n) (i:=i) (by omega)
   obtain⟨v,hv⟩:∃ v:Nat,BJ (N.getD n []) (F n) i=(v:Int):=⟨(BJ (N.getD n []) (F n) i).toNat,by omega⟩;have mb:v≠0:=(by omega);have KG:=vJ (fun V hV=>h.getB ft h1 Bu hi hv mb (V:=V) hV);have HF:=vJ (fun V (hV:At w.heap.size w V)=>(h.fs.low hV).cell);unfold vj;rw[hv] at KA |-
   have ev:((v:Int)==0)=AI:=by simpa using mb
   have HS:Hid (w.heap.size=w.heap.size):=vJ rfl;clear h ft h0 hbd hv mb;go_enter Tryz.func78,Tryz.ntmps78
   go_wp2_with (first
    |(go_at_call 118;refine KA.out.mono ?_;rintro e w2 ⟨rfl,hb2⟩;have c2:=HF.out _ hb2)
    |(go_at_call 89;refine(KG.out _ hb2).mono ?_;rintro e w3 ⟨g,cap,T,rest,rfl,hr3,hb3⟩))
   go_ret3;exact⟨g,cap,T,rest,rfl,{ hr3 with ge:=AT hb2.size hr3.ge },hb2.trans (hb3.mono hb2.size)⟩
end
theorem dM(l:List Int):∀ v∈l.map (J .u8),v.oneCell'=AL:=fun v hv=>by
 obtain⟨x,_,rfl⟩:=Cq.1 hv;rfl
section
variable {w:Ah}{P:Nat->Prop}{d p:Aq}{X:XSt}{S:List Int}{N:List (List Int)}{O:List (Int × Int)}{kk:Nat}{F:Nat->List Int}{bf n sz:Nat}{M:Nat->Option (List Int)}{Q:List Int}
def SpAt(w:Ah)(b:Nat)(i o t:Int):Prop:=w.heap[b]? =D (Ar #[J H i,J H o,J H t] 96 (0,0))
theorem SpAt.cells{b:Nat}{i o t:Int}(h:SpAt w b i o t):w.cell? ⟨b,0,U⟩=D (J H i)/\w.cell? ⟨b,1,U⟩=D (J H o)/\w.cell? ⟨b,2,U⟩=D (J H t):=
 ⟨by rw[Az _ _ _ _ _ _ h];rfl,by rw[Az _ _ _ _ _ _ h];rfl,by rw[Az _ _ _ _ _ _ h];rfl⟩
theorem FlO.widen{w1:Ah}{sz2 k:Nat}{M2:Nat->Option (List Int)}{R:(Nat->Prop)->XSt->List (List Int)->(Nat->List Int)->List Int->Prop}{w':Ah}(hb:At w.heap.size w w1)(h:FlO w1 P d p X S N O kk F bf n Q sz2 M2 k R w'):FlO w P d p X S N O kk F bf n Q sz2 M2 k R w':=by
 obtain⟨P',X',N',O',F',Q',a,b,c,e,f,g⟩:=h;exact⟨P',X',N',O',F',Q',a,b,c,e,(Chg.of_below hb).trans f,g⟩
theorem FlE.widen{w1 w':Ah}(hb:At w.heap.size w w1)(h:FlE w1 P d p X S kk bf w'):FlE w P d p X S kk bf w':=by
 obtain⟨P',X',N',O',F',a,b,c⟩:=h;exact⟨P',X',N',O',F',a,b,(Chg.of_below hb).trans c⟩
theorem FlO.then{P1:Nat->Prop}{X1:XSt}{N1:List (List Int)}{O1:List (Int × Int)}{F1:Nat->List Int}{Q1:List Int}{w1 w':Ah}{sz2 j k:Nat}{M2:Nat->Option (List Int)}{R:(Nat->Prop)->XSt->List (List Int)->(Nat->List Int)->List Int->Prop}
 (hs:Fst S kk X N O F n X1 N1 O1 F1) (hq:∀ a∈Q,a∈Q1) (hl:Q1.length<=Q.length+j) (hc:Chg P P1 w w1) (h:FlO w1 P1 d p X1 S N1 O1 kk F1 bf n Q1 sz2 M2 k R w'):FlO w P d p X S N O kk F bf n Q sz2 M2 (j+k) R w':=by
 obtain⟨P',X',N',O',F',Q',a,b,c,e,f,g⟩:=h;exact⟨P',X',N',O',F',Q',a,hs.trans b,fun x hx=>c x (hq x hx),by omega,hc.trans f,g⟩
theorem QM(h:Flt w P d p X S N O kk F bf n sz M Q)(h1:1<=n)(Bu:n<48)(hQ:Q.length<=34){i o m:Nat}(hi:i<138)(hm:0<m)(ho:o+m<=256){u:Aq}{c:List Int}(hu:BSl w u c)(ak:Apt P u)(hc:m<=c.length)(hf:Fp O kk M (E7 M i z256)):
 AA I 48 #[Am (D ⟨bf,0,U⟩),J H n,BD #[J H i,J H o,J H ((o+m:Nat):Int)],u] w fun e w'=>e=C (J H 0)/\FlO w P d p X S N O kk F bf n Q sz (E7 M i (splice (Ga M i) o (c.take m))) 2 R5 w':=by
 have hb1:=Ay w (Ar #[J H i,J H o,J H ((o+m:Nat):Int)] 96);have hr1:SpAt (w.alloc (Ar #[J H i,J H o,J H ((o+m:Nat):Int)] 96)) w.heap.size i o ((o+m:Nat):Int):=Aw w _;obtain⟨w1,hw1⟩:=nm (w.alloc (Ar #[J H i,J H o,J H ((o+m:Nat):Int)] 96));have H1:=vJ hw1.symm;rw[<- hw1] at hb1 hr1;have h':=h.low hb1;have hPs:¬ P w.heap.size:=fun hp=>by have:=h.md.inv.lt _ hp;omega
 have c1:=hr1.cells.1;have HU:Hid (∀ V P2,Chg P P2 w1 V->BSl V u c/\SpAt V w.heap.size i o ((o+m:Nat):Int)):=vJ fun V P2 hg=>
  ⟨((hu.below hb1).chg ak hg).1,(hg.keep _ (Al.1 hr1).1 hPs).1.trans hr1⟩
 obtain⟨ub,uo,ucap,rfl,_,_⟩:=hu.open' (by omega)
 have KM:Hid (AA I 88 #[Am (D ⟨bf,0,U⟩),J H n,J H i] w1 fun e w2=>∃ v:Nat,e=C (AO #[J H v,J H 0])/\
  FsAt w2 bf p/\(∀ V,At w2.heap.size w2 V->BSl V (Ak (D ⟨ub,uo,U⟩) c.length ucap) c/\SpAt V w.heap.size i o ((o+m:Nat):Int)/\FsAt V bf p)/\
  AA I 89 #[p,J H v] w2 fun e w3=>∃ g cap T rest,e=C (AO #[Ak (D ⟨g,0,U⟩) 256 cap,J H 0])/\Rw w3 w2.heap.size (Ak (D ⟨g,0,U⟩) 256 cap) (Ga M i) g cap T rest/\At w2.heap.size w2 w3/\
   ∀ w4 l,At w2.heap.size w2 w4->BSl w4 (Ak (D ⟨g,0,U⟩) 256 cap) l->l.length=256->AA I 85 #[p,J H v,Ak (D ⟨g,0,U⟩) 256 cap] w4 fun e w'=>e=C (J H 0)/\FlO w P d p X S N O kk F bf n Q sz (E7 M i l) 2 R5 w'):=vJ (by
  refine((h'.map h1 Bu hQ hi).1 hf).mono ?_;rintro e w2 ⟨v,he,P2,X2,N2,O2,F2,Q2,h2,hst,hqq,hql,hg2,hvQ,JI,mb⟩;refine⟨v,he,h2.md.fs,fun V hV=>?_,?_⟩
  . obtain⟨a,b⟩:=HU.out _ _ hg2
    exact⟨a.below hV,BA b hV,h2.md.fs.low hV⟩
  . have ro:Ga (E7 M i (Ga M i)) i=Ga M i:=by rw[U9,AC rfl]
    refine(h2.md.rd.getB (M:=E7 M i (Ga M i)) (by rw[h2.md.cur];exact h2.ft) h1 Bu hi JI mb (AM _ _)).mono ?_;rintro e3 w3 ⟨g,cap,T,rest,he3,hr3,hb3⟩;rw[ro] at hr3;refine⟨g,cap,T,rest,he3,hr3,hb3,fun w4 l hb4 hu4 hl4=>?_⟩;refine((h2.low hb4).put h1 Bu (by omega) hi JI mb hvQ hl4 hu4).mono ?_;rintro e5 w5 ⟨he5,ho5⟩;rw[Xn] at ho5;exact⟨he5,(FlO.then (j:=2) (k:=0) hst hqq hql (hg2.trans (Chg.of_below hb4)) ho5).widen hb1⟩)
 have hlen:((c.take m).map (J .u8)).length=m:=by rw[Bk,AK];omega
 have HLN:=vJ hlen;have HMN:Hid (m=Nat.min c.length m):=vJ (Nat.min_eq_right hc).symm;have HBC:Hid (FJ (c.take m)):=vJ (Ez hu.1 m);have HTL:Hid ((c.take m).length=m):=vJ (by rw[AK];omega);have HBW:=vJ hb1;have ho1:o<256:=by omega
 have hom:((o:Nat):Int)<=((o+m:Nat):Int):=by omega
 have cM:((o+m:Nat):Int)<=256:=by omega
 obtain⟨t,ht⟩:∃ t:Nat,t=o+m:=⟨_,rfl⟩;have HT:=vJ ht;rw[<- ht] at hom cM H1 KM hr1 |-
 have uP:t-o=m:=by omega
 have hot:o<=t:=by omega
 have tU:t<=256:=by omega
 have HTM:=vJ uP;have HOM:Hid (o+m<=256):=vJ ho;clear h h' hw1 hb1 hr1 HU hu ak hlen hf hPs ht hc uP ho;go_enter Tryz.func48,Tryz.ntmps48;go_upto_region 1 with(fail)
 rw[H1.out]
 go_wp2_with (first
  |(go_at_call 88;refine KM.out.mono ?_;rintro e w2 ⟨v,rfl,hf2,XE,KG⟩;have cf2:=hf2.cell;have HK2:=vJ XE;have KGH:=vJ KG;clear hf2 XE KG)
  |(go_at_call 89;refine KGH.out.mono ?_;rintro e w3 ⟨g,cap,T,rest,rfl,hr3,hb3,KP⟩
    obtain⟨hu3,hs3,hf3⟩:=HK2.out _ hb3;obtain⟨s0,s1,s2⟩:=hs3.cells;have HR3:=vJ hr3;have HB3:=vJ hb3;have HP:=vJ KP;have rZ:=hr3.cap;have HU3:=vJ hu3;have HF3:=vJ hf3;have HPOS:Hid (0<((c.take m).map (J .u8)).length->∃ ad,(D (⟨ub,uo,U⟩:Addr))=D ad/\∀ j v,((c.take m).map (J .u8))[j]? =D v->w3.cell? (ad.add j)=D v):=vJ fun hp=>ED hu3 (fun _ _=>rfl) m hp
    have HFT:Hid (o+((c.take m).map (J .u8)).length<=((Ga M i).map (J .u8) ++ rest).length):=vJ (by rw[HLN.out,Ax,Bk,hr3.len];have:=HOM.out;omega);clear hr3 hb3 KP hu3 hs3 hf3)
  |(with_reducible refine Ee rfl (.tmp 35) (.tmp 37) (.tmp 39) rfl g 0 256 cap rfl (o:Int) (t:Int) rfl rfl o t m HTM.out rfl rfl hot (by omega) (by omega) ?_)
  |(with_reducible refine C8 rfl _ _ 49 49 rfl 5 Tryz.underlying49 (by kernel_rfl) _ _ _ _ _ _ rfl rfl g o ((Ga M i).map (J .u8) ++ rest) T HR3.out.row ((c.take m).map (J .u8)) m HLN.out HMN.out (fun h=>⟨rfl,HPOS.out h⟩) HFT.out (dM _) ?_
    intro w4 HG4 HW4;have hr4:Rw w4 w2.heap.size (Ak (D ⟨g,0,U⟩) 256 cap) (splice (Ga M i) o (c.take m)) g cap T rest:=(HR3.out.wrote HBC.out (by rw[HTL.out];exact HOM.out) HG4.out);have hbf:=block_lt_of_cell cf2;have hge:=HR3.out.ge;have hf4:FsAt w4 bf p:=(HW4.2.2.2.2 bf (by intro e;simp only at hbf;omega)).trans HF3.out;have cf4:=hf4.cell;have KP4:=vJ (HP.out w4 _ (HB3.out.trans (HW4.below HR3.out.ge)) hr4.bsl hr4.len))
  |(go_at_call 85;refine KP4.out.mono ?_;rintro e w5 ⟨rfl,hO5⟩))
 go_ret;exact⟨rfl,hO5⟩
theorem QT(h:Flt w P d p X S N O kk F bf n sz M Q)(h1:1<=n)(Bu:n<48)(hQ:Q.length<=34){i:Nat}{o t:Int}(hi:i<138){u:Aq}(hf:¬ Fp O kk M (E7 M i z256)):
 AA I 48 #[Am (D ⟨bf,0,U⟩),J H n,BD #[J H i,J H o,J H t],u] w fun e w'=>e=C (J H 13)/\FlE w P d p X S kk bf w':=by
 have hb1:=Ay w (Ar #[J H i,J H o,J H t] 96);have hr1:SpAt (w.alloc (Ar #[J H i,J H o,J H t] 96)) w.heap.size i o t:=Aw w _;obtain⟨w1,hw1⟩:=nm (w.alloc (Ar #[J H i,J H o,J H t] 96));have H1:=vJ hw1.symm;rw[<- hw1] at hb1 hr1;have c1:=hr1.cells.1;have KM:=vJ (((h.low hb1).map h1 Bu hQ hi).2 hf);have HB:=vJ hb1;clear h hw1 hr1 hf hb1;go_enter Tryz.func48,Tryz.ntmps48;go_upto_region 1 with(fail)
 rw[H1.out];go_wp2_with (go_at_call 88;refine KM.out.mono ?_;rintro e w2 ⟨rfl,hE⟩)
 go_ret;exact⟨rfl,hE.widen HB.out⟩
end
theorem Ur{a n:Int}(hn:¬ 0<n)(w:Ah):AA I 47 #[J H a,J H n] w fun e w'=>e=C (Ak U 0 0)/\w=w':=by
 go_enter Tryz.func47,Tryz.ntmps47;go_wp2;go_loopw [1,5] (fun y v wr=>w=wr/\y=J H n/\v=Ak U 0 0) (fun _ _ _=>0)
 case atStart=>exact⟨rfl,rfl,rfl⟩
 case round=>
  obtain⟨rfl,rfl,rfl⟩:=hrel;go_wp2;go_ret;exact⟨rfl,rfl⟩
theorem Yb{a n:Nat}(ha:a<=100000)(hn:n<=100000)(w:Ah):AA I 47 #[J H a,J H n] w fun e w'=>∃ v,e=C v/\SR w' w.heap.size v (fq a n)/\At w.heap.size w w':=by
 have H0:Hid (SR w w.heap.size (Ak U 0 0) ((fq a n).take 0)/\At w.heap.size w w):=vJ ⟨qB w _,AM _ _⟩;have HST:Hid (∀ k,k<Jq a n->Dz a n k<n/\Dz a n k<Dz a n (k+1)/\Dz a n (k+1)-Dz a n k=min (256-(a+Dz a n k)%256) (n-Dz a n k)/\(a+Dz a n k) / 256=a / 256+k):=vJ fun k=>Ko
 have HEND:=vJ (T5 a n);have HLE:=vJ (YH a n);have HTK:Hid (∀ k,k<Jq a n->(fq a n).take (k+1)=(fq a n).take k ++ [sX a n k]):=vJ fun k hk=>by
  rw[Bn (by rw[I2];exact hk),aP hk]
 have HFU:Hid ((fq a n).take (Jq a n)=fq a n):=vJ (AV (by rw[I2];exact AB _));have HTL:Hid (∀ k,((fq a n).take k).length<=1000000):=vJ fun k=>by
  rw[AK,I2];unfold Jq;split <;> omega
 have HZ:Hid (Dz a n 0=0):=vJ (NW a n);obtain⟨L,hL⟩:=nm (fq a n);rw[<- hL] at H0 HTK HFU HTL |-
 obtain⟨c,hc⟩:=nm (Jq a n);rw[<- hc] at HST HEND HTK HFU;have HSPA:Hid (∀ k,sX a n k=[((a / 256+k:Nat):Int),(((a+Dz a n k)%256:Nat):Int),(((a+Dz a n k)%256+(Dz a n (k+1)-Dz a n k):Nat):Int)]):=vJ fun _=>rfl
 clear hL hc;go_enter Tryz.func47,Tryz.ntmps47;go_wp2;go_loopw [0,1,5] (fun x y v wr=>∃ k:Nat,k<=c/\x=J H ((a+Dz a n k:Nat):Int)/\y=J H ((n-Dz a n k:Nat):Int)/\Hid (SR wr w.heap.size v (L.take k)/\At w.heap.size w wr)) (fun _ y _ _=>(intOf y).toNat)
 case atStart=>exact⟨0,AX _,by rw[HZ.out];rfl,by rw[HZ.out];rfl,H0⟩
 case round=>
  obtain⟨k,hk,rfl,rfl,HS⟩:=hrel;clear H0;by_cases hlt:k<c
  . obtain⟨s1,s2,s3,s4⟩:=HST.out k hlt
    have Mi:=HLE.out k;obtain⟨A,hA⟩:=nm (a+Dz a n k);obtain⟨R,hR⟩:=nm (n-Dz a n k);obtain⟨f,hf⟩:=nm (A%256);obtain⟨q,hq⟩:=nm (A / 256);obtain⟨t,ht⟩:=nm (min (f+R) 256);have HSP:Hid (sX a n k=[(q:Int),(f:Int),(t:Int)]):=vJ (by
     rw[HSPA.out k,<- hA,<- hf,s3,<- hA,<- hf,<- hR,<- s4,<- hA,<- hq];congr 3;omega)
    have HN1:Hid (a+Dz a n (k+1)=A+(t-f)/\n-Dz a n (k+1)=R-(t-f)):=vJ (by
     rw[<- hA] at s3;omega)
    rw[<- hA,<- hR];have hA2:A<=200000:=(by omega);have hR2:R<=100000:=(by omega);have hR0:0<R:=(by omega);have hf2:f<256:=(by omega);have Qv:f<t:=(by omega);have tU:t<=256:=(by omega);have htR:t-f<=R:=(by omega);have e1:((A:Int)).tmod 256=(f:Int):=(by rw[D9 (by omega)];omega);have e2:((A:Int)).tdiv 256=(q:Int):=(by rw[Int.tdiv_eq_ediv_of_nonneg (by omega)];omega);have e3:min ((f:Int)+(R:Int)) 256=(t:Int):=(by omega);have TW:q<=1000:=(by omega);have eR:(0:Int)<(R:Int):=(by omega);have hown:=HS.out.1;have hbel:=HS.out.2;have HSZ:=vJ hbel.size;have HTK1:=vJ (HTK.out k hlt);have HOW:=vJ hown;have HBE:=vJ hbel;clear s1 s2 s3 s4 Mi hA hR hf hq ht HS hown hbel
    go_wp2_with (first
     |(with_reducible refine PN rfl (.tmp 21) rfl [(q:Int),(f:Int),(t:Int)] rfl rfl ?_)
     |(at_builtin
       refine O6 wr [(q:Int),(f:Int),(t:Int)] rfl rfl (.tmp 16) (.tmp 22) rfl w.heap.size _ (L.take k) rfl HOW.out (HTL.out k) rfl HSZ.out ?_;intro v2 w2 hs2 hb2))
    have HS2:Hid (SR w2 w.heap.size v2 (L.take (k+1))/\At w.heap.size w w2):=vJ ⟨by rw[HTK1.out,HSP.out];exact hs2,HBE.out.trans hb2⟩;clear hs2 hb2;go_roundw
    case rel=>exact⟨k+1,by omega,by rw[HN1.out.1];congr 1;omega,by rw[HN1.out.2];congr 1;omega,HS2⟩
    case measure=>simp[intOf];omega
  . obtain rfl:k=c:=by omega
    rw[HEND.out,Nat.sub_self];have HS2:=HS;rw[HFU.out] at HS2;clear HS;go_wp2;go_ret;exact⟨_,rfl,HS2.out.1,HS2.out.2⟩
section
variable {w:Ah}{P:Nat->Prop}{d p:Aq}{X:XSt}{S:List Int}{N:List (List Int)}{O:List (Int × Int)}{kk:Nat}{F:Nat->List Int}{bf n sz:Nat}{M:Nat->Option (List Int)}{Q:List Int}
def vH(w:Ah)(B:Nat)(v:Aq)(a K:Nat):Prop:=
 ∃ ao cap,v=Ak ao (Jq a K) cap/\(0<Jq a K->∃ g,ao=D ⟨g,0,U⟩/\B<=g/\g<w.heap.size/\∀ k,k<Jq a K->w.cell? ⟨g,k*3,U⟩=D (J H ((a / 256+k:Nat):Int))/\w.cell? ⟨g,k*3+1,U⟩=D (J H (((a+Dz a K k)%256:Nat):Int))/\
   w.cell? ⟨g,k*3+2,U⟩=D (J H (((a+Dz a K k)%256+(Dz a K (k+1)-Dz a K k):Nat):Int)))
theorem SR.spv{B:Nat}{v:Aq}{a K:Nat}(h:SR w B v (fq a K)):vH w B v a K:=by
 by_cases h0:0<Jq a K
 . obtain⟨g,cap,hv,hB,hg,_,hc⟩:=h.cells (by rw[I2];exact h0)
   rw[I2] at hv;refine⟨_,cap,hv,fun _=>⟨g,rfl,hB,hg,fun k hk=>?_⟩⟩;have hx:=fun j hj=>hc k (by rw[I2];exact hk) j hj
   rw[aP hk] at hx;exact⟨hx 0 (by decide),hx 1 (by decide),hx 2 (by decide)⟩
 . rcases h.2.2 with⟨hv,hl⟩| ⟨g,cap,cur,hv,_⟩
   . exact⟨U,0,by rw[hv];congr 1;omega,fun e=>absurd e h0⟩
   . rw[I2] at hv
     exact⟨_,_,hv,fun e=>absurd e h0⟩
theorem Pg{a K:Nat}{Z:Int}(hZ:Z=(K:Int)\/(K=0/\¬ 0<Z))(ha:0<K->a<=100000)(hK:K<=100000)(w:Ah):AA I 47 #[J H a,J H Z] w fun e w'=>∃ v,e=C v/\vH w' w.heap.size v a K/\At w.heap.size w w':=by
 by_cases h0:0<K
 . obtain rfl:Z=(K:Int):=by omega
   exact(Yb (ha h0) hK w).mono fun e w' ⟨v,he,hs,hb⟩=>⟨v,he,hs.spv,hb⟩
 . have e0:K=0:=by omega
   subst e0;refine(Ur (a:=(a:Int)) (n:=Z) (by omega) w).mono ?_;rintro e w' ⟨he,rfl⟩;exact⟨_,he,⟨U,0,rfl,fun h=>absurd h (by unfold Jq;rw[AC rfl];omega)⟩,AM _ _⟩
theorem ju(w:Ah)(B:Nat):OB w B (Ak U 0 0) []:=⟨Gq,E4 w B _ _⟩
theorem Tn(h:Frd w P d p X S N O kk F bf)(ft:Fat X.cur N F n sz M)(h1:1<=n)(Bu:n<48){a m:Nat}(ha:(a:Int)<=9223372036854775807)(hm:(m:Int)<=9223372036854775807):
 AA I 38 #[Am (D ⟨bf,0,U⟩),J H n,J H a,J H m] w fun e w'=>∃ v,e=C (AO #[v,J H 0])/\OB w' w.heap.size v (Md M a (min m (sz-a)))/\At w.heap.size w w':=by
 have lT:=ft.sb;obtain⟨K,hK⟩:=nm (min m (sz-a));rw[<- hK];have KF0:=MF h h1 Bu ft.k0;have En:=ft.zs;have hx:=h.tab.n.get Bu;generalize N.getD n []=x at KF0 En hx;obtain⟨kd,ln,sz',d0,d1,d2,d3,d4,d5,d6,d7,d8,d9,mp,rfl⟩:=JU hx;have Pa:sz'=(sz:Int):=En;subst Pa;have KF:Hid (AA I 46 #[Am (D ⟨bf,0,U⟩),J H n] w fun e w'=>e=C (AO #[BD #[J H kd,J H ln,J H sz,J H d0,J H d1,J H d2,J H d3,J H d4,J H d5,J H d6,J H d7,J H d8,J H d9,J H mp],J H 0])/\At w.heap.size w w'):=vJ KF0;have KS:=vJ (fun V=>Pg (a:=a) (K:=K) (Z:=min (m:Int) ((sz:Int)-(a:Int))) (by omega) (by omega) (by omega) V);have KR:=vJ (fun V (hV:At w.heap.size w V) i (hi:i<138)=>KV (h.low hV) ft h1 Bu hi);have HOK:=vJ ft.ok;have e1:(0:Int)<=(a:Int):=by omega
 have e2:(0:Int)<=(m:Int):=by omega
 have e3:H.wrap ((sz:Int)-(a:Int))=(sz:Int)-(a:Int):=A9 _ (by omega);have HEND:=vJ (T5 a K);have HST:Hid (∀ k,k<Jq a K->Dz a K k<K/\Dz a K k<Dz a K (k+1)/\Dz a K (k+1)-Dz a K k=min (256-(a+Dz a K k)%256) (K-Dz a K k)/\(a+Dz a K k) / 256=a / 256+k/\a / 256+k<138/\a+K<=35328):=vJ fun k hk=>by
  obtain⟨s1,s2,s3,s4⟩:=Ko hk;exact⟨s1,s2,s3,s4,by omega,by omega⟩
 have cA:Jq a K<=1000:=by
  unfold Jq;split <;> omega
 have HZ:Hid (Dz a K 0=0):=vJ (NW a K);have HFS:=vJ (fun V (hV:At w.heap.size w V)=>(h.fs.low hV).cell);clear h ft KF0 En hx hK;go_enter Tryz.func38,Tryz.ntmps38
 go_wp2_with (first
  |(go_at_call 46;refine KF.out.mono ?_;rintro e w2 ⟨rfl,hb2⟩
    have hb3:=hb2.trans ((Ay w2 (Ar #[J H kd,J H ln,J H sz,J H d0,J H d1,J H d2,J H d3,J H d4,J H d5,J H d6,J H d7,J H d8,J H d9,J H mp] 80)).mono hb2.size))
  |(go_at_call 47;refine(KS.out _).mono ?_;rintro e w4 ⟨v,rfl,hv4,hb4⟩;obtain⟨ao,cap,rfl,CX⟩:=hv4))
 have HB4:Hid (At w.heap.size w w4):=vJ (hb3.trans (hb4.mono hb3.size));have HCE:=vJ CX;obtain⟨c,hc⟩:=nm (Jq a K);rw[<- hc] at HCE HST HEND cA |-
 have H0:Hid (OB w4 w4.heap.size (Ak U 0 0) (Md M a (Dz a K 0))/\At w4.heap.size w4 w4):=vJ ⟨by rw[HZ.out];exact ju _ _,AM _ _⟩;clear hb2 hb3 hb4 CX hc;go_loopw [12,42] (fun b i wr=>∃ k:Nat,k<=c/\i=J H k/\Hid (OB wr w4.heap.size b (Md M a (Dz a K k))/\At w4.heap.size w4 wr)) (fun _ i _=>c-(intOf i).toNat)
 case atStart=>exact⟨0,AX _,rfl,H0⟩
 case round=>
  obtain⟨k,hk,rfl,HS⟩:=hrel;clear H0;by_cases hlt:k<c
  . obtain⟨g,rfl,XK,hg,cG⟩:=HCE.out (by omega)
    obtain⟨s1,s2,s3,s4,s5,s6⟩:=HST.out k hlt;have hbw:=HB4.out.trans (HS.out.2.mono HB4.out.size);obtain⟨c0,c1,c2⟩:=cG k hlt;have uE:=fun(p:Addr) (hp:p.block<w4.heap.size)=>HS.out.2.cell hp
    rw[<- uE ⟨g,_,U⟩ hg] at c0 c1 c2;obtain⟨A,hA⟩:=nm (a+Dz a K k);obtain⟨f,hf⟩:=nm (A%256);obtain⟨q,hq⟩:=nm (a / 256+k);obtain⟨s,hs⟩:=nm (Dz a K (k+1)-Dz a K k);obtain⟨t,ht⟩:=nm (f+s);rw[<- hq] at c0;rw[<- hA,<- hf] at c1 c2;rw[<- hs,<- ht] at c2;rw[<- hA,<- hf,<- hs] at s3;have hf256:f<256:=(by omega);have lE:0<s:=(by omega);have cM:t<=256:=(by omega);have Qv:f<=t:=(by omega);have HTF:Hid (t-f=s):=vJ (by omega);have HRD:Hid (Md M a (Dz a K (k+1))=Md M a (Dz a K k) ++ ((Ga M q).drop f).take s):=vJ (by
     have e:Dz a K (k+1)=Dz a K k+s:=(by omega);rw[e,jh,ea HOK.out (a:=a+Dz a K k) (i:=q) (o:=f) (n:=s) (by omega) (by omega)])
    have HLE:Hid (f+s<=256):=vJ (by omega);have hb1:=Ay wr (Ar #[J H q,J H f,J H t] 96);have hr1:(wr.alloc (Ar #[J H q,J H f,J H t] 96)).heap[wr.heap.size]? =D (Ar #[J H q,J H f,J H t] 96 (0,0)):=Aw wr _;have HRB:=vJ (KR.out _ (hbw.trans (hb1.mono hbw.size)) q (by omega));have HSP:Hid (∀ V,At (wr.alloc (Ar #[J H q,J H f,J H t] 96)).heap.size (wr.alloc (Ar #[J H q,J H f,J H t] 96)) V->V.cell? ⟨wr.heap.size,1,U⟩=D (J H f)/\V.cell? ⟨wr.heap.size,2,U⟩=D (J H t)):=vJ fun V hV=>by
     have:=BA hr1 hV;exact⟨by rw[Az _ _ _ _ _ _ this];rfl,by rw[Az _ _ _ _ _ _ this];rfl⟩
    have HB1:=vJ hb1;have HOB:=vJ HS.out.1;have HBR:=vJ HS.out.2;have HLL:Hid ((Md M a (Dz a K k)).length+(((Ga M q).drop f).take s).length<=140737488355328):=vJ (by
     have h1:Dz a K k<=100000:=(by omega);have h2:(((Ga M q).drop f).take s).length<=s:=(by rw[AK];exact Nat.min_le_left _ _);rw[Ek];omega)
    have ek:(k:Int)<(c:Int):=(by omega);clear s1 s2 s3 s4 s5 s6 hbw uE hA hf hq hs ht hb1 hr1 HS cG
    go_wp2_with (first
     |(go_at_call 78;refine HRB.out.mono ?_;rintro e w6 ⟨g2,cap2,T2,rest2,rfl,hr6,hb6⟩
       obtain⟨x1,x2⟩:=HSP.out _ hb6;have rZ:=hr6.cap;have HB6:Hid (At wr.heap.size wr w6):=vJ (HB1.out.trans (hb6.mono HB1.out.size));have HBS:Hid (BSl w6 (Ak (D ⟨g2,0+f,U⟩) s (cap2-f)) (((Ga M q).drop f).take s)):=vJ (by
        have:=hr6.bsl;rw[show(256:Nat)=(Ga M q).length from hr6.len.symm] at this;exact this.mid f s (by rw[hr6.len];exact HLE.out))
       have HOB6:=vJ (HOB.out.below HB6.out);have HSZ6:Hid (w4.heap.size<=w6.heap.size):=vJ (AT HBR.out.size HB6.out.size);clear hr6 hb6)
     |(with_reducible refine Ee rfl (.tmp 59) (.tmp 61) (.tmp 63) rfl g2 0 256 cap2 rfl (f:Int) (t:Int) rfl rfl f t s HTF.out rfl rfl Qv (by omega) (by omega) ?_)
     |(at_builtin
       refine BY w6 rfl (.tmp 58) (.tmp 64) rfl w4.heap.size _ (Md M a (Dz a K k)) rfl HOB6.out w6 (Ak (D ⟨g2,0+f,U⟩) s (cap2-f)) (((Ga M q).drop f).take s) rfl HBS.out (fun _ _=>rfl) HLL.out HSZ6.out ?_;intro v7 w7 hob7 uQ _))
    have HOB7:Hid (OB w7 w4.heap.size v7 (Md M a (Dz a K (k+1)))/\At w4.heap.size w4 w7):=vJ ⟨by rw[HRD.out];exact hob7,HBR.out.trans ((HB6.out.mono HBR.out.size).trans uQ)⟩;clear hob7 uQ;clear x1 x2 rZ;have hk1:k+1<=c:=(by omega);have oF:c-(k+1)<c-k:=(by omega);go_roundw
    case rel=>exact⟨k+1,hk1,by go_num,HOB7⟩
    case measure=>simp[intOf];omega
  . obtain rfl:k=c:=by omega
    rw[HEND.out] at HS;go_wp2;go_ret2;exact⟨_,rfl,HS.out.1.more HB4.out.size,HB4.out.trans (HS.out.2.mono HB4.out.size)⟩
end
section
variable {w:Ah}{P:Nat->Prop}{d p:Aq}{X:XSt}{S:List Int}{N:List (List Int)}{O:List (Int × Int)}{kk:Nat}{F:Nat->List Int}{bf n sz:Nat}{M:Nat->Option (List Int)}{Q:List Int}
theorem Flt.size(h:Flt w P d p X S N O kk F bf n sz M Q)(h1:1<=n)(Bu:n<48)(hQ:Q.length<=36){v:Nat}(hv:v<=35328):
 AA I 49 #[Am (D ⟨bf,0,U⟩),J H n,J H v] w fun e w'=>e=C (J H 0)/\FlO w P d p X S N O kk F bf n Q v M 0 R5 w':=by
 obtain⟨s1,s2,s3,s4⟩:=h.ft.size h.md.pl h1 Bu hv;have hx:=h.md.pl.tab.n.get Bu;have hn:n<N.length:=by rw[h.md.pl.tab.n.len];exact Bu
 refine(U5 h.md h1 Bu (by have:=h.q.le;omega) s3).mono ?_;rintro e w' ⟨he,P',hi,hg⟩;obtain⟨hfs,IH⟩:=h.md.fs.chg hg h.md.nb;have hy:(N.set n ((N.getD n []).set 2 (v:Int))).getD n []=(N.getD n []).set 2 (v:Int):=by rw[D5 hn,AC rfl]
 refine⟨he,P',putI X S N n ((N.getD n []).set 2 (v:Int)),N.set n ((N.getD n []).set 2 (v:Int)),O,F,Q,⟨⟨hi,h.md.wi,s2,h.md.st,hfs,IH⟩,s1,h.q.add h.bs.t rfl,?_,h.rm⟩,s4 _ rfl ⟨rfl,rfl⟩,fun _ h=>h,AB _,hg,trivial⟩;rw[hy,CA (by omega),AE (by omega)];exact h.bs
end
end
end Go.Proofs.YtdefiimcmecnnaaGreat
