/- What the law rests on. -/
import Derived.Test.YtfpdajplfmakhaaGreatDoorQD10
open Go.Value renaming int->J,slice->Aw,pointer->Ax,tuple->AT,bool->AY,agg->BS
open Go.IntKind renaming i64->Y
open Go.Proofs.Tryz renaming prog->Aq
open Option renaming none->U,some->H
open Go renaming World->I,Value->AA,Calls->AH,Oper->BK,wpList->Cj,TypeId->Cn
open Go.Ending renaming returned->Av
open Go.Obj renaming cells->Ay
open Go.RowKit renaming Below->AB
open List renaming replicate->AI,range->BE,length_cons->BJ
open Bool renaming false->AN,true->AQ
open Array renaming replicate->AW
open Or renaming inl->A4,inr->A8
open Int renaming toNat_natCast->Cf
open Go.Proofs.Tryz
namespace Go.Proofs.YtfpdajplfmakhaaGreatDoor
set_option linter.defProp false
set_option maxHeartbeats 12000000
set_option linter.unusedVariables false
set_option maxRecDepth 100000
section
open Go.RowKit BM
structure MapR (X:XSt) (S:Ab) (N:Ae) (O:Ag) (kk:Nat) (F:Nat->Ab) (n i:Nat) (Q:Ab) (v:Int) (X':XSt) (N':Ae) (O':Ag) (F':Nat->Ab):Prop where
 st:Stp S kk X.call N O F n X'.call N' O' F'
 v0:0<v
 loc:∀ b,b<138->Ch (N'.getD n []) (F' n) b=if b=i then v else Ch (N.getD n []) (F n) b
 mp:num (N'.getD n []) 13≠0 ↔ (num (N.getD n []) 13≠0\/10<=i)
 zer:X'.call.getD v.toNat []=z256
 on:Onw X X'
 pt:∃ R,R.length<=2/\(i<10->R=[v])/\PutS X' (Q ++ R)
 near:i<10->O'=O.set v.toNat (n,i)/\v=G4 O (64*kk) (GZ (64*kk) (Ga (N.getD n []) (F n) i))
 pw:∃ R,R.length<=2/\v∈R/\PutS X' (Q ++ R)/\(num (N'.getD n []) 13≠0->num (N'.getD n []) 13∈Q ++ R)
def QO(mp:Int)(i:Nat):Nat:=if 10<=i/\mp=0 then 2 else 1
section
variable {w:I}{P:Nat->Prop}{d p:AA}{X:XSt}{S:Ab}{N:Ae}{O:Ag}{kk:Nat}{F:Nat->Ab}{bf n i:Nat}{Q:Ab}
def VM(a:OOk O kk)(g:Int)(i:(Dz O (64*kk):Int)<62*(kk:Int)-42):∃ f:Nat,FreeB O kk f/\G4 O (64*kk) (GZ (64*kk) g)=f:=by
 obtain⟨f,b,c,d,h⟩:=Su a (m:=kk) (g:=GZ (64*kk) g) a.k1 (AE _) (by unfold GZ;have:=a.k1;split <;> omega) i;exact⟨f,⟨d,h,b⟩,c⟩
def PutS.last{Q R:Ab}(h:PutS X (Q ++ R)){b:XSt}{a:Int}(c:a∈Q)(e:b.put=D9 X.put a):PutS b (Q ++ R):=h.add (BA _ c) e
def Zb(h:Fmd w P d p X S N O kk F bf)(u:1<=n)(o:n<48)(M:CE N n≠0)(hi:i<10)(I:Ch (N.getD n []) (F n) i=0)(hq:PutS X Q)(hQ:Q.length<=34)(x:Base Q S kk n (num (N.getD n []) 13))(R:(Dz O (64*kk):Int)<62*(kk:Int)-42):
 AH Aq 103 #[Ax (H ⟨bf,0,U⟩),J Y n,J Y i] w fun e w'=>∃ v r G C D B,e=Av (AT #[J Y v,J Y 0])/\Fmd w' r d p G S C D kk B bf/\MapR X S N O kk F n i Q v G C D B/\Chg P r w w':=by
 have T:Jt i=(i:Int):=by unfold Jt;rw[AJ Aa]
 obtain⟨f,L,z⟩:=VM h.pl.ok (Ga (N.getD n []) (F n) i) R;obtain⟨s,W,hz⟩:=h.pl.mapNear u o M hi I L;have A:n<N.length:=by rw[h.pl.tab.n.len];exact o
 have hx:=h.pl.tab.n.get o;have qA:=(Gq L.fx).1
 refine(Qh (mp:=num (N.getD n []) 13) (g:=Ga (N.getD n []) (F n) i) (E:=0) (v:=(f:Int)) (R0:=fun j V=>∃ c,Chs w P V P d p X S N O kk F bf n i j c)
  (R2:=fun j V=>PutS (Hb X O f (n,i)) (Q ++ [(f:Int)])/\∃ c P2,Chs w P V P2 d p (Hb X O f (n,i)) S N (O.set f (n,i)) kk F bf n i j c)
  (R3:=fun w'=>PutS (Hb X O f (n,i)) (Q ++ [(f:Int)])/\∃ j c y,Chs w P w' y d p (putI (Hb X O f (n,i)) S N n ((N.getD n []).set (3+i) f)) S (N.set n ((N.getD n []).set (3+i) f)) (O.set f (n,i)) kk F bf n i j c)
  Aa (Chs.open h u o M Aa) ?_ ?_ ?_ ?_ ?_).mono ?_
 . rintro j V ⟨c,k⟩;rw[<- I];exact(k.at Aa)
 . rintro j V ⟨c,k⟩;exact k.ch.cm
 . rintro j V ⟨c,k⟩;exact k.goal o Aa
 . rintro j V ⟨c,k⟩
   obtain⟨Z,a0,vv,l,K⟩:=k.take u o (Ga (N.getD n []) (F n) i) (a:=i) Aa hq Aa x.g R;obtain rfl:Z=f:=Aa;rw[T] at l K;exact K.mono fun e w' ⟨he,r,q,_⟩=>⟨he,l,c,r,q⟩
 . rintro _ j V ⟨l,c,P2,k⟩
   have:=l.le;rw[AO,List.length_singleton] at this;exact(k.near u o Aa hi W s.pl).mono fun e w' ⟨he,r,q⟩=>⟨he,l,j,c,r,q⟩
 . rintro e w' (⟨_,he,l,j,c,y,k⟩| ⟨h,_⟩)
   . refine⟨(f:Int),y,_,_,_,_,he,k.md,⟨s,Aa,fun b hb=>?_,?_,by rw[Cf];exact hz,⟨rfl,rfl⟩,⟨[(f:Int)],Ai,fun _=>rfl,l.last x.t rfl⟩,fun _=>⟨by rw[Cf],z.symm⟩,⟨[(f:Int)],Ai,Ai,l.last x.t rfl,fun h=>?_⟩⟩,k.cg⟩
     . rw[Eb A,AG rfl,R9 hx hi]
     . rw[Eb A,AG rfl,Dg Aa,AJ Aa]
       exact⟨A4,fun h=>h.elim id fun h=>absurd h Aa⟩
     . rw[Eb A,AG rfl,Dg Aa,AJ Aa] at h |-
       exact BA _ (x.m h)
   . exact absurd rfl h
def dm(h:Fmd w P d p X S N O kk F bf)(t:1<=n)(r:n<48)(hk:CE N n≠0)(x:10<=i)(hi:i<138)(K:Ch (N.getD n []) (F n) i=0)(hq:PutS X Q)(hQ:Q.length<=34)(L:Base Q S kk n (num (N.getD n []) 13))(T:(Dz O (64*kk):Int)<62*(kk:Int)-42)(y:num (N.getD n []) 13≠0):
 AH Aq 103 #[Ax (H ⟨bf,0,U⟩),J Y n,J Y i] w fun e w'=>∃ v s G C D B,e=Av (AT #[J Y v,J Y 0])/\Fmd w' s d p G S C D kk B bf/\MapR X S N O kk F n i Q v G C D B/\Chg P s w w':=by
 have W:Jt i=(i:Int):=by unfold Jt;rw[AJ Aa]
 obtain⟨f,R,a1⟩:=VM h.pl.ok (Ga (N.getD n []) (F n) i) T;have ho:=h.pl.fi.map t r id y;obtain⟨m,z⟩:∃ m:Nat,num (N.getD n []) 13=(m:Int):=⟨(num (N.getD n []) 13).toNat,by have:=ho.1;omega⟩;have I:m≠0:=Aa;obtain⟨u,hL,hz⟩:=h.pl.mapFar t r x hi K R z I;have qA:=(Gq R.fx).1;have l:=L.m y;rw[z] at l
 refine(Qh (mp:=num (N.getD n []) 13) (g:=Ga (N.getD n []) (F n) i) (E:=0) (v:=(f:Int)) (R0:=fun k V=>∃ c,Chs w P V P d p X S N O kk F bf n i k c)
  (R2:=fun k V=>PutS (Hb X O f (n,i)) (Q ++ [(f:Int)])/\∃ c P2,Chs w P V P2 d p (Hb X O f (n,i)) S N (O.set f (n,i)) kk F bf n i k c)
  (R3:=fun w'=>PutS (Hb X O f (n,i)) (Q ++ [(f:Int)])/\∃ k c A,Chs w P w' A d p (Rf (Hb X O f (n,i)) m (FT ((F n).set (i-10) f))) S N (O.set f (n,i)) kk (setF F n ((F n).set (i-10) f)) bf n i k c)
  (fun e=>y e.2) (Chs.open h t r hk hi) ?_ ?_ ?_ ?_ ?_).mono ?_
 . rintro k V ⟨c,j⟩;rw[<- K];exact(j.at hi)
 . rintro k V ⟨c,j⟩;exact j.ch.cm
 . rintro k V ⟨c,j⟩;exact j.goal r hi
 . rintro k V ⟨c,j⟩
   obtain⟨Z,a0,vv,o,M⟩:=j.take t r (Ga (N.getD n []) (F n) i) (a:=i) Aa hq Aa L.g T;obtain rfl:Z=f:=Aa;rw[W] at o M;exact M.mono fun e w' ⟨he,s,q,_⟩=>⟨he,o,c,s,q⟩
 . rintro _ k V ⟨o,c,P2,j⟩
   have:=o.le;rw[AO,List.length_singleton] at this;exact(j.setFar t r Aa x hi (j.far x) hL z I u.pl).mono fun e w' ⟨he,s,q⟩=>⟨he,o,k,c,s,q⟩
 . rintro e w' (⟨_,he,o,k,c,A,j⟩| ⟨h,_⟩)
   . refine⟨(f:Int),A,_,_,_,_,he,j.md,⟨u,Aa,fun b hb=>?_,⟨A4,fun _=>y⟩,by rw[Cf];exact hz,⟨rfl,rfl⟩,⟨[(f:Int)],Ai,fun _=>rfl,o.last l rfl⟩,fun h=>absurd h Aa,⟨[(f:Int)],Ai,Ai,o.last l rfl,fun _=>by rw[z];exact BA _ l⟩⟩,j.cg⟩
     rw[OT,QB (h.pl.fi.fl n).1 x hi]
   . exact absurd rfl h
def Chs.mapFar{k:I}{g:Nat->Prop}{a:Nat}{h:AA}{f m:Nat}(j:Chs k g w P d p (Hb X O f (n,i)) S N (O.set f (n,i)) kk F bf n i a h)(r:1<=n)(l:n<48)(c:10<=i)(hi:i<138)(hp:(Hb X O f (n,i)).put.length<37)(s:FN ((F n).set (i-10) f)=AQ)(t:num (N.getD n []) 13=(m:Int))(q:m≠0)
 (b:Pl EZ ((OM X.call O f (n,i)).set m (FT ((F n).set (i-10) f))) S N (O.set f (n,i)) kk (setF F n ((F n).set (i-10) f))):
 AH Aq 144 #[Ax (H ⟨a,0,U⟩),J Y i,J Y f] w fun e w'=>e=Av (J Y 0)/\∃ o,Chs k g w' o d p (Rf (Hb X O f (n,i)) m (FT ((F n).set (i-10) f))) S N (O.set f (n,i)) kk (setF F n ((F n).set (i-10) f)) bf n i a h:=
 j.setFar r l hp c hi (j.far c) s t q b
def XO(h:Fmd w P d p X S N O kk F bf)(B:1<=n)(r:n<48)(hk:CE N n≠0)(K:10<=i)(hi:i<138)(h0:Ch (N.getD n []) (F n) i=0)(hq:PutS X Q)(hQ:Q.length<=34)(L:Base Q S kk n (num (N.getD n []) 13))(hr:(Dz O (64*kk):Int)+1<62*(kk:Int)-42)(W:num (N.getD n []) 13=0):
 AH Aq 103 #[Ax (H ⟨bf,0,U⟩),J Y n,J Y i] w fun e w'=>∃ v u X' N' O' F',e=Av (AT #[J Y v,J Y 0])/\Fmd w' u d p X' S N' O' kk F' bf/\MapR X S N O kk F n i Q v X' N' O' F'/\Chg P u w w':=by
 have GB:Jt i=(i:Int):=by unfold Jt;rw[AJ Aa]
 obtain⟨m,C,a6⟩:=VM h.pl.ok 0 Aa;obtain⟨I,Kl⟩:=h.pl.addMap B r hk W C;have Xc:=(Gq C.fx).1;have hn:n<N.length:=by rw[h.pl.tab.n.len];exact r
 have hx:=h.pl.tab.n.get r;obtain⟨o,z⟩:=nm (N.set n ((N.getD n []).set 13 (m:Int)));obtain⟨x,T⟩:=nm (putI (Hb X O m (n,65535)) S N n ((N.getD n []).set 13 m));obtain⟨s,tv⟩:=nm (O.set m ((n:Int),(65535:Int)));have hy:o.getD n []=(N.getD n []).set 13 (m:Int):=by rw[z,Eb hn,AG rfl]
 have A:Stp S kk X.call N O F n x.call o s F:=by rw[T,z,tv];exact I
 have R:num (o.getD n []) 13=(m:Int):=by rw[hy,Dg Aa,AG rfl]
 have qB:∀ b,b<138->Ch (o.getD n []) (F n) b=Ch (N.getD n []) (F n) b:=fun b hb=>by rw[hy,Rz hx,AJ Aa]
 have G:Dz s (64*kk)=Dz O (64*kk)+1:=by
  rw[tv];exact ME (by rw[h.pl.ok.len];exact C.lt) C.fr C.fx Aa _ C.lt
 obtain⟨f,hf,a4⟩:=VM A.pl.ok (Ga (o.getD n []) (F n) i) (by rw[G];push_cast;omega);have a0:Ch (o.getD n []) (F n) i=0:=by rw[qB i hi];exact h0
 obtain⟨y,hL,hz⟩:=A.pl.mapFar B r K hi a0 hf R Xc;have qA:=(Gq hf.fx).1
 refine(Ni (g:=Ga (o.getD n []) (F n) i) (M:=0) (E:=0) (v:=(f:Int)) (R0:=fun j V=>∃ c,Chs w P V P d p X S N O kk F bf n i j c)
  (R1:=fun j V=>PutS (Hb X O m (n,65535)) (Q ++ [(m:Int)])/\∃ c Z,Chs w P V Z d p x S o s kk F bf n i j c)
  (R2:=fun j V=>PutS (Hb x s f (n,i)) (Q ++ [(m:Int)] ++ [(f:Int)])/\∃ c P2,Chs w P V P2 d p (Hb x s f (n,i)) S o (s.set f (n,i)) kk F bf n i j c)
  (R3:=fun w'=>PutS (Hb x s f (n,i)) (Q ++ [(m:Int)] ++ [(f:Int)])/\∃ j c P3,Chs w P w' P3 d p (Rf (Hb x s f (n,i)) m (FT ((F n).set (i-10) f))) S o (s.set f (n,i)) kk (setF F n ((F n).set (i-10) f)) bf n i j c)
  Aa (Chs.open h B r hk hi) ?_ ?_ ?_ ?_ ?_ ?_).mono ?_
 . rintro j V ⟨c,k⟩;rw[<- h0];exact(k.at hi)
 . rintro j V ⟨c,k⟩;rw[<- W];exact k.ch.cm
 . rintro j V ⟨c,k⟩
   obtain⟨m',a5,a2,l,D⟩:=k.addMap B r hk W hq Aa L.g Aa;obtain rfl:m'=m:=Aa;rw[<- T,<- z,<- tv] at D;exact D.mono fun e w' ⟨he,u,q⟩=>⟨he,l,c,u,q⟩
 . rintro _ j V ⟨l,c,Z,k⟩;exact k.goal r hi
 . rintro _ j V ⟨l,c,Z,k⟩
   have p3:PutS x (Q ++ [(m:Int)]):=l.last L.t (by rw[T];rfl);obtain⟨f',a3,vv,p4,D⟩:=k.take B r (Ga (o.getD n []) (F n) i) (a:=i) Aa p3 (by rw[AO,List.length_singleton];omega) (fun g hg=>⟨BA _ (L.g g hg).1,BA _ (L.g g hg).2⟩) (by rw[G];push_cast;omega);obtain rfl:f'=f:=Aa;rw[GB] at p4 D;exact D.mono fun e w' ⟨he,u,q,_⟩=>⟨he,p4,c,u,q⟩
 . rintro _ _ j V ⟨l,c,P2,k⟩
   have:=l.le;rw[AO,AO,List.length_singleton,List.length_singleton] at this;exact(k.mapFar B r K hi Aa hL R Xc y.pl).mono fun e w' ⟨he,u,q⟩=>⟨he,l,j,c,u,q⟩
 . rintro e w' (⟨h,_⟩| ⟨_,_,he,l,j,c,P3,k⟩| ⟨_,h,_⟩)
   . exact absurd rfl h
   . have a1:Onw X x:=by rw[T];exact⟨rfl,rfl⟩
     refine⟨(f:Int),P3,_,_,_,_,he,k.md,⟨A.trans y,Aa,fun b hb=>?_,?_,by rw[Cf];exact hz,a1.trans ⟨rfl,rfl⟩,⟨[(m:Int),(f:Int)],Ai,fun h=>absurd h Aa,?_⟩,fun h=>absurd h Aa,⟨[(m:Int),(f:Int)],Ai,Ai,?_,fun _=>by rw[R];simp⟩⟩,k.cg⟩
     . rw[OT,QB (h.pl.fi.fl n).1 K hi,qB b hb]
     . rw[R];exact⟨fun _=>A8 K,fun _=>Aa⟩
     . rw[Bj] at l
       exact l.add (Cz _ (CO)) rfl
     . rw[Bj] at l
       exact l.add (Cz _ (CO)) rfl
   . exact absurd rfl h
def XS(h:Fmd w P d p X S N O kk F bf)(k:1<=n)(j:n<48)(y:CE N n≠0)(hi:i<138)(B:Ch (N.getD n []) (F n) i=0)(hq:PutS X Q)(hQ:Q.length<=34)(hB:Base Q S kk n (num (N.getD n []) 13))(R:62*(kk:Int)-42<(Dz O (64*kk):Int)+(QO (num (N.getD n []) 13) i:Int)):
 AH Aq 103 #[Ax (H ⟨bf,0,U⟩),J Y n,J Y i] w fun e w'=>e=Av (AT #[J Y 0,J Y 13])/\∃ u I N' O',Fmd w' u d p I S N' O' kk F bf/\Onw X I/\Chg P u w w':=by
 have G:Jt i=(i:Int):=by unfold Jt;rw[AJ Aa]
 by_cases b:10<=i/\num (N.getD n []) 13=0
 . obtain⟨Z,t⟩:=b
   have e2:QO (num (N.getD n []) 13) i=2:=AG ⟨Z,t⟩;rw[e2] at R;by_cases s:(Dz O (64*kk):Int)<62*(kk:Int)-42
   . obtain⟨m,r,a1⟩:=VM h.pl.ok 0 s
     have hn:n<N.length:=(by rw[h.pl.tab.n.len];exact j);have hx:=h.pl.tab.n.get j;have Xc:=(Gq r.fx).1;have q:Dz (O.set m ((n:Int),(65535:Int))) (64*kk)=Dz O (64*kk)+1:=ME (by rw[h.pl.ok.len];exact r.lt) r.fr r.fx Aa _ r.lt;obtain⟨l,C⟩:=nm (N.set n ((N.getD n []).set 13 (m:Int)));obtain⟨A,T⟩:=nm (putI (Hb X O m (n,65535)) S N n ((N.getD n []).set 13 m));obtain⟨z,W⟩:=nm (O.set m ((n:Int),(65535:Int)));rw[<- W] at q
     refine(Ni (g:=Ga (l.getD n []) (F n) i) (M:=0) (E:=13) (v:=0) (R0:=fun f V=>∃ c,Chs w P V P d p X S N O kk F bf n i f c)
      (R1:=fun f V=>∃ c x,Chs w P V x d p A S l z kk F bf n i f c)
      (R2:=fun f V=>∃ c P2,Chs w P V P2 d p A S l z kk F bf n i f c) (R3:=fun _=>False)
      Aa (Chs.open h k j y hi) ?_ ?_ ?_ ?_ ?_ ?_).mono ?_
     . rintro f V ⟨c,b⟩;rw[<- B];exact(b.at hi)
     . rintro f V ⟨c,b⟩;rw[<- t];exact b.ch.cm
     . rintro f V ⟨c,b⟩
       obtain⟨m',a0,L,p2,K⟩:=b.addMap k j y t hq Aa hB.g s;obtain rfl:m'=m:=Aa;rw[<- T,<- C,<- W] at K;exact K.mono fun e w' ⟨he,u,D⟩=>⟨he,c,u,D⟩
     . rintro _ f V ⟨c,x,b⟩;exact b.goal j hi
     . rintro _ f V ⟨c,x,b⟩
       have:=b.full k j (Ga (l.getD n []) (F n) i) (a:=i) Aa (by rw[q];push_cast;omega);rw[G] at this;exact this.mono fun e w' ⟨he,o⟩=>⟨he,c,x,b.low o⟩
     . intro _ h;cases h
     . rintro e w' (⟨h,_⟩| ⟨_,_,_,h⟩| ⟨_,_,he,f,c,P2,b⟩)
       . exact absurd rfl h
       . exact h.elim
       . exact⟨he,P2,A,l,z,b.md,by rw[T];exact⟨rfl,rfl⟩,b.cg⟩
   . refine(Ni (g:=0) (M:=13) (E:=13) (v:=0) (R0:=fun f V=>∃ c,Chs w P V P d p X S N O kk F bf n i f c)
      (R1:=fun f V=>∃ c,Chs w P V P d p X S N O kk F bf n i f c)
      (R2:=fun f V=>False) (R3:=fun _=>False)
      Aa (Chs.open h k j y hi) ?_ ?_ ?_ ?_ ?_ ?_).mono ?_
     . rintro f V ⟨c,b⟩;rw[<- B];exact(b.at hi)
     . rintro f V ⟨c,b⟩;rw[<- t];exact b.ch.cm
     . rintro f V ⟨c,b⟩
       have:=b.full k j 0 (a:=138) Aa Aa;rw[show Jt 138=65535 from rfl] at this;exact(Q5 this).mono fun e w' ⟨he,o⟩=>⟨he,c,b.low o⟩
     . intro h;cases h
     . intro h;cases h
     . intro h;cases h
     . rintro e w' (⟨_,he,f,c,b⟩| ⟨h,_⟩| ⟨h,_⟩)
       . exact⟨he,P,X,N,O,b.md,Onw.refl X,b.cg⟩
       . cases h
       . cases h
 . have e1:QO (num (N.getD n []) 13) i=1:=AJ b
   rw[e1] at R
   refine(Qh (mp:=num (N.getD n []) 13) (g:=Ga (N.getD n []) (F n) i) (E:=13) (v:=0) (R0:=fun f V=>∃ c,Chs w P V P d p X S N O kk F bf n i f c)
    (R2:=fun f V=>∃ c,Chs w P V P d p X S N O kk F bf n i f c) (R3:=fun _=>False)
    (fun e=>b ⟨Aa,e.2⟩) (Chs.open h k j y hi) ?_ ?_ ?_ ?_ ?_).mono ?_
   . rintro f V ⟨c,b⟩;rw[<- B];exact(b.at hi)
   . rintro f V ⟨c,b⟩;exact b.ch.cm
   . rintro f V ⟨c,b⟩;exact b.goal j hi
   . rintro f V ⟨c,b⟩
     have:=b.full k j (Ga (N.getD n []) (F n) i) (a:=i) Aa Aa;rw[G] at this;exact this.mono fun e w' ⟨he,o⟩=>⟨he,c,b.low o⟩
   . intro h;cases h
   . rintro e w' (⟨h,_⟩| ⟨_,he,f,c,b⟩)
     . cases h
     . exact⟨he,P,X,N,O,b.md,Onw.refl X,b.cg⟩
def cT(h:Fmd w P d p X S N O kk F bf)(g:1<=n)(c:n<48)(l:CE N n≠0)(hi:i<138)(f:Ch (N.getD n []) (F n) i=0)(m:PutS X Q)(k:Q.length<=34)(j:Base Q S kk n (num (N.getD n []) 13))(b:(Dz O (64*kk):Int)+(QO (num (N.getD n []) 13) i:Int)<=62*(kk:Int)-42):
 AH Aq 103 #[Ax (H ⟨bf,0,U⟩),J Y n,J Y i] w fun e w'=>∃ v s t q r o,e=Av (AT #[J Y v,J Y 0])/\Fmd w' s d p t S q r kk o bf/\MapR X S N O kk F n i Q v t q r o/\Chg P s w w':=by
 unfold QO at b;by_cases u:i<10
 . rw[AJ Aa] at b
   exact Zb h g c l u f m k j Aa
 . by_cases a:num (N.getD n []) 13=0
   . rw[AG ⟨Aa,a⟩] at b
     exact XO h g c l Aa hi f m k j Aa a
   . rw[AJ (fun e=>a e.2)] at b
     exact dm h g c l Aa hi f m k j Aa a
def ga(h:Fmd w P d p X S N O kk F bf)(j:1<=n)(f:n<48)(k:CE N n≠0)(hi:i<138)(g:Ch (N.getD n []) (F n) i≠0):
 AH Aq 103 #[Ax (H ⟨bf,0,U⟩),J Y n,J Y i] w fun e w'=>e=Av (AT #[J Y (Ch (N.getD n []) (F n) i),J Y 0])/\Fmd w' P d p X S N O kk F bf/\Chg P P w w':=by
 refine(br g (R0:=fun b V=>∃ c,Chs w P V P d p X S N O kk F bf n i b c) (Chs.open h j f k hi) ?_).mono ?_
 . rintro b V ⟨c,a⟩;exact a.at hi
 . rintro e w' ⟨he,b,c,a⟩;exact⟨he,a.md,a.cg⟩
end
section
variable {w:I}{P:Nat->Prop}{d p:AA}{X:XSt}{S:Ab}{N:Ae}{O:Ag}{kk:Nat}{F:Nat->Ab}{bf n:Nat}{Q:Ab}
def Ew(N:Ae)(n:Nat):CE N n=num (N.getD n []) 0:=rfl
end
section
variable {w:I}{P:Nat->Prop}{d p:AA}{X:XSt}{S:Ab}{N:Ae}{O:Ag}{kk:Nat}{F:Nat->Ab}{bf:Nat}
structure Frd (w:I) (P:Nat->Prop) (d p:AA) (X:XSt) (S:Ab) (N:Ae) (O:Ag) (kk:Nat) (F:Nat->Ab) (bf:Nat):Prop where
 inv:SInv w P d p X
 fs:FsAt w bf p
 tab:Tab X.cur S N
 fi:Fils EZ X.cur S N O kk F
 k12:kk<=12
 len:X.cur.length=64*kk
def Frd.low(h:Frd w P d p X S N O kk F bf){w':I}(hb:AB w.heap.size w w'):Frd w' P d p X S N O kk F bf:={ h with inv:=h.inv.low hb,fs:=h.fs.low hb }
def n_(h:Frd w P d p X S N O kk F bf){n i:Nat}(o:1<=n)(j:n<48)(g:CE N n≠0)(hi:i<138):
 AH Aq 175 #[Ax (H ⟨bf,0,U⟩),J Y n,J Y i] w fun e w'=>e=Av (AT #[J Y (Ch (N.getD n []) (F n) i),J Y 0])/\AB w.heap.size w w':=by
 have l:=wN (Mv h.inv h.fs h.tab h.fi h.k12 h.len o j g hi (AP _ _));have k:Hid (∀ (V:I) (a:Nat) (b:AA),ChAt V a bf n (N.getD n []) b->(10<=i->∃ m,FarA V w.heap.size a P b (F n) m)->AH Aq 140 #[Ax (H ⟨a,0,U⟩),J Y i] V fun e w'=>e=Av (J Y (Ch (N.getD n []) (F n) i))/\V=w'):=wN fun V a b f q=>SQ f q hi
 clear h g;go_enter func175,ntmps175
 go_wp2_with (first|(go_at_call 139;refine l.out.mono ?_;rintro e t ⟨a,b,rfl,s,f,r,c⟩)|(go_at_call 140;refine Ad (k.out _ _ _ f r) ?_;rintro w' rfl))
 go_ret2;exact⟨rfl,c⟩
end
end
section
open Go.RowKit Go.ChangeShapes Go.WideShapes
structure O12 where
 k:Int
 b:Int
 l:Int
 g:Int
 n:Int
 i:Int
 a:Int
instance:Inhabited O12:=⟨⟨0,0,0,0,0,0,0⟩⟩
end
section
open Go.RowKit
def wu(G a:Ae):Prop:=a=G\/∃ g D,g<12/\a=putG G g D
structure Both (O O2:Ag) (kk:Nat) (F Fr:FuncId) (xs:List AA) (e:Ending):Prop where
 land:∀ {w0 w P M d p r X n},Mid w0 w P M d p r (Sf X) n O O kk->RSp w M r n O->AH Aq F (p :: xs).toArray w fun e' w'=>e'=e/\∃ P' X',Mid w0 w' P' M d p r X' n O O2 kk/\RSp w' M r n O/\Chg (PM P M) (PM P' M) w w'/\wu X.is X'.call/\X'.is=X.is
 refe:∀ {w0 w P M d p r X n},Mid w0 w P M d p r X n O O2 kk->RSp w M r n O->AH Aq Fr (r :: xs).toArray w fun e' w'=>e'=e/\Mid w0 w' P M d p r X n O O2 kk/\RSp w' M r n O2/\Chg (PM P M) (PM P M) w w'
structure Tsd (w0 w:I) (P:Nat->Prop) (d p:AA) (X:XSt) (S:Ab) (N:Ae) (O:Ag) (kk bf:Nat):Prop where
 inv:SInv w P d p X
 wi:X.wi=AN
 fu:X.ds.fu=AN
 has:Has X.is O kk
 ok:OOk O kk
 tab:Tab X.is S N
 fs:FsAt w bf p
 nb:¬ P bf
 bN:w0.heap.size<=bf
 pN:∀ x,P x->w0.heap.size<=x
 be:AB w0.heap.size w0 w
def jm(bs:Nat)(w:I):AH Aq 14 #[Ax (H ⟨bs,0,U⟩)] w fun e w'=>e=Av (Ax (H ⟨w.heap.size,0,U⟩))/\FsAt w' w.heap.size (Ax (H ⟨bs,0,U⟩))/\AB w.heap.size w w':=by
 have a:=AF w (Ay #[Ax (H ⟨bs,0,U⟩)] 66);have b:=AC w (Ay #[Ax (H ⟨bs,0,U⟩)] 66);go_enter func14,ntmps14;go_wp2;go_ret;exact⟨rfl,b,a⟩
def oC{kk:Nat}(l:1<=kk)(m:kk<=12)(h:I):∀ {w:I},AB h.heap.size h w->AH Aq 15 #[J Y (64*(kk:Int)),J Y (64*(kk:Int))] w fun e w'=>∃ b,e=Av (Ax (H ⟨b,0,U⟩))/\AB h.heap.size h w'/\
 AH Aq 14 #[Ax (H ⟨b,0,U⟩)] w' fun e c=>∃ j P d X,e=Av (Ax (H ⟨j,0,U⟩))/\Tsd h c P d (Ax (H ⟨b,0,U⟩)) X (Ed kk) newN (Gv kk) kk j/\j<c.heap.size:=fun {w} i=>by
 refine(Zt l m w).mono fun e w' ⟨b,P,d,G,z,he,n,o,p,r,q,a⟩=>⟨b,he,i.trans (a.mono i.size),?_⟩
 refine(jm b w').mono fun e c ⟨v,g,f⟩=>?_
 have t:=i.size;have y:=a.size;have k:=n.lt;refine⟨w'.heap.size,P,d,_,v,⟨n.low f,rfl,o,p,Z7 l m,r,g,fun s=>by have:=k _ s;omega,Aa,fun x u=>by have:=q x u;omega,?_⟩,(Au.1 g).1⟩;exact(i.trans (a.mono t)).trans (f.mono Aa)
end
section
open Go.RowKit BM
structure Fsd (w0 w:I) (P:Nat->Prop) (d p:AA) (X:XSt) (S:Ab) (N:Ae) (O:Ag) (kk:Nat) (F:Nat->Ab) (bf:Nat):Prop where
 inv:SInv w P d p X
 wi:X.wi=AN
 fu:X.ds.fu=AN
 pl:Pl EZ X.is S N O kk F
 st:Stil S kk
 fs:FsAt w bf p
 nb:¬ P bf
 bN:w0.heap.size<=bf
 pN:∀ x,P x->w0.heap.size<=x
 be:AB w0.heap.size w0 w
structure Fsm (w0 w:I) (P:Nat->Prop) (d p:AA) (X:XSt) (S:Ab) (N:Ae) (O:Ag) (kk:Nat) (F:Nat->Ab) (bf:Nat):Prop where
 inv:SInv w P d p X
 wi:X.wi=AQ
 fu:X.ds.fu=AN
 pl:Pl EZ X.is S N O kk F
 st:Stil S kk
 fs:FsAt w bf p
 nb:¬ P bf
 bN:w0.heap.size<=bf
 pN:∀ x,P x->w0.heap.size<=x
 sz:w0.heap.size<=w.heap.size
 be:AB w0.heap.size w0 w
section
variable {w0 w:I}{P:Nat->Prop}{d p:AA}{X:XSt}{S:Ab}{N:Ae}{O:Ag}{kk:Nat}{F:Nat->Ab}{bf:Nat}
def Fsd.low(h:Fsd w0 w P d p X S N O kk F bf){w':I}(hb:AB w.heap.size w w'):Fsd w0 w' P d p X S N O kk F bf:=
 { h with inv:=h.inv.low hb,fs:=h.fs.low hb,be:=h.be.trans (hb.mono h.be.size) }
def Fsd.far(h:Fsd w0 w P d p X S N O kk F bf){M c:Nat->Prop}{w':I}(a:Chg M c w w')(f:∀ x,M x->w0.heap.size<=x)(g:∀ x,P x->¬ M x)(hf:¬ M bf):Fsd w0 w' P d p X S N O kk F bf:=
 { h with inv:=h.inv.keep a.size fun x b=>(a.keep x (h.inv.lt x b) (g x b)).1,fs:=((a.keep bf (Au.1 h.fs).1 hf).1).trans h.fs,
          be:=h.be.trans (a.below fun x b=>⟨AL b h.be.size,fun i=>by have:=f x i;omega⟩) }
def Fsm.far(h:Fsm w0 w P d p X S N O kk F bf){M c:Nat->Prop}{w':I}(a:Chg M c w w')(f:∀ x,M x->w0.heap.size<=x)(g:∀ x,P x->¬ M x)(hf:¬ M bf):Fsm w0 w' P d p X S N O kk F bf:=
 { h with inv:=h.inv.keep a.size fun x b=>(a.keep x (h.inv.lt x b) (g x b)).1,fs:=((a.keep bf (Au.1 h.fs).1 hf).1).trans h.fs,sz:=AU h.sz a.size,
          be:=h.be.trans (a.below fun x b=>⟨AL b h.sz,fun i=>by have:=f x i;omega⟩) }
def Fmd.farM(h:Fmd w P d p X S N O kk F bf){M c:Nat->Prop}{w':I}(a:Chg M c w w')(f:∀ x,P x->¬ M x)(hf:¬ M bf):Fmd w' P d p X S N O kk F bf:=
 { h with inv:=h.inv.keep a.size fun x b=>(a.keep x (h.inv.lt x b) (f x b)).1,fs:=((a.keep bf (Au.1 h.fs).1 hf).1).trans h.fs }
def Fsd.begin(h:Fsd w0 w P d p X S N O kk F bf):AH Aq 22 #[p] w fun e w'=>e=Av (J Y 0)/\∃ a,Fsm w0 w' a d p (Sf X) S N O kk F bf/\Fmd w' a d p (Sf X) S N O kk F bf/\Chg P a w w':=by
 refine(landed.begin h.inv).mono fun e w' ⟨he,a,c,b⟩=>?_
 have j:Qg X=(0,Sf X):=by unfold Qg;rw[AJ (by rw[h.wi];decide)];rfl
 rw[j] at he c;obtain⟨g,i⟩:=h.fs.chg b h.nb;obtain⟨f,k⟩:=MA h.be h.pN b;exact⟨he,a,⟨c,rfl,h.fu,h.pl,h.st,g,i,h.bN,k,f.size,f⟩,⟨c,rfl,h.pl,h.st,g,i⟩,b⟩
def Fsm.next(h:Fsm w0 w P d p X S N O kk F bf){w':I}{b:Nat->Prop}{a:XSt}(hi:SInv w' b d p a)(l:a.wi=AQ)(g:Onw X a)(f:Chg P b w w'):Fsm w0 w' b d p a S N O kk F bf:=by
 obtain⟨i,j⟩:=h.fs.chg f h.nb;obtain⟨c,k⟩:=MA h.be h.pN f;exact⟨hi,l,by rw[g.2];exact h.fu,by rw[g.1];exact h.pl,h.st,i,j,h.bN,k,c.size,c⟩
def Fsm.keep(h:Fsm w0 w P d p X S N O kk F bf){i:Ae}{j:Ag}{g:Nat->Ab}(o:Fmd w P d p X S i j kk g bf):
 AH Aq 25 #[p,AY AQ] w fun e w'=>e=Av (J Y 0)/\∃ a k,Fsd w0 w' a d p k S i j kk g bf/\k.is=X.call/\Chg P a w w':=by
 refine(landed.endKeep h.inv h.wi).mono fun e w' he=>?_
 rcases he with⟨B,s,c,_,l,he,a,n,f⟩| ⟨b,_⟩
 . obtain⟨b,q⟩:=h.fs.chg f h.nb
   obtain⟨m,r⟩:=MA h.be h.pN f;exact⟨he,a,_,⟨n,rfl,by show c.fu=AN;rw[l];exact h.fu,o.pl,h.st,b,q,h.bN,r,m⟩,rfl,f⟩
 . rw[h.fu] at b;cases b
def Fsm.undo(h:Fsm w0 w P d p X S N O kk F bf):AH Aq 25 #[p,AY AN] w fun e w'=>e=Av (J Y 0)/\∃ a c,Fsd w0 w' a d p c S N O kk F bf/\c.is=X.is/\Chg P a w w':=by
 refine(landed.endUndo h.inv h.wi).mono fun e w' ⟨he,a,i,b⟩=>?_
 obtain⟨g,j⟩:=h.fs.chg b h.nb;obtain⟨f,k⟩:=MA h.be h.pN b;exact⟨he,a,_,⟨i,rfl,h.fu,h.pl,h.st,g,j,h.bN,k,f⟩,rfl,b⟩
def Fsd.rd(h:Fsd w0 w P d p X S N O kk F bf):Frd w P d p X S N O kk F bf:=by
 have a:X.cur=X.is:=by unfold XSt.cur;rw[h.wi];rfl
 exact⟨h.inv,h.fs,by rw[a];exact h.pl.tab,by rw[a];exact h.pl.fi,h.pl.ok.k12,by rw[a];exact h.pl.has.len⟩
end
def rH:Nat->Ae
 |0=>newN
 |c+1=>(rH c).set (2+c) (MP 1)
def sW:Nat->Ab:=fun _=>AI 128 0
def ZU:∀ c,(rH c).length=48
 |0=>rfl
 |c+1=>by rw[rH,AR];exact ZU c
def Ti:∀ c m,c<=4->(rH c).getD m []=if 2<=m/\m<2+c then MP 1 else newN.getD m []
 |0,m,_=>by rw[AJ Aa];rfl
 |c+1,m,h=>by
  rw[rH,Eb (by rw[ZU];omega),Ti c m Aa];by_cases e:m=2+c
  . rw[AG e,AG Aa]
  . rw[AJ e]
    by_cases a:2<=m/\m<2+c
    . rw[AG a,AG Aa]
    . rw[AJ a,AJ Aa]
def fS:∀ m,m<48->(newN.getD m []).getD 0 0=if m=1 then 2 else 0:=Af
def JV:∀ m,m<48->∀ j,j<11->(newN.getD m []).getD (3+j) 0=0:=Af
def Pw{c m:Nat}(a:c<=4)(b:m<48):CE (rH c) m=if m=1 then 2 else if 2<=m/\m<2+c then 1 else 0:=by
 unfold CE;rw[Ti c m a];by_cases h:2<=m/\m<2+c
 . rw[AG h,AJ Aa,AG h];rfl
 . rw[AJ h,fS m b,AJ h]
def kF{kk:Nat}(k:1<=kk)(G:Ae):Fils EZ G (Ed kk) newN (Gv kk) kk sW:=by
 have g:∀ n i,n<48->i<139->Ch (newN.getD n []) (sW n) i=0:=fun n i a c=>by
  unfold Ch num;split
  . next h=>exact JV n a i Aa
  . split
    . exact JV n a 10 Af
    . show(AI 128 (0:Int)).getD (i-10) 0=0
      rw[Az,CA];split <;> rfl
 refine⟨fun n=>⟨rfl,(by decide:FN (AI 128 0)=AQ)⟩,fun _ _ _ _=>rfl,fun n _ a f=>absurd (JV n a 10 Af) f,fun n i _ a c _ d=>absurd (g n i a c) d,fun t l=>?_⟩;have e:C5 (Ed kk) t=43+t:=by
  have b:t=0\/t=1\/t=2\/t=3\/t=4\/t=5:=Aa;rcases b with rfl|rfl|rfl|rfl|rfl|rfl <;> rfl
 rw[e];unfold Gv;rw[FW _ _ _ Aa];unfold F8;rw[AJ (by rw[(MQ (j:=43+t)).2 Aa Aa];decide),AG Aa];exact Prod.ext rfl (by simp only;omega)
def gR{kk:Nat}(c:1<=kk)(d:kk<=12):Stil (Ed kk) kk:=by
 refine⟨fun i=>?_,rfl,?_⟩
 . by_cases f:i<12
   . have a:i=0\/i=1\/i=2\/i=3\/i=4\/i=5\/i=6\/i=7\/i=8\/i=9\/i=10\/i=11:=by omega
     have b:num (Ed kk) 0=64*(kk:Int):=rfl;rcases a with rfl|rfl|rfl|rfl|rfl|rfl|rfl|rfl|rfl|rfl|rfl|rfl
     . rw[b];omega
     all_goals first
      |exact(by decide:(0:Int)<=9223372036854775807)
      |exact(by decide:(43:Int)<=9223372036854775807)
      |exact(by decide:(44:Int)<=9223372036854775807)
      |exact(by decide:(45:Int)<=9223372036854775807)
      |exact(by decide:(46:Int)<=9223372036854775807)
      |exact(by decide:(47:Int)<=9223372036854775807)
      |exact(by decide:(48:Int)<=9223372036854775807)
   . unfold num
     rw[Az,Bf (by show 12<=i;omega)];decide
 . unfold V7
   rw[AG (O9 c d),AJ (by show ¬ (0:Int)=2;decide)];rfl
def eW(k:Int){i:Nat}(hi:i<139):Ch (MP k) (AI 128 0) i=0:=by
 unfold Ch num;split
 . next a=>
   have:∀ j,j<10->(MP k).getD (3+j) 0=0:=fun j c=>by
    have b:j=0\/j=1\/j=2\/j=3\/j=4\/j=5\/j=6\/j=7\/j=8\/j=9:=Aa;rcases b with rfl|rfl|rfl|rfl|rfl|rfl|rfl|rfl|rfl|rfl <;> rfl
   exact this i a
 . split
   . rfl
   . rw[Az,CA];split <;> rfl
def nZ{c m:Nat}(b:c<=4)(a:m<48){i:Nat}(hi:i<139):Ch ((rH c).getD m []) (sW m) i=0:=by
 rw[Ti c m b];split
 . exact eW 1 hi
 . unfold Ch num
   split
   . next d=>exact JV m a i Aa
   . split
     . exact JV m a 10 Af
     . show(AI 128 (0:Int)).getD (i-10) 0=0
       rw[Az,CA];split <;> rfl
def WJ(S:Ab)(kk n:Nat)(mp:Int):Ab:=(BE kk).flatMap (fun g=>[(Cp g:Int),(Cp g:Int)+1]) ++ [((C5 S (n / 8):Nat):Int),mp]
def bP(S:Ab)(kk n:Nat)(mp:Int):(WJ S kk n mp).length=2*kk+2:=by
 unfold WJ;rw[AO];have:∀ l:List Nat,(l.flatMap fun g=>[(Cp g:Int),(Cp g:Int)+1]).length=2*l.length:=fun l=>by
  induction l with
  |nil=>rfl
  |cons a l ih=>rw[CL,AO,ih];simp;omega
 rw[this,List.length_range];rfl
def Pz(S:Ab)(kk n:Nat)(mp:Int):Base (WJ S kk n mp) S kk n mp:=by
 refine⟨fun g c=>?_,Cz _ Ai,fun _=>Cz _ Ai⟩;have:∀ a∈[(Cp g:Int),(Cp g:Int)+1],a∈WJ S kk n mp:=fun a b=>BA _ (List.mem_flatMap.2 ⟨g,Bq.2 c,b⟩)
 exact⟨this _ Ai,this _ Ai⟩
def kV(X:XSt)(Q:Ab):PutS (Sf X) Q:=⟨List.nodup_nil,fun a b=>absurd b Bu⟩
section
variable {w:I}{P:Nat->Prop}{d p:AA}{X:XSt}{G:Ae}{S:Ab}{N:Ae}{O:Ag}{kk:Nat}{F:Nat->Ab}{bf:Nat}{Q:Ab}
def Pl.data(h:Pl EZ G S N O kk F){v:Nat}{n i:Nat}(u:1<=n)(s:n<48)(hi:i<138)(d:OwAt O kk v ((n:Int),(i:Int)))(l:Ab):Pl EZ (G.set v l) S N O kk F:=by
 have c:=Gq d.2.1;refine⟨h.has.other h.ok.k12 (A8 (A8 d.2.1)) _,h.ok,h.tab.same (by rw[AR]) fun a o=>BQ _ _ _ ?_,h.fi.data (fun m r f p e=>?_) _⟩
 . rcases o with rfl|rfl| ⟨t,q,rfl⟩
   . exact C0 c.1
   . exact C0 c.2
   . intro e
     have k:=h.fi.tb t q;have g:=d.2.2;rw[Cf,<- e,k] at g;have:=(D4 g).1;omega
 . have b:=h.fi.map r f id p
   refine b.ne d (fun j=>?_) (by have:=b.1;omega);have:=(D4 j).2;omega
def Fmd.data(h:Fmd w P d p X S N O kk F bf){v:Nat}{n i:Nat}(r:1<=n)(o:n<48)(hi:i<138)(g:OwAt O kk v ((n:Int),(i:Int))){l:Ab}(s:l.length=256){u:AA}(hu:BSl w u l)(hp:X.put.length<37):
 AH Aq 50 #[p,J Y v,u] w fun e w'=>e=Av (J Y 0)/\∃ a,Fmd w' a d p (Rf X v l) S N O kk F bf/\Chg P a w w':=by
 have t:=g.1;have b:=h.pl.ok.k12;have k:=g.outJ b;rw[Cf] at k;refine(Yz h.inv h.wi hp (m:=v) (by rw[h.isl];omega) Aa k s hu).mono ?_;rintro e w' ⟨he,a,f,j⟩;obtain⟨c,q⟩:=h.fs.chg j h.nb;exact⟨he,a,⟨f,h.wi,h.pl.data r o hi g l,h.st,c,q⟩,j⟩
def IZ{n i:Nat}(hi:i<138){v:Int}(a:OwAt O kk v ((n:Int),Jt i)):OwAt O kk (v.toNat:Nat) ((n:Int),(i:Int)):=by
 have b:=a.1;have e:((v.toNat:Nat):Int)=v:=Aa;rw[e];have:Jt i=(i:Int):=by unfold Jt;rw[AJ Aa]
 rwa [<- this]
end
structure Fat (G N:Ae) (F:Nat->Ab) (n sz:Nat) (M:Nat->Option Ab):Prop where
 kd:CE N n=1\/CE N n=2\/CE N n=3
 zs:num (N.getD n []) 2=(sz:Int)
 sb:sz<=35328
 dt:∀ i,i<138->M i=if Ch (N.getD n []) (F n) i=0 then U else H (G.getD (Ch (N.getD n []) (F n) i).toNat [])
 hi:∀ i,138<=i->M i=U
 mp:num (N.getD n []) 13≠0 ↔ ∃ b,10<=b/\b<138/\Ch (N.getD n []) (F n) b≠0
 ok:OkB M
section
variable {G G':Ae}{S:Ab}{N N':Ae}{O O':Ag}{kk:Nat}{F F':Nat->Ab}{n sz:Nat}{M:Nat->Option Ab}{X X':XSt}{Q:Ab}
def Fat.k0(h:Fat G N F n sz M):CE N n≠0:=by rcases h.kd with e|e|e <;> rw[e] <;> decide
def Fat.none(h:Fat G N F n sz M){i:Nat}(hi:i<138)(a:Ch (N.getD n []) (F n) i=0):M i=.none:=by rw[h.dt i hi,AG a]
def Fat.some(h:Fat G N F n sz M){i:Nat}(hi:i<138)(a:Ch (N.getD n []) (F n) i≠0):M i=.some (G.getD (Ch (N.getD n []) (F n) i).toNat []):=by rw[h.dt i hi,AJ a]
def Fat.iff(h:Fat G N F n sz M){i:Nat}(hi:i<138):(M i).isSome=AQ ↔ Ch (N.getD n []) (F n) i≠0:=by
 by_cases a:Ch (N.getD n []) (F n) i=0
 . rw[h.none hi a];exact⟨fun e=>absurd e Af,fun e=>absurd a e⟩
 . rw[h.some hi a];exact⟨fun _=>a,fun _=>rfl⟩
def Fat.used(h:Fat G N F n sz M):Lq (N.getD n []) (F n)=Eu M:=by
 unfold Lq Eu;rw[FO,Hc (f:=Ch (N.getD n []) (F n)) (g:=Gx M) 138 fun i k=>by rw[keyB_ne,h.iff k],jS];congr 1;by_cases c:∃ b:Nat,10<=b/\b<138/\(M b).isSome=AQ
 . rw[Hv 138 c]
   obtain⟨b,d,a,j⟩:=c;rw[AG (h.mp.2 ⟨b,d,a,(h.iff a).1 j⟩)]
 . rw[GD 138 c,AJ fun e=>?_]
   obtain⟨b,d,a,j⟩:=h.mp.1 e;exact c ⟨b,d,a,(h.iff a).2 j⟩
def NH(hp:Pl EZ G S N O kk F)(c:Pl EZ G' S N' O' kk F')(hd:DataK O O' G G')(g:1<=n)(d:n<48){i:Nat}(hi:i<138)(e:Ch (N'.getD n []) (F' n) i=Ch (N.getD n []) (F n) i)(f:Ch (N.getD n []) (F n) i≠0):
 G'.getD (Ch (N.getD n []) (F n) i).toNat []=G.getD (Ch (N.getD n []) (F n) i).toNat []:=by
 have a:=(IZ hi (hp.fi.ow n i g d Aa id f)).2.2;have b:=(IZ hi (c.fi.ow n i g d Aa id (by rw[e];exact f))).2.2;rw[e] at b;rw[Cf] at a b;exact hd _ (by rw[b];simp only;omega) (by rw[b];simp only;omega) (by rw[b];simp only;omega) (by rw[a,b])
def Fat.other(h:Fat G N F n sz M)(hp:Pl EZ G S N O kk F)(f:Pl EZ G' S N' O' kk F')(hd:DataK O O' G G')(j:1<=n)(g:n<48)(a:N'.getD n []=N.getD n [])(c:F' n=F n):Fat G' N' F' n sz M:=by
 refine⟨by rw[Ew,a,<- Ew];exact h.kd,by rw[a];exact h.zs,h.sb,fun i d=>?_,h.hi,by rw[a,c];exact h.mp,h.ok⟩;rw[a,c];by_cases b:Ch (N.getD n []) (F n) i=0
 . rw[AG b];exact h.none d b
 . rw[AJ b,NH hp f hd j g d (by rw[a,c]) b];exact h.some d b
structure Fst (S:Ab) (kk:Nat) (X:XSt) (N:Ae) (O:Ag) (F:Nat->Ab) (n:Nat) (X':XSt) (N':Ae) (O':Ag) (F':Nat->Ab):Prop where
 ot:∀ m sz M,m≠n->1<=m->m<48->Fat X.call N F m sz M->Fat X'.call N' F' m sz M
 on:Onw X X'
 cn:Dz O' (64*kk)+Lq (N.getD n []) (F n)=Dz O (64*kk)+Lq (N'.getD n []) (F' n)
 kd:CE N' n=CE N n
 oth:∀ m,m≠n->N'.getD m []=N.getD m []
def Fst.refl(S:Ab)(kk:Nat)(X:XSt)(N:Ae)(O:Ag)(F:Nat->Ab)(n:Nat):Fst S kk X N O F n X N O F:=⟨fun _ _ _ _ _ _ h=>h,Onw.refl X,rfl,rfl,fun _ _=>rfl⟩
def Fst.trans{X1 p:XSt}{i j:Ae}{l o:Ag}{f g:Nat->Ab}(h:Fst S kk X N O F n X1 i l f)(k:Fst S kk X1 i l f n p j o g):Fst S kk X N O F n p j o g:=
 ⟨fun m sz M a b c d=>k.ot m sz M a b c (h.ot m sz M a b c d),h.on.trans k.on,by have:=h.cn;have:=k.cn;omega,k.kd.trans h.kd,fun m q=>(k.oth m q).trans (h.oth m q)⟩
def Stp.fst(h:Stp S kk X.call N O F n X'.call N' O' F')(hp:Pl EZ X.call S N O kk F)(g:Onw X X'):Fst S kk X N O F n X' N' O' F':=
 ⟨fun m sz M a b c d=>d.other hp h.pl h.dat b c (h.oth m a).1 (h.oth m a).2,g,h.cnt,by rw[Ew,h.hd 0 Af,<- Ew],fun m f=>(h.oth m f).1⟩
def Fat.map(h:Fat X.call N F n sz M)(hp:Pl EZ X.call S N O kk F){i:Nat}{v:Int}(a:MapR X S N O kk F n i Q v X' N' O' F')(l:1<=n)(k:n<48)(hi:i<138):Fat X'.call N' F' n sz (EQ M i z256):=by
 have m:=a.v0;refine⟨by rw[Ew,a.st.hd 0 Af,<- Ew];exact h.kd,by rw[a.st.hd 2 Af];exact h.zs,h.sb,fun b c=>?_,fun b c=>by rw[Ej _ Aa];exact h.hi b c,?_,h.ok.upd _ Qo QI⟩
 . rw[a.loc b c]
   by_cases e:b=i
   . subst e
     rw[AG rfl,AJ Aa,Fj,a.zer]
   . rw[AJ e,Ej _ e]
     by_cases g:Ch (N.getD n []) (F n) b=0
     . rw[AG g];exact h.none c g
     . rw[AJ g,NH hp a.st.pl a.st.dat l k c (by rw[a.loc b c,AJ e]) g];exact h.some c g
 . rw[a.mp,h.mp]
   constructor
   . rintro(⟨b,j,d,f⟩|e)
     . refine⟨b,j,d,?_⟩
       rw[a.loc b d];split
       . omega
       . exact f
     . exact⟨i,e,hi,by rw[a.loc i hi,AG rfl];omega⟩
   . rintro⟨b,j,d,f⟩
     rw[a.loc b d] at f;by_cases e:b=i
     . exact A8 Aa
     . rw[AJ e] at f
       exact A4 ⟨b,j,d,f⟩
def Fat.put(h:Fat G N F n sz M)(hp:Pl EZ G S N O kk F)(k:1<=n)(j:n<48){i:Nat}(hi:i<138){v:Nat}(hv:Ch (N.getD n []) (F n) i=(v:Int))(q:v≠0){l:Ab}(o:l.length=256)(hb:Fv l):Fat (G.set v l) N F n sz (EQ M i l):=by
 have f:=IZ hi (hp.fi.ow n i k j Aa id (by rw[hv];omega));rw[hv,Cf] at f;have d:v<G.length:=by rw[hp.has.len];have:=f.1;omega
 refine⟨h.kd,h.zs,h.sb,fun b a=>?_,fun b a=>by rw[Ej _ Aa];exact h.hi b a,h.mp,h.ok.upd _ o hb⟩;by_cases e:b=i
 . subst e
   rw[hv,AJ Aa,Fj,Cf,getD_set _ _ _ _ _ d,AG rfl]
 . rw[Ej _ e]
   by_cases c:Ch (N.getD n []) (F n) b=0
   . rw[AG c];exact h.none a c
   . have g:=IZ a (hp.fi.ow n b k j Aa id c)
     have p:=g.ne f (fun m=>e (by have:=(D4 m).2;omega));rw[AJ c,BQ _ _ _ Aa];exact h.some a c
def Fat.putOther(h:Fat G N F n sz M)(hp:Pl EZ G S N O kk F)(j:1<=n)(f:n<48){m i:Nat}(k:m≠n){v:Nat}(p:OwAt O kk v ((m:Int),(i:Int)))(l:Ab):Fat (G.set v l) N F n sz M:=by
 refine⟨h.kd,h.zs,h.sb,fun b a=>?_,h.hi,h.mp,h.ok⟩;by_cases c:Ch (N.getD n []) (F n) b=0
 . rw[AG c];exact h.none a c
 . have d:=IZ a (hp.fi.ow n b j f Aa id c)
   have o:=d.ne p (fun g=>k (by have:=(D4 g).1;omega));rw[AJ c,BQ _ _ _ Aa];exact h.some a c
def jT{x F:Ab}(c:x.length=14)(v:Int){i:Nat}:Ch (x.set 2 v) F i=Ch x F i:=by
 have e:∀ b,b≠2->num (x.set 2 v) b=num x b:=fun b a=>by rw[Dg Aa,AJ a]
 unfold Ch;rw[e (3+i) Aa,e 13 Af]
def cH{x:Ab}(j:x.length=14)(d:Ee x=AQ)(c:num x 0=1\/num x 0=2\/num x 0=3){v:Nat}(hv:v<=35328)(g:num x 0=3->v<=200):Ee (x.set 2 (v:Int))=AQ:=by
 have f:∀ b,b≠2->(x.set 2 (v:Int)).getD b 0=x.getD b 0:=fun b i=>by
  have:=Dg (x:=x) (a:=2) Aa (v:Int) b;unfold num at this;rw[this,AJ i]
 have h:(x.set 2 (v:Int)).getD 2 0=(v:Int):=by
  have:=Dg (x:=x) (a:=2) Aa (v:Int) 2;unfold num at this;rw[this,AG rfl]
 unfold num at c g;unfold Ee at d |-
 rw[AJ (by rcases c with e|e|e <;> rw[e] <;> decide)] at d;rw[f 0 Af,f 1 Af,h,f 13 Af,AJ (by rcases c with e|e|e <;> rw[e] <;> decide)];have e:(x.set 2 (v:Int)).drop 3=x.drop 3:=by rw[List.drop_set_of_lt Af]
 rw[e];unfold Md at d |-
 simp only[A0] at d |-
 refine⟨d.1,d.2.1,?_,d.2.2.2⟩;rcases c with c|c|c
 . rw[c]
   exact AK ⟨Aa,by show(v:Int)<=35328;omega⟩
 . rw[c]
   exact AK ⟨Aa,by show(v:Int)<=35328;omega⟩
 . have:=g c
   rw[c];exact AK ⟨Aa,by show(v:Int)<=200;omega⟩
def Fat.size(h:Fat X.call N F n sz M)(hp:Pl EZ X.call S N O kk F)(l:1<=n)(f:n<48){v:Nat}(hv:v<=35328)(C:CE N n=3->v<=200):
 Fat (OE X.call S N n ((N.getD n []).set 2 (v:Int))) (N.set n ((N.getD n []).set 2 (v:Int))) F n v M/\Pl EZ (OE X.call S N n ((N.getD n []).set 2 (v:Int))) S (N.set n ((N.getD n []).set 2 (v:Int))) O kk F/\
  Ee ((N.getD n []).set 2 (v:Int))=AQ/\∀ X',X'.call=OE X.call S N n ((N.getD n []).set 2 (v:Int))->Onw X X'->Fst S kk X N O F n X' (N.set n ((N.getD n []).set 2 (v:Int))) O F:=by
 have t:=hp.tab.n.get f;have B:=hp.tab.n.frm n f;have w:n<N.length:=by rw[hp.tab.n.len];exact f
 have z:=cH t B (by rw[<- Ew];exact h.kd) hv (by rw[<- Ew];exact C);have p:num ((N.getD n []).set 2 (v:Int)) 13=num (N.getD n []) 13:=by rw[Dg Aa,AJ Aa]
 have j:∀ i,Ch ((N.getD n []).set 2 (v:Int)) (F n) i=Ch (N.getD n []) (F n) i:=fun i=>jT t _
 obtain⟨u,A⟩:=hp.node l f (y:=(N.getD n []).set 2 (v:Int)) (by rw[AR];exact t) z (fun a b e=>e.elim)
  (by rw[p];exact hp.fi.m0 n l f) (by rw[p];exact hp.fi.m1 n l f) (fun i o x=>by rw[j] at x |-;exact hp.fi.ow n i l f o id x)
 have g:(N.set n ((N.getD n []).set 2 (v:Int))).getD n []=(N.getD n []).set 2 (v:Int):=by rw[Eb w,AG rfl]
 refine⟨⟨?_,?_,hv,fun i o=>?_,h.hi,?_,h.ok⟩,u,z,fun X' e D=>⟨fun m sz M a b c d=>?_,D,?_,by rw[Ew,Ew,g,Dg Aa,AJ Aa],fun m p=>by rw[Eb w,AJ p]⟩⟩
 . rw[Ew,g,Dg Aa,AJ Aa,<- Ew];exact h.kd
 . rw[g,Dg Aa,AG rfl]
 . rw[g,j]
   by_cases k:Ch (N.getD n []) (F n) i=0
   . rw[AG k];exact h.none o k
   . rw[AJ k,NH hp u A l f o (by rw[g,j]) k];exact h.some o k
 . rw[g,p,h.mp]
   exact⟨fun⟨b,r,s,q⟩=>⟨b,r,s,by rw[j];exact q⟩,fun⟨b,r,s,q⟩=>⟨b,r,s,by rw[j] at q;exact q⟩⟩
 . rw[e];exact d.other hp u A b c (BQ _ _ _ a) rfl
 . rw[g]
   have:Lq ((N.getD n []).set 2 (v:Int)) (F n)=Lq (N.getD n []) (F n):=Hc 139 fun i _=>by rw[j]
   rw[this]
def Fat.need(h:Fat G N F n sz M){i:Nat}(hi:i<138)(p:M i=.none)(l:Ab):Eu (EQ M i l)=Eu M+QO (num (N.getD n []) 13) i:=by
 unfold Eu;have q:FO (Gx (EQ M i l)) 138=FO (Gx M) 138+1:=by
  refine Lc (i:=i) ?_ ?_ 138 hi fun j r k=>?_
  . unfold Gx;rw[p];rfl
  . rw[keyB_ne,Fj];rfl
  . rw[keyB_ne,keyB_ne,Ej _ k]
 rw[q];unfold QO;by_cases f:num (N.getD n []) 13=0
 . have o:¬ ∃ b:Nat,10<=b/\b<138/\(M b).isSome=AQ:=fun⟨b,c,a,d⟩=>h.mp.2 ⟨b,c,a,(h.iff a).1 d⟩ f
   rw[GD 138 o];by_cases g:10<=i
   . rw[AG ⟨g,f⟩,Hv 138 ⟨i,g,hi,by rw[Fj];rfl⟩]
   . rw[AJ (fun e=>g e.1),GD 138 fun⟨b,c,a,d⟩=>o ⟨b,c,a,by rwa [Ej _ Aa] at d⟩]
 . rw[AJ (fun e=>f e.2)]
   obtain⟨b,c,a,d⟩:=h.mp.1 f;have m:=(h.iff a).2 d;rw[Hv 138 ⟨b,c,a,m⟩,Hv 138 ⟨b,c,a,by
    by_cases e:b=i
    . rw[e,Fj];rfl
    . rw[Ej _ e];exact m⟩]
end
section
variable {w:I}{P:Nat->Prop}{d p:AA}{X:XSt}{S:Ab}{N:Ae}{O:Ag}{kk:Nat}{F:Nat->Ab}{bf:Nat}
def PC(h:Frd w P d p X S N O kk F bf){n:Nat}(g:1<=n)(Q:n<48)(z:CE N n≠0):
 AH Aq 56 #[Ax (H ⟨bf,0,U⟩),J Y n] w fun e w'=>e=Av (AT #[BS (iC (N.getD n [])).toArray,J Y 0])/\AB w.heap.size w w':=by
 have b:=fun V Z=>He (W:=V) h.inv h.fs h.tab g Q Z
 have L:=h.tab.n.get Q;unfold CE at z;generalize N.getD n []=x at b L z |-
 obtain⟨k,A,C,l,m,o,q,r,s,t,u,v,y,B,rfl⟩:=LY L;have Ul:(k==0)=AN:=by simpa using z
 have T:Hid (∀ V,AB w.heap.size w V->AH Aq 13 #[Ax (H ⟨bf,0,U⟩),J Y n] V fun e w'=>e=Av (AT #[BS #[J Y k,J Y A,J Y C,J Y l,J Y m,J Y o,J Y q,J Y r,J Y s,J Y t,J Y u,J Y v,J Y y,J Y B],J Y 0])/\AB V.heap.size V w'):=wN b;clear b h L z g;have a:=AF w (iO zeroI 44);have c:=AC w (iO zeroI 44);obtain⟨M,f⟩:=nm (w.alloc (iO zeroI 44));rw[<- f] at a c;have g:w.alloc (Ay #[J Y 0,J Y 0,J Y 0,J Y 0,J Y 0,J Y 0,J Y 0,J Y 0,J Y 0,J Y 0,J Y 0,J Y 0,J Y 0,J Y 0] 44)=M:=by rw[f];rfl
 have R:=wN g;have E:Hid (∀ V,AB M.heap.size M V->V.heap[w.heap.size]? =H (iO zeroI 44)):=wN fun V hv=>BD c hv
 have D:=wN a;clear g f c;go_enter func56,ntmps56
 go_wp2_with (first
  |(go_at_call 13;rw[R.out];refine Ad (T.out _ D.out) ?_;rintro w2 i
    have j:=i.trans ((AF w2 (Ay #[J Y k,J Y A,J Y C,J Y l,J Y m,J Y o,J Y q,J Y r,J Y s,J Y t,J Y u,J Y v,J Y y,J Y B] 44)).mono i.size);have G:=E.out _ j)|(with_reducible refine FH rfl (.tmp 4) (.tmp 22) rfl w.heap.size rfl [k,A,C,l,m,o,q,r,s,t,u,v,y,B] zeroI rfl rfl rfl _ G ?_;intro w9 K I))
 refine A9 (VH rfl _ _ w.heap.size _ [k,A,C,l,m,o,q,r,s,t,u,v,y,B] _ rfl rfl I rfl) rfl ⟨rfl,(a.trans (j.mono a.size)).trans (K.below (AE _))⟩
def Fmd.rd(h:Fmd w P d p X S N O kk F bf):Frd w P d p X S N O kk F bf:=by
 have a:=h.cur;exact⟨h.inv,h.fs,by rw[a];exact h.pl.tab,by rw[a];exact h.pl.fi,h.pl.ok.k12,by rw[a];exact h.pl.has.len⟩
def SW(h:Fmd w P d p X S N O kk F bf){n:Nat}(K:1<=n)(m:n<48){v:Nat}(hp:X.put.length<37)(s:Ee ((N.getD n []).set 2 (v:Int))=AQ):
 AH Aq 59 #[Ax (H ⟨bf,0,U⟩),J Y n,J Y v] w fun e w'=>e=Av (J Y 0)/\∃ a,SInv w' a d p (putI X S N n ((N.getD n []).set 2 (v:Int)))/\Chg P a w w':=by
 have j:=h.rd;have c:=He j.inv j.fs j.tab K m (AP _ w);have k:=h.pl.tab.n.get m;have b:∀ V,AB w.heap.size w V->AH Aq 26 #[Ax (H ⟨bf,0,U⟩),J Y n,BS (iC ((N.getD n []).set 2 (v:Int))).toArray] V fun e w'=>e=Av (J Y 0)/\∃ a,SInv w' a d p (putI X S N n ((N.getD n []).set 2 (v:Int)))/\Chg P a w w':=fun V L=>
  (K5 h.inv h.wi hp h.fs h.pl.tab K m (by rw[AR];exact k) s L).mono fun e w' ⟨he,a,hi,hc⟩=>⟨he,a,hi,(Chg.of_below L).trans hc⟩
 obtain⟨XX,g⟩:=nm (putI X S N n ((N.getD n []).set 2 (v:Int)));rw[<- g] at b |-
 clear g s;generalize N.getD n []=x at c b k;obtain⟨M,Q,sz,t,y,z,A,B,C,D,E,G,I,R,rfl⟩:=LY k;have T:Hid (AH Aq 13 #[Ax (H ⟨bf,0,U⟩),J Y n] w fun e w'=>e=Av (AT #[BS #[J Y M,J Y Q,J Y sz,J Y t,J Y y,J Y z,J Y A,J Y B,J Y C,J Y D,J Y E,J Y G,J Y I,J Y R],J Y 0])/\AB w.heap.size w w'):=wN c;have W:Hid (∀ V,AB w.heap.size w V->AH Aq 26 #[Ax (H ⟨bf,0,U⟩),J Y n,BS #[J Y M,J Y Q,J Y v,J Y t,J Y y,J Y z,J Y A,J Y B,J Y C,J Y D,J Y E,J Y G,J Y I,J Y R]] V fun e w'=>e=Av (J Y 0)/\∃ a,SInv w' a d p XX/\Chg P a w w'):=wN b;clear c b h j k hp;go_enter func59,ntmps59
 go_wp2_with (first
  |(go_at_call 13;refine Ad T.out ?_;rintro l f
    have i:Hid (∀ o,AB w.heap.size w (l.alloc o)):=wN fun o=>f.trans ((AF l o).mono f.size)
    have q:Hid (∀ o u,AB w.heap.size w ((l.alloc o).setCell ⟨l.heap.size,2,U⟩ u)):=wN fun o u=>(i.out o).trans ((Wrote.setCell _ _ _ _).below f.size))|(go_at_call 26;refine Ad (W.out _ (by first|exact q.out _ _|exact i.out _)) ?_;rintro w3 ⟨Z,gk,r⟩))
 go_ret;exact⟨rfl,Z,gk,r⟩
end
end
section
open Go.RowKit
def R7:∀ (l:List AA) (k:Nat) (a:List AA),k+l.length<=a.length->
 (l.zipIdx k).foldl (fun(cs:Array AA) (x:AA × Nat)=>cs.setIfInBounds (0+x.2) x.1) a.toArray=(splice a k l).toArray
 |[],k,a,_=>by simp[splice]
 |v :: l,k,a,h=>by
  have b:k+(l.length+1)<=a.length:=by simpa using h
  rw[List.zipIdx_cons,List.foldl_cons,show a.toArray.setIfInBounds (0+k) v=(a.set k v).toArray from Ai,
   R7 l (k+1) _ (by rw[AR];omega)]
  have e:=list_seg_step a k v l Aa;simp only[splice]
  simpa [Dw] using BF List.toArray e
def Yw(a:Array AA)(size:Nat)(vs:List AA)(g:vs.length=size)(d:a.size=size):
 Instr.fill (fun i=>H (i*size,size)) a [(0,BS vs.toArray)]=H vs.toArray:=by
 obtain⟨L,rfl⟩:∃ L:List AA,a=L.toArray:=⟨a.toList,Ai⟩;have f:L.length=size:=by simpa using d
 have b:=R7 vs 0 L Aa;rw[Instr.fill];have c:¬ (vs.toArray.size≠size\/0*size+vs.toArray.size > L.toArray.size):=Ak;simp only[show(AA.agg vs.toArray).cells=vs.toArray from rfl];rw[AJ (by simpa using c)];rw[EK L vs Aa] at b;simp only[Instr.fill,Nat.zero_mul];congr 1;refine Eq.trans ?_ b;simp
end
section
open Go.RowKit BM
def Hd(a n:Nat):Nat:=if n=0 then 0 else (a%256+n+255) / 256
def Dv(a n k:Nat):Nat:=min n (256*k-a%256)
def tP(a n k:Nat):Ab:=[((a / 256+k:Nat):Int),(((a+Dv a n k)%256:Nat):Int),(((a+Dv a n k)%256+(Dv a n (k+1)-Dv a n k):Nat):Int)]
def fU(a n:Nat):Ae:=(BE (Hd a n)).map (tP a n)
def L2(a n:Nat):Dv a n 0=0:=by unfold Dv;omega
def X6(a n k:Nat):Dv a n k<=n:=Nat.min_le_left _ _
def JU{a n k:Nat}(h:k<Hd a n):Dv a n k<n/\Dv a n k<Dv a n (k+1)/\Dv a n (k+1)-Dv a n k=min (256-(a+Dv a n k)%256) (n-Dv a n k)/\(a+Dv a n k) / 256=a / 256+k:=by
 unfold Hd at h;split at h
 . omega
 . next l=>
   unfold Dv;obtain⟨o,f⟩:=nm (a%256);rw[<- f] at h |-
   have c:a=256*(a / 256)+o:=Aa;have m:256*k<o+n:=Aa;have i:o<256:=Aa;obtain⟨b,d⟩:=nm (a / 256);rw[<- d] at c |-
   subst c;clear f h d;by_cases j:k=0
   . subst j
     refine⟨Aa,Aa,Aa,Aa⟩
   . have e:min n (256*k-o)=256*k-o:=by omega
     rw[e];have g:256*b+o+(256*k-o)=256*(b+k):=Aa;rw[g];refine⟨Aa,Aa,Aa,Aa⟩
def Tw(a n:Nat):Dv a n (Hd a n)=n:=by
 unfold Dv Hd;split
 . omega
 . omega
def Is(a n:Nat):(fU a n).length=Hd a n:=by unfold fU;rw[Bn,List.length_range]
def Z9{a n k:Nat}(h:k<Hd a n):(fU a n)[k]'(by rw[Is];exact h)=tP a n k:=by unfold fU;rw[Cu,Co]
def wv(L:Ae):Prop:=∀ x∈L,x.length=3
def SR(w:I)(B:Nat)(v:AA)(O:Ae):Prop:=wv O/\w.ownsRow B 127 3 v O.length (nC O)
def SR.below{w w':I}{B:Nat}{v:AA}{O:Ae}(h:SR w B v O)(hb:AB w.heap.size w w'):SR w' B v O:=by
 refine⟨h.1,h.2.1,?_⟩;rcases h.2.2 with h| ⟨g,a,b,f,d,c,r⟩
 . exact A4 h
 . exact A8 ⟨g,a,b,f,d,by rw[hb.block g (Au.1 c).1];exact c,r⟩
def qP(w:I)(B:Nat):SR w B (Aw U 0 0) []:=⟨fun x a=>absurd a Bu,Dt w B _ _⟩
def SR.cells{w:I}{B:Nat}{v:AA}{O:Ae}(h:SR w B v O)(A:0<O.length):∃ g cap,v=Aw (H ⟨g,0,U⟩) O.length cap/\B<=g/\g<w.heap.size/\O.length<=cap/\∀ k (b:k<O.length) (j:Nat),j<3->w.cell? ⟨g,k*3+j,U⟩=H (J Y (O[k].getD j 0)):=by
 rcases h.2.2 with⟨_,C⟩| ⟨g,cap,a,t,o,d,i,y,z,r⟩
 . omega
 . refine⟨g,cap,t,o,(Au.1 d).1,i,fun k b j p=>?_⟩
   rw[AD _ _ _ _ _ _ d];have q:O[k].length=3:=h.1 _ (Br b);have n:=Gi (f:=iC) (L:=O) (s:=3) (fun x u=>by rw[CF,h.1 x u]) k b;have l:a[k*3+j]? =(nC O)[k*3+j]? :=by
    rw[<- r,Bb,AG Aa];exact(Array.getElem?_toList).symm
   rw[l];have m:((nC O).drop (k*3)).take 3=iC O[k]:=n;have c:(((nC O).drop (k*3)).take 3)[j]? =(iC O[k])[j]? :=(by rw[m]);rw[Bb,AG p,Bv] at c;rw[c];unfold iC;rw[List.getElem?_map,AX Aa,Az,AX Aa];rfl
def UO:(Aq.info? 127).map (fun i=>(i.zero,i.size,i.bytes))=H (H (BS #[J Y 0,J Y 0,J Y 0]),3,24):=Ac
def ON{w:I}{b:Array BK}{rest:List BK}{o:BK}{a:Act}{Q:Exit->Act->I->Prop}(d:o.guard=U)(y:Operand)(j:o.op=.buildSlice 124 1 #[(0,y)])
 (x:Ab) (k:x.length=3) (l:a.eval y=BS (iC x).toArray)
 (h:Cj Aq b Q rest (a.put o.dst (Aw (H ⟨w.heap.size,0,U⟩) 1 1)) (w.alloc (iO x 127))):Cj Aq b Q (o :: rest) a w:=by
 obtain⟨i,f,g,c,m⟩:=Bs UO;refine wpList_buildSlice d 124 127 1 _ j (iC x).toArray i _ underlying124 f g (by rw[c];decide) (by rw[c];decide) ?_ h;rw[c];simp only[Fe,DT,II,l];exact Yw _ 3 (iC x) (by rw[CF,k]) Ai
def Nm(w1:I)(x:Ab)(i:x.length=3){f:Array BK}{rest:List BK}{o:BK}{a:Act}{Q:Exit->Act->I->Prop}(j:o.guard=U)(s y:Operand)
 (F:o.op=.call { callee:=.builtin .append,args:=#[s,y],argTypes:=#[124,124] })
 (B:Nat) (v:AA) (O:Ae) (G:a.eval s=v) (c:SR w1 B v O) (K:O.length<=1000000) (J:a.eval y=Aw (H ⟨w1.heap.size,0,U⟩) 1 1) (C:B<=w1.heap.size)
 (h:∀ v' w',SR w' B v' (O ++ [x])->AB B w1 w'->Cj Aq f Q rest (a.put o.dst v') w'):Cj Aq f Q (o :: rest) a (w1.alloc (iO x 127)):=by
 obtain⟨t,n,p,q,r⟩:=Bs UO;have b:AB w1.heap.size w1 (w1.alloc (iO x 127)):=AF _ _;have l:(w1.alloc (iO x 127)).heap[w1.heap.size]? =H (iO x 127):=AC w1 _;have g:=c.below b;refine FU _ j s y 124 F B 127 t _ 3 24 underlying124 n p q r rfl Af v O.length _ G g.2 ⟨w1.heap.size,0,U⟩ 1 1 (iC x) J (by rw[CF,i]) ?_ (Qq x) (by simp only[maxLen];omega) Aa Ak fun v' w' w A _=>?_
 . intro m u E
   rw[Cd,BC];have:=Gf l m u E;rw[BC] at this;exact this
 . refine h v' w' ⟨fun z d=>?_,?_⟩ ((b.mono C).trans ((AP _ _).grown A Ak fun k D=>(BY g.2 k D).1))
   . rcases BU.1 d with d|d
     . exact c.1 z d
     . simp at d;subst d;exact i
   . have e:nC (O ++ [x])=nC O ++ iC x:=by simp[nC]
     rw[AO,e];exact w
structure Flt (w:I) (P:Nat->Prop) (d p:AA) (X:XSt) (S:Ab) (N:Ae) (O:Ag) (kk:Nat) (F:Nat->Ab) (bf n sz:Nat) (M:Nat->Option Ab) (Q:Ab):Prop where
 md:Fmd w P d p X S N O kk F bf
 ft:Fat X.call N F n sz M
 q:PutS X Q
 bs:Base Q S kk n (num (N.getD n []) 13)
 rm:(Dz O (64*kk):Int)<=62*(kk:Int)-42
def FlO(w:I)(P:Nat->Prop)(d p:AA)(X:XSt)(S:Ab)(N:Ae)(O:Ag)(kk:Nat)(F:Nat->Ab)(bf n:Nat)(Q:Ab)(sz:Nat)(M:Nat->Option Ab)(k:Nat)(R:(Nat->Prop)->XSt->Ae->(Nat->Ab)->Ab->Prop)(w':I):Prop:=
 ∃ g h f i c b,Flt w' g d p h S f i kk c bf n sz M b/\Fst S kk X N O F n h f i c/\(∀ a∈Q,a∈b)/\b.length<=Q.length+k/\Chg P g w w'/\R g h f c b
def ob:(Nat->Prop)->XSt->Ae->(Nat->Ab)->Ab->Prop:=fun _ _ _ _ _=>True
def FlE(w:I)(P:Nat->Prop)(d p:AA)(X:XSt)(S:Ab)(kk bf:Nat)(w':I):Prop:=
 ∃ a b f g c,Fmd w' a d p b S f g kk c bf/\Onw X b/\Chg P a w w'
section
variable {w:I}{P:Nat->Prop}{d p:AA}{X:XSt}{S:Ab}{N:Ae}{O:Ag}{kk:Nat}{F:Nat->Ab}{bf n sz:Nat}{M:Nat->Option Ab}{Q:Ab}
def Flt.low(h:Flt w P d p X S N O kk F bf n sz M Q){w':I}(hb:AB w.heap.size w w'):Flt w' P d p X S N O kk F bf n sz M Q:={ h with md:=h.md.low hb }
def Flt.here(h:Flt w P d p X S N O kk F bf n sz M Q){R:(Nat->Prop)->XSt->Ae->(Nat->Ab)->Ab->Prop}(a:R P X N F Q):FlO w P d p X S N O kk F bf n Q sz M 0 R w:=
 ⟨P,X,N,O,F,Q,h,Fst.refl _ _ _ _ _ _ _,fun _ h=>h,AE _,Chg.refl _ _,a⟩
def FB(O:Ag)(kk:Nat)(M a:Nat->Option Ab):Prop:=(Dz O (64*kk):Int)+Eu a<=62*(kk:Int)-42+Eu M
def RY(M:Nat->Option Ab)(i:Nat)(l m:Ab):Eu (EQ M i l)=Eu (EQ M i m):=UX fun j _=>by
 by_cases e:j=i
 . subst e;rw[Fj,Fj];exact⟨fun _=>rfl,fun _=>rfl⟩
 . rw[Ej _ e,Ej _ e]
def Flt.cnt{i:XSt}{f:Ae}{g:Ag}{b:Nat->Ab}{c:Nat->Option Ab}{a:Nat}(h:Flt w P d p X S N O kk F bf n sz M Q)(hf:Fat i.call f b n a c)(j:Fst S kk X N O F n i f g b):Dz g (64*kk)+Eu M=Dz O (64*kk)+Eu c:=by
 have k:=h.ft.used;have l:=hf.used;have m:=j.cn;omega
def Flt.map(h:Flt w P d p X S N O kk F bf n sz M Q)(A:1<=n)(k:n<48)(K:Q.length<=34){i:Nat}(hi:i<138):
 (FB O kk M (EQ M i z256)->AH Aq 103 #[Ax (H ⟨bf,0,U⟩),J Y n,J Y i] w fun e w'=>∃ v:Nat,e=Av (AT #[J Y v,J Y 0])/\
   FlO w P d p X S N O kk F bf n Q sz (EQ M i (Fz M i)) 2 (fun y z l B W=>(v:Int)∈W/\Ch (l.getD n []) (B n) i=(v:Int)/\v≠0) w')/\
 (¬ FB O kk M (EQ M i z256)->AH Aq 103 #[Ax (H ⟨bf,0,U⟩),J Y n,J Y i] w fun e w'=>e=Av (AT #[J Y 0,J Y 13])/\FlE w P d p X S kk bf w'):=by
 have G:=h.ft.k0;by_cases o:Ch (N.getD n []) (F n) i=0
 . have L:=h.ft.none hi o
   have x:=h.ft.need hi L z256;have E:Fz M i=z256:=(by unfold Fz;rw[L];rfl);rw[E];constructor
   . intro c
     unfold FB at c;refine(cT h.md A k G hi o h.q K h.bs (by rw[x] at c;push_cast at c;omega)).mono ?_;rintro e w' ⟨v,y,z,l,C,B,he,u,f,b⟩;obtain⟨R,r1,r2,r3,r4⟩:=f.pw;have hv:=f.v0;have I:=h.ft.map h.md.pl f A k hi;have s:=f.st.fst h.md.pl f.on;have hc:=h.cnt I s;refine⟨v.toNat,by rw[he];congr 3;simp;omega,y,z,l,C,B,Q ++ R,⟨u,I,r3,⟨fun g b=>⟨BA _ (h.bs.g g b).1,BA _ (h.bs.g g b).2⟩,BA _ h.bs.t,r4⟩,Aa⟩,s,fun a r=>BA _ r,by rw[AO];omega,b,?_,?_,Aa⟩
     . rw[show((v.toNat:Nat):Int)=v from Aa];exact Cz _ r2
     . rw[f.loc i hi,AG rfl];omega
   . intro c
     unfold FB at c;refine(XS h.md A k G hi o h.q K h.bs (by rw[x] at c;push_cast at c;omega)).mono ?_;rintro e w' ⟨he,y,z,l,C,u,ho,b⟩;exact⟨he,y,z,l,C,F,u,ho,b⟩
 . have vx:=h.ft.some hi o
   have T:EQ M i (Fz M i)=M:=by
    funext j;by_cases e:j=i
    . subst e;rw[Fj];unfold Fz;rw[vx];rfl
    . rw[Ej _ e]
   have V:FB O kk M (EQ M i z256):=by
    unfold FB;rw[RY M i z256 (Fz M i),T];have:=h.rm;omega
   refine⟨fun _=>?_,fun c=>absurd V c⟩;rw[T];refine(ga h.md A k G hi o).mono ?_;rintro e w' ⟨he,u,b⟩;have Z:=T5 (h.md.pl.tab.n.frm n k) (h.md.pl.fi.fl n) (i:=i) Aa;have D:(((Ch (N.getD n []) (F n) i).toNat:Nat):Int)=Ch (N.getD n []) (F n) i:=Aa;refine⟨(Ch (N.getD n []) (F n) i).toNat,by rw[he,D],P,X,N,O,F,Q ++ [Ch (N.getD n []) (F n) i],⟨u,h.ft,h.q.wide fun a r=>BA _ r,⟨fun g b=>⟨BA _ (h.bs.g g b).1,BA _ (h.bs.g g b).2⟩,BA _ h.bs.t,fun e=>BA _ (h.bs.m e)⟩,h.rm⟩,Fst.refl _ _ _ _ _ _ _,fun a r=>BA _ r,by rw[AO,List.length_singleton];omega,b,?_,D.symm,Aa⟩;rw[D];exact Cz _ (BN.2 rfl)
def Flt.put(h:Flt w P d p X S N O kk F bf n sz M Q)(g:1<=n)(f:n<48)(y:Q.length<=36){i:Nat}(hi:i<138){v:Nat}(hv:Ch (N.getD n []) (F n) i=(v:Int))(s:v≠0)(k:(v:Int)∈Q){l:Ab}(o:l.length=256){u:AA}(hu:BSl w u l):
 AH Aq 50 #[p,J Y v,u] w fun e w'=>e=Av (J Y 0)/\FlO w P d p X S N O kk F bf n Q sz (EQ M i l) 0 ob w':=by
 have j:=IZ hi (h.md.pl.fi.ow n i g f Aa id (by rw[hv];omega));rw[hv,Cf] at j;refine(h.md.data g f hi j o hu (by have:=h.q.le;omega)).mono ?_;rintro e w' ⟨he,r,x,t⟩;exact⟨he,r,_,N,O,F,Q,⟨x,h.ft.put h.md.pl g f hi hv s o hu.1,h.q.add k rfl,h.bs,h.rm⟩,⟨fun m sz M a b c e=>e.putOther h.md.pl b c (C0 a) j l,⟨rfl,rfl⟩,rfl,rfl,fun _ _=>rfl⟩,fun _ h=>h,AE _,t,trivial⟩
def Frd.data(h:Frd w P d p X S N O kk F bf)(f:1<=n)(c:n<48){i:Nat}(hi:i<138){v:Nat}(hv:Ch (N.getD n []) (F n) i=(v:Int))(g:v≠0):v<X.is.length/\D7 v:=by
 have a:=h.fi.ow n i f c Aa id (by rw[hv];omega);rw[hv] at a;have b:=a.outJ h.k12;rw[Cf] at b;refine⟨?_,b⟩;rw[<- h.inv.xok.curLen,h.len];have:=a.1;omega
def Frd.getB(h:Frd w P d p X S N O kk F bf)(ft:Fat X.cur N F n sz M)(j:1<=n)(b:n<48){i:Nat}(hi:i<138){v:Nat}(hv:Ch (N.getD n []) (F n) i=(v:Int))(f:v≠0){V:I}(m:AB w.heap.size w V):
 AH Aq 104 #[p,J Y v] V fun e w'=>∃ g cap T rest,e=Av (AT #[Aw (H ⟨g,0,U⟩) 256 cap,J Y 0])/\Rw w' V.heap.size (Aw (H ⟨g,0,U⟩) 256 cap) (Fz M i) g cap T rest/\AB V.heap.size V w':=by
 obtain⟨r,q⟩:=h.data j b hi hv f;refine(Uw (h.inv.low m) r).mono ?_;rintro e w' ⟨u,l,he,⟨g,cap,T,rest,a⟩,k,o⟩;have c:l=Fz M i:=by
  rw[k q];unfold Fz;rw[ft.some hi (by rw[hv];omega),hv,Cf];rfl
 subst c;have s:=a.val;subst s;exact⟨g,cap,T,rest,he,a,o⟩
end
section
variable {w:I}{P:Nat->Prop}{d p:AA}{X:XSt}{S:Ab}{N:Ae}{O:Ag}{kk:Nat}{F:Nat->Ab}{bf n sz:Nat}{M:Nat->Option Ab}{Q:Ab}
def wm(w:I)(N:Ae)(F:Nat->Ab)(M:Nat->Option Ab)(n i:Nat)(e:Ending)(w':I):Prop:=
 ∃ g a T b,e=Av (AT #[J Y (Ch (N.getD n []) (F n) i),Aw (H ⟨g,0,U⟩) 256 a,J Y 0])/\Rw w' w.heap.size (Aw (H ⟨g,0,U⟩) 256 a) (Fz M i) g a T b/\AB w.heap.size w w'
def PZ(h:Frd w P d p X S N O kk F bf)(ft:Fat X.cur N F n sz M)(y:1<=n)(m:n<48){i:Nat}(hi:i<138):
 AH Aq 135 #[Ax (H ⟨bf,0,U⟩),J Y n,J Y i] w (wm w N F M n i):=by
 have k:=wN (n_ h y m ft.k0 hi);by_cases l:Ch (N.getD n []) (F n) i=0
 . have c:Fz M i=z256:=by unfold Fz;rw[ft.none hi l];rfl
   unfold wm;rw[c];rw[l] at k |-
   have x:Hid (∀ V:I,Rw ((V.alloc (Ay (AW 256 (J .u8 0)) 5)).drew) V.heap.size (Aw (H ⟨V.heap.size,0,U⟩) 256 256) z256 V.heap.size 256 5 []):=wN fun V=>by
    refine⟨QI,Qo,rfl,AE _,?_,AE _⟩;have:=AC V (Ay (AW 256 (J .u8 0)) 5);refine Eq.trans this ?_;rw[Cc];unfold z256;rw[List.map_replicate,List.toArray_replicate]
   have C:=fun W=>YM W 256 Af 256 rfl
   obtain⟨Z,z⟩:=nm (AW 256 (J .u8 0));rw[<- z] at x C;clear h ft l c z;go_enter func135,ntmps135;go_wp2_with (go_at_call 175;refine Ad k.out ?_;rintro u a)
   go_region
   go_wp2;go_ret3;exact⟨_,_,_,_,rfl,{ x.out u with ge:=a.size },(a.trans ((AF u _).mono a.size)).drew⟩
 . have s:=T5 (h.tab.n.frm n m) (h.fi.fl n) (i:=i) Aa
   obtain⟨v,t⟩:∃ v:Nat,Ch (N.getD n []) (F n) i=(v:Int):=⟨(Ch (N.getD n []) (F n) i).toNat,Aa⟩;have b:v≠0:=Aa;have B:=wN (fun V q=>h.getB ft y m hi t b (V:=V) q);have A:=wN (fun V (q:AB w.heap.size w V)=>(h.fs.low q).cell);unfold wm;rw[t] at k |-
   have G:((v:Int)==0)=AN:=by simpa using b
   have D:Hid (w.heap.size=w.heap.size):=wN rfl;clear h ft l s t b;go_enter func135,ntmps135
   go_wp2_with (first|(go_at_call 175;refine Ad k.out ?_;rintro u a;have E:=A.out _ a)|(go_at_call 104;refine(B.out _ a).mono ?_;rintro e K ⟨g,o,T,j,rfl,f,r⟩))
   go_ret3;exact⟨g,o,T,j,rfl,{ f with ge:=AU a.size f.ge },a.trans (r.mono a.size)⟩
end
def de(l:Ab):∀ v∈l.map (J .u8),v.oneCell'=AQ:=fun v a=>by
 obtain⟨x,_,rfl⟩:=Ce.1 a;rfl
section
variable {w:I}{P:Nat->Prop}{d p:AA}{X:XSt}{S:Ab}{N:Ae}{O:Ag}{kk:Nat}{F:Nat->Ab}{bf n sz:Nat}{M:Nat->Option Ab}{Q:Ab}
def SpAt(w:I)(b:Nat)(i o t:Int):Prop:=w.heap[b]? =H (Ay #[J Y i,J Y o,J Y t] 127 (0,0))
def SpAt.cells{b:Nat}{i o t:Int}(h:SpAt w b i o t):w.cell? ⟨b,0,U⟩=H (J Y i)/\w.cell? ⟨b,1,U⟩=H (J Y o)/\w.cell? ⟨b,2,U⟩=H (J Y t):=
 ⟨by rw[AD _ _ _ _ _ _ h];rfl,by rw[AD _ _ _ _ _ _ h];rfl,by rw[AD _ _ _ _ _ _ h];rfl⟩
def FlO.widen{w1:I}{i k:Nat}{j:Nat->Option Ab}{R:(Nat->Prop)->XSt->Ae->(Nat->Ab)->Ab->Prop}{w':I}(hb:AB w.heap.size w w1)(h:FlO w1 P d p X S N O kk F bf n Q i j k R w'):FlO w P d p X S N O kk F bf n Q i j k R w':=by
 obtain⟨q,s,m,o,l,r,a,b,c,e,f,g⟩:=h;exact⟨q,s,m,o,l,r,a,b,c,e,(Chg.of_below hb).trans f,g⟩
def FlE.widen{w1 w':I}(hb:AB w.heap.size w w1)(h:FlE w1 P d p X S kk bf w'):FlE w P d p X S kk bf w':=by
 obtain⟨j,k,g,i,f,a,b,c⟩:=h;exact⟨j,k,g,i,f,a,b,(Chg.of_below hb).trans c⟩
def FlO.then{s:Nat->Prop}{X1:XSt}{q:Ae}{r:Ag}{m:Nat->Ab}{l:Ab}{w1 w':I}{i j k:Nat}{o:Nat->Option Ab}{R:(Nat->Prop)->XSt->Ae->(Nat->Ab)->Ab->Prop}
 (D:Fst S kk X N O F n X1 q r m) (C:∀ a∈Q,a∈l) (G:l.length<=Q.length+j) (B:Chg P s w w1) (h:FlO w1 s d p X1 S q r kk m bf n l i o k R w'):FlO w P d p X S N O kk F bf n Q i o (j+k) R w':=by
 obtain⟨y,A,u,v,t,z,a,b,c,e,f,g⟩:=h;exact⟨y,A,u,v,t,z,a,D.trans b,fun x E=>c x (C x E),Aa,B.trans f,g⟩
def PJ(h:Flt w P d p X S N O kk F bf n sz M Q)(h1:1<=n)(BR:n<48)(hQ:Q.length<=34){i o m:Nat}(hi:i<138)(hm:0<m)(ho:o+m<=256){u:AA}{c:Ab}(hu:BSl w u c)(Z:Apt P u)(hc:m<=c.length)(hf:FB O kk M (EQ M i z256)):
 AH Aq 58 #[Ax (H ⟨bf,0,U⟩),J Y n,BS #[J Y i,J Y o,J Y ((o+m:Nat):Int)],u] w fun e w'=>e=Av (J Y 0)/\FlO w P d p X S N O kk F bf n Q sz (EQ M i (splice (Fz M i) o (c.take m))) 2 ob w':=by
 have s:=AF w (Ay #[J Y i,J Y o,J Y ((o+m:Nat):Int)] 127);have x:SpAt (w.alloc (Ay #[J Y i,J Y o,J Y ((o+m:Nat):Int)] 127)) w.heap.size i o ((o+m:Nat):Int):=AC w _;obtain⟨w1,E⟩:=nm (w.alloc (Ay #[J Y i,J Y o,J Y ((o+m:Nat):Int)] 127));have H1:=wN E.symm;rw[<- E] at s x;have h':=h.low s;have W:¬ P w.heap.size:=fun hp=>by have:=h.md.inv.lt _ hp;omega
 have c1:=x.cells.1;have HU:Hid (∀ V P2,Chg P P2 w1 V->BSl V u c/\SpAt V w.heap.size i o ((o+m:Nat):Int)):=wN fun V P2 hg=>
  ⟨((hu.below s).chg Z hg).1,(hg.keep _ (Au.1 x).1 W).1.trans x⟩
 obtain⟨ub,uo,a8,rfl,_,_⟩:=hu.open' Aa
 have KM:Hid (AH Aq 103 #[Ax (H ⟨bf,0,U⟩),J Y n,J Y i] w1 fun e y=>∃ v:Nat,e=Av (AT #[J Y v,J Y 0])/\
  FsAt y bf p/\(∀ V,AB y.heap.size y V->BSl V (Aw (H ⟨ub,uo,U⟩) c.length a8) c/\SpAt V w.heap.size i o ((o+m:Nat):Int)/\FsAt V bf p)/\
  AH Aq 104 #[p,J Y v] y fun e w3=>∃ g f T q,e=Av (AT #[Aw (H ⟨g,0,U⟩) 256 f,J Y 0])/\Rw w3 y.heap.size (Aw (H ⟨g,0,U⟩) 256 f) (Fz M i) g f T q/\AB y.heap.size y w3/\
   ∀ C l,AB y.heap.size y C->BSl C (Aw (H ⟨g,0,U⟩) 256 f) l->l.length=256->AH Aq 50 #[p,J Y v,Aw (H ⟨g,0,U⟩) 256 f] C fun e w'=>e=Av (J Y 0)/\FlO w P d p X S N O kk F bf n Q sz (EQ M i l) 2 ob w'):=wN (by
  refine((h'.map h1 BR hQ hi).1 hf).mono ?_;rintro e y ⟨v,he,P2,X2,N2,O2,F2,Q2,G,d2,d1,d0,a3,d4,QX,a7⟩;refine⟨v,he,G.md.fs,fun V hV=>?_,?_⟩
  . obtain⟨a,b⟩:=HU.out _ _ a3
    exact⟨a.below hV,BD b hV,G.md.fs.low hV⟩
  . have l9:Fz (EQ M i (Fz M i)) i=Fz M i:=by rw[SJ,AG rfl]
    refine(G.md.rd.getB (M:=EQ M i (Fz M i)) (by rw[G.md.cur];exact G.ft) h1 BR hi QX a7 (AP _ _)).mono ?_;rintro e3 w3 ⟨g,f,T,q,c4,r,z⟩;rw[l9] at r;refine⟨g,f,T,q,c4,r,z,fun C l a0 d3 c7=>?_⟩;refine((G.low a0).put h1 BR Aa hi QX a7 d4 c7 d3).mono ?_;rintro e5 w5 ⟨c5,vy⟩;rw[Vs] at vy;exact⟨c5,(FlO.then (j:=2) (k:=0) d2 d1 d0 (a3.trans (Chg.of_below a0)) vy).widen s⟩)
 have B:((c.take m).map (J .u8)).length=m:=by rw[Bn,AV];omega
 have I:=wN B;have b5:Hid (m=Nat.min c.length m):=wN (Nat.min_eq_right hc).symm;have b0:Hid (Fv (c.take m)):=wN (En hu.1 m);have b6:Hid ((c.take m).length=m):=wN (by rw[AV];omega);have d5:=wN s;have d9:o<256:=Aa;have c8:((o:Nat):Int)<=((o+m:Nat):Int):=Aa;have bj:((o+m:Nat):Int)<=256:=Aa;obtain⟨t,ht⟩:∃ t:Nat,t=o+m:=⟨_,rfl⟩;have HT:=wN ht;rw[<- ht] at c8 bj H1 KM x |-
 have a6:t-o=m:=Aa;have c9:o<=t:=Aa;have uA:t<=256:=Aa;have b7:=wN a6;have K:Hid (o+m<=256):=wN ho;clear h h' E s x HU hu Z B hf W ht hc a6 ho;go_enter func58,ntmps58;go_upto_region 1 with(fail)
 rw[H1.out]
 go_wp2_with (first
  |(go_at_call 103;refine KM.out.mono ?_;rintro e y ⟨v,rfl,a1,JH,KG⟩;have c0:=a1.cell;have b4:=wN JH;have b8:=wN KG;clear a1 JH KG)
  |(go_at_call 104;refine b8.out.mono ?_;rintro e w3 ⟨g,f,T,q,rfl,r,z,KP⟩
    obtain⟨D,a5,a2⟩:=b4.out _ z;obtain⟨s0,s1,s2⟩:=a5.cells;have A:=wN r;have a9:=wN z;have HP:=wN KP;have vz:=r.cap;have d6:=wN D;have b1:=wN a2;have L:Hid (0<((c.take m).map (J .u8)).length->∃ ad,(H (⟨ub,uo,U⟩:Addr))=H ad/\∀ j v,((c.take m).map (J .u8))[j]? =H v->w3.cell? (ad.add j)=H v):=wN fun hp=>Fm D (fun _ _=>rfl) m hp
    have b2:Hid (o+((c.take m).map (J .u8)).length<=((Fz M i).map (J .u8) ++ q).length):=wN (by rw[I.out,AO,Bn,r.len];have:=K.out;omega);clear r z KP D a5 a2)|(with_reducible refine D0 rfl (.tmp 35) (.tmp 37) (.tmp 39) rfl g 0 256 f rfl (o:Int) (t:Int) rfl rfl o t m b7.out rfl rfl c9 Aa Aa ?_)
  |(with_reducible refine Dc rfl _ _ 77 77 rfl 5 underlying77 Ac _ _ _ _ _ _ rfl rfl g o ((Fz M i).map (J .u8) ++ q) T A.out.row ((c.take m).map (J .u8)) m I.out b5.out (fun h=>⟨rfl,L.out h⟩) b2.out (de _) ?_
    intro C b3 R;have a4:Rw C y.heap.size (Aw (H ⟨g,0,U⟩) 256 f) (splice (Fz M i) o (c.take m)) g f T q:=(A.out.wrote b0.out (by rw[b6.out];exact K.out) b3.out);have c3:=block_lt_of_cell c0;have d8:=A.out.ge;have c6:FsAt C bf p:=(R.2.2.2.2 bf (by intro e;simp only at c3;omega)).trans b1.out;have d7:=c6.cell;have b9:=wN (HP.out C _ (a9.out.trans (R.below A.out.ge)) a4.bsl a4.len))|(go_at_call 50;refine Ad b9.out ?_;rintro w5 c2))
 go_ret;exact⟨rfl,c2⟩
def PD(h:Flt w P d p X S N O kk F bf n sz M Q)(l:1<=n)(f:n<48)(q:Q.length<=34){i:Nat}{o t:Int}(hi:i<138){u:AA}(hf:¬ FB O kk M (EQ M i z256)):
 AH Aq 58 #[Ax (H ⟨bf,0,U⟩),J Y n,BS #[J Y i,J Y o,J Y t],u] w fun e w'=>e=Av (J Y 13)/\FlE w P d p X S kk bf w':=by
 have a:=AF w (Ay #[J Y i,J Y o,J Y t] 127);have b:SpAt (w.alloc (Ay #[J Y i,J Y o,J Y t] 127)) w.heap.size i o t:=AC w _;obtain⟨s,c⟩:=nm (w.alloc (Ay #[J Y i,J Y o,J Y t] 127));have g:=wN c.symm;rw[<- c] at a b;have r:=b.cells.1;have k:=wN (((h.low a).map l f q hi).2 hf);have j:=wN a;clear h c b hf a;go_enter func58,ntmps58;go_upto_region 1 with(fail)
 rw[g.out];go_wp2_with (go_at_call 103;refine Ad k.out ?_;rintro v m)
 go_ret;exact⟨rfl,m.widen j.out⟩
end
def S9{a n:Int}(b:¬ 0<n)(w:I):AH Aq 57 #[J Y a,J Y n] w fun e w'=>e=Av (Aw U 0 0)/\w=w':=by
 go_enter func57,ntmps57;go_wp2;go_loopw [1,5] (fun y v wr=>w=wr/\y=J Y n/\v=Aw U 0 0) (fun _ _ _=>0)
 case atStart=>exact⟨rfl,rfl,rfl⟩
 case round=>
  obtain⟨rfl,rfl,rfl⟩:=hrel;go_wp2;go_ret;exact⟨rfl,rfl⟩
def Yr{a n:Nat}(ha:a<=100000)(hn:n<=100000)(w:I):AH Aq 57 #[J Y a,J Y n] w fun e w'=>∃ v,e=Av v/\SR w' w.heap.size v (fU a n)/\AB w.heap.size w w':=by
 have C:Hid (SR w w.heap.size (Aw U 0 0) ((fU a n).take 0)/\AB w.heap.size w w):=wN ⟨qP w _,AP _ _⟩;have r:Hid (∀ k,k<Hd a n->Dv a n k<n/\Dv a n k<Dv a n (k+1)/\Dv a n (k+1)-Dv a n k=min (256-(a+Dv a n k)%256) (n-Dv a n k)/\(a+Dv a n k) / 256=a / 256+k):=wN fun k=>JU
 have g:=wN (Tw a n);have E:=wN (X6 a n);have j:Hid (∀ k,k<Hd a n->(fU a n).take (k+1)=(fU a n).take k ++ [tP a n k]):=wN fun k N=>by
  rw[BI (by rw[Is];exact N),Z9 N]
 have i:Hid ((fU a n).take (Hd a n)=fU a n):=wN (A2 (by rw[Is];exact AE _));have u:Hid (∀ k,((fU a n).take k).length<=1000000):=wN fun k=>by
  rw[AV,Is];unfold Hd;split <;> omega
 have P:Hid (Dv a n 0=0):=wN (L2 a n);obtain⟨L,S⟩:=nm (fU a n);rw[<- S] at C j i u |-
 obtain⟨c,T⟩:=nm (Hd a n);rw[<- T] at r g j i;have p:Hid (∀ k,tP a n k=[((a / 256+k:Nat):Int),(((a+Dv a n k)%256:Nat):Int),(((a+Dv a n k)%256+(Dv a n (k+1)-Dv a n k):Nat):Int)]):=wN fun _=>rfl
 clear S T;go_enter func57,ntmps57;go_wp2;go_loopw [0,1,5] (fun x y v wr=>∃ k:Nat,k<=c/\x=J Y ((a+Dv a n k:Nat):Int)/\y=J Y ((n-Dv a n k:Nat):Int)/\Hid (SR wr w.heap.size v (L.take k)/\AB w.heap.size w wr)) (fun _ y _ _=>(intOf y).toNat)
 case atStart=>exact⟨0,A7 _,by rw[P.out];rfl,by rw[P.out];rfl,C⟩
 case round=>
  obtain⟨k,N,rfl,rfl,o⟩:=hrel;clear C;by_cases B:k<c
  . obtain⟨s1,s2,O,W⟩:=r.out k B
    have Z:=E.out k;obtain⟨A,l⟩:=nm (a+Dv a n k);obtain⟨R,K⟩:=nm (n-Dv a n k);obtain⟨f,M⟩:=nm (A%256);obtain⟨q,V⟩:=nm (A / 256);obtain⟨t,ht⟩:=nm (min (f+R) 256);have G:Hid (tP a n k=[(q:Int),(f:Int),(t:Int)]):=wN (by
     rw[p.out k,<- l,<- M,O,<- l,<- M,<- K,<- W,<- l,<- V];congr 3;omega)
    have m:Hid (a+Dv a n (k+1)=A+(t-f)/\n-Dv a n (k+1)=R-(t-f)):=wN (by
     rw[<- l] at O;omega)
    rw[<- l,<- K];have a0:A<=200000:=Aa;have a2:R<=100000:=Aa;have a1:0<R:=Aa;have a3:f<256:=Aa;have WS:f<t:=Aa;have uA:t<=256:=Aa;have a4:t-f<=R:=Aa;have e1:((A:Int)).tmod 256=(f:Int):=(by rw[DW Aa];omega);have e2:((A:Int)).tdiv 256=(q:Int):=(by rw[Int.tdiv_eq_ediv_of_nonneg Aa];omega);have e3:min ((f:Int)+(R:Int)) 256=(t:Int):=Aa;have sa:q<=1000:=Aa;have eR:(0:Int)<(R:Int):=Aa;have h:=o.out.1;have d:=o.out.2;have H:=wN d.size;have s:=wN (j.out k B);have F:=wN h;have D:=wN d;clear s1 s2 O W Z l K M V ht o h d
    go_wp2_with (first
     |(with_reducible refine ON rfl (.tmp 21) rfl [(q:Int),(f:Int),(t:Int)] rfl rfl ?_)
     |(at_builtin
       refine Nm wr [(q:Int),(f:Int),(t:Int)] rfl rfl (.tmp 16) (.tmp 22) rfl w.heap.size _ (L.take k) rfl F.out (u.out k) rfl H.out ?_;intro v2 X Q z))
    have b:Hid (SR X w.heap.size v2 (L.take (k+1))/\AB w.heap.size w X):=wN ⟨by rw[s.out,G.out];exact Q,D.out.trans z⟩;clear Q z;go_roundw
    case rel=>exact⟨k+1,Aa,by rw[m.out.1];congr 1;omega,by rw[m.out.2];congr 1;omega,b⟩
    case measure=>simp[intOf];omega
  . obtain rfl:k=c:=by omega
    rw[g.out,Nat.sub_self];have b:=o;rw[i.out] at b;clear o;go_wp2;go_ret;exact⟨_,rfl,b.out.1,b.out.2⟩
section
variable {w:I}{P:Nat->Prop}{d p:AA}{X:XSt}{S:Ab}{N:Ae}{O:Ag}{kk:Nat}{F:Nat->Ab}{bf n sz:Nat}{M:Nat->Option Ab}{Q:Ab}
def wK(w:I)(B:Nat)(v:AA)(a K:Nat):Prop:=
 ∃ c b,v=Aw c (Hd a K) b/\(0<Hd a K->∃ g,c=H ⟨g,0,U⟩/\B<=g/\g<w.heap.size/\∀ k,k<Hd a K->w.cell? ⟨g,k*3,U⟩=H (J Y ((a / 256+k:Nat):Int))/\w.cell? ⟨g,k*3+1,U⟩=H (J Y (((a+Dv a K k)%256:Nat):Int))/\
   w.cell? ⟨g,k*3+2,U⟩=H (J Y (((a+Dv a K k)%256+(Dv a K (k+1)-Dv a K k):Nat):Int)))
def SR.spv{B:Nat}{v:AA}{a K:Nat}(h:SR w B v (fU a K)):wK w B v a K:=by
 by_cases f:0<Hd a K
 . obtain⟨g,c,b,m,o,_,n⟩:=h.cells (by rw[Is];exact f)
   rw[Is] at b;refine⟨_,c,b,fun _=>⟨g,rfl,m,o,fun k i=>?_⟩⟩;have d:=fun j p=>n k (by rw[Is];exact i) j p
   rw[Z9 i] at d;exact⟨d 0 Af,d 1 Af,d 2 Af⟩
 . rcases h.2.2 with⟨b,q⟩| ⟨g,c,l,b,_⟩
   . exact⟨U,0,by rw[b];congr 1;omega,fun e=>absurd e f⟩
   . rw[Is] at b
     exact⟨_,_,b,fun e=>absurd e f⟩
def NZ{a K:Nat}{Z:Int}(j:Z=(K:Int)\/(K=0/\¬ 0<Z))(f:0<K->a<=100000)(d:K<=100000)(w:I):AH Aq 57 #[J Y a,J Y Z] w fun e w'=>∃ v,e=Av v/\wK w' w.heap.size v a K/\AB w.heap.size w w':=by
 by_cases c:0<K
 . obtain rfl:Z=(K:Int):=by omega
   exact(Yr (f c) d w).mono fun e w' ⟨v,he,i,g⟩=>⟨v,he,i.spv,g⟩
 . have b:K=0:=by omega
   subst b;refine(S9 (a:=(a:Int)) (n:=Z) Aa w).mono ?_;rintro e w' ⟨he,rfl⟩;exact⟨_,he,⟨U,0,rfl,fun h=>absurd h (by unfold Hd;rw[AG rfl];omega)⟩,AP _ _⟩
def jn(w:I)(B:Nat):OB w B (Aw U 0 0) []:=⟨EX,Dt w B _ _⟩
def R6(h:Frd w P d p X S N O kk F bf)(ft:Fat X.cur N F n sz M)(h1:1<=n)(BR:n<48){a m:Nat}(ha:(a:Int)<=9223372036854775807)(hm:(m:Int)<=9223372036854775807):
 AH Aq 96 #[Ax (H ⟨bf,0,U⟩),J Y n,J Y a,J Y m] w fun e w'=>∃ v,e=Av (AT #[v,J Y 0])/\OB w' w.heap.size v (JI M a (min m (sz-a)))/\AB w.heap.size w w':=by
 have lM:=ft.sb;obtain⟨K,hK⟩:=nm (min m (sz-a));rw[<- hK];have E:=PC h h1 BR ft.k0;have Ef:=ft.zs;have hx:=h.tab.n.get BR;generalize N.getD n []=x at E Ef hx;obtain⟨kd,ln,b9,d0,d1,d2,d3,d4,d5,d6,d7,d8,d9,mp,rfl⟩:=LY hx;have NN:b9=(sz:Int):=Ef;subst NN;have KF:Hid (AH Aq 56 #[Ax (H ⟨bf,0,U⟩),J Y n] w fun e w'=>e=Av (AT #[BS #[J Y kd,J Y ln,J Y sz,J Y d0,J Y d1,J Y d2,J Y d3,J Y d4,J Y d5,J Y d6,J Y d7,J Y d8,J Y d9,J Y mp],J Y 0])/\AB w.heap.size w w'):=wN E;have KS:=wN (fun V=>NZ (a:=a) (K:=K) (Z:=min (m:Int) ((sz:Int)-(a:Int))) Aa Aa Aa V);have KR:=wN (fun V (hV:AB w.heap.size w V) i (hi:i<138)=>PZ (h.low hV) ft h1 BR hi);have b1:=wN ft.ok;have e1:(0:Int)<=(a:Int):=Aa;have e2:(0:Int)<=(m:Int):=Aa;have e3:Y.wrap ((sz:Int)-(a:Int))=(sz:Int)-(a:Int):=Bz _ Aa;have y:=wN (Tw a K);have a2:Hid (∀ k,k<Hd a K->Dv a K k<K/\Dv a K k<Dv a K (k+1)/\Dv a K (k+1)-Dv a K k=min (256-(a+Dv a K k)%256) (K-Dv a K k)/\(a+Dv a K k) / 256=a / 256+k/\a / 256+k<138/\a+K<=35328):=wN fun k hk=>by
  obtain⟨s1,s2,s3,s4⟩:=JU hk;exact⟨s1,s2,s3,s4,Aa,Aa⟩
 have aY:Hd a K<=1000:=by
  unfold Hd;split <;> omega
 have HZ:Hid (Dv a K 0=0):=wN (L2 a K);have c3:=wN (fun V (hV:AB w.heap.size w V)=>(h.fs.low hV).cell);clear h ft E Ef hx hK;go_enter func96,ntmps96
 go_wp2_with (first
  |(go_at_call 56;refine Ad KF.out ?_;rintro w2 I
    have L:=I.trans ((AF w2 (Ay #[J Y kd,J Y ln,J Y sz,J Y d0,J Y d1,J Y d2,J Y d3,J Y d4,J Y d5,J Y d6,J Y d7,J Y d8,J Y d9,J Y mp] 44)).mono I.size))|(go_at_call 57;refine(KS.out _).mono ?_;rintro e j ⟨v,rfl,b7,a4⟩;obtain⟨ao,c4,rfl,Di⟩:=b7))
 have l:Hid (AB w.heap.size w j):=wN (L.trans (a4.mono L.size));have W:=wN Di;obtain⟨c,hc⟩:=nm (Hd a K);rw[<- hc] at W a2 y aY |-
 have H0:Hid (OB j j.heap.size (Aw U 0 0) (JI M a (Dv a K 0))/\AB j.heap.size j j):=wN ⟨by rw[HZ.out];exact jn _ _,AP _ _⟩;clear I L a4 Di hc;go_loopw [12,42] (fun b i wr=>∃ k:Nat,k<=c/\i=J Y k/\Hid (OB wr j.heap.size b (JI M a (Dv a K k))/\AB j.heap.size j wr)) (fun _ i _=>c-(intOf i).toNat)
 case atStart=>exact⟨0,A7 _,rfl,H0⟩
 case round=>
  obtain⟨k,hk,rfl,z⟩:=hrel;clear H0;by_cases a5:k<c
  . obtain⟨g,rfl,W8,hg,mb⟩:=W.out Aa
    obtain⟨s1,s2,s3,s4,s5,s6⟩:=a2.out k a5;have R:=l.out.trans (z.out.2.mono l.out.size);obtain⟨c0,c1,c2⟩:=mb k a5;have vh:=fun(p:Addr) (hp:p.block<j.heap.size)=>z.out.2.cell hp
    rw[<- vh ⟨g,_,U⟩ hg] at c0 c1 c2;obtain⟨A,hA⟩:=nm (a+Dv a K k);obtain⟨f,hf⟩:=nm (A%256);obtain⟨q,hq⟩:=nm (a / 256+k);obtain⟨s,hs⟩:=nm (Dv a K (k+1)-Dv a K k);obtain⟨t,ht⟩:=nm (f+s);rw[<- hq] at c0;rw[<- hA,<- hf] at c1 c2;rw[<- hs,<- ht] at c2;rw[<- hA,<- hf,<- hs] at s3;have b6:f<256:=Aa;have LZ:0<s:=Aa;have bj:t<=256:=Aa;have WS:f<=t:=Aa;have b5:Hid (t-f=s):=wN Aa;have b3:Hid (JI M a (Dv a K (k+1))=JI M a (Dv a K k) ++ ((Fz M q).drop f).take s):=wN (by
     have e:Dv a K (k+1)=Dv a K k+s:=Aa;rw[e,Uy,Rx b1.out (a:=a+Dv a K k) (i:=q) (o:=f) (n:=s) Aa Aa])
    have a8:Hid (f+s<=256):=wN Aa;have G:=AF wr (Ay #[J Y q,J Y f,J Y t] 127);have a6:(wr.alloc (Ay #[J Y q,J Y f,J Y t] 127)).heap[wr.heap.size]? =H (Ay #[J Y q,J Y f,J Y t] 127 (0,0)):=AC wr _;have b2:=wN (KR.out _ (R.trans (G.mono R.size)) q Aa);have b4:Hid (∀ V,AB (wr.alloc (Ay #[J Y q,J Y f,J Y t] 127)).heap.size (wr.alloc (Ay #[J Y q,J Y f,J Y t] 127)) V->V.cell? ⟨wr.heap.size,1,U⟩=H (J Y f)/\V.cell? ⟨wr.heap.size,2,U⟩=H (J Y t)):=wN fun V hV=>by
     have:=BD a6 hV;exact⟨by rw[AD _ _ _ _ _ _ this];rfl,by rw[AD _ _ _ _ _ _ this];rfl⟩
    have T:=wN G;have b0:=wN z.out.1;have D:=wN z.out.2;have a9:Hid ((JI M a (Dv a K k)).length+(((Fz M q).drop f).take s).length<=140737488355328):=wN (by
     have h1:Dv a K k<=100000:=Aa;have h2:(((Fz M q).drop f).take s).length<=s:=(by rw[AV];exact Nat.min_le_left _ _);rw[FJ];omega)
    have ek:(k:Int)<(c:Int):=Aa;clear s1 s2 s3 s4 s5 s6 R vh hA hf hq hs ht G a6 z mb
    go_wp2_with (first
     |(go_at_call 135;refine b2.out.mono ?_;rintro e w6 ⟨g2,r,T2,b8,rfl,u,Q⟩
       obtain⟨x1,x2⟩:=b4.out _ Q;have vz:=u.cap;have C:Hid (AB wr.heap.size wr w6):=wN (T.out.trans (Q.mono T.out.size));have a7:Hid (BSl w6 (Aw (H ⟨g2,0+f,U⟩) s (r-f)) (((Fz M q).drop f).take s)):=wN (by
        have:=u.bsl;rw[show(256:Nat)=(Fz M q).length from u.len.symm] at this;exact this.mid f s (by rw[u.len];exact a8.out))
       have a0:=wN (b0.out.below C.out);have a3:Hid (j.heap.size<=w6.heap.size):=wN (AU D.out.size C.out.size);clear u Q)|(with_reducible refine D0 rfl (.tmp 59) (.tmp 61) (.tmp 63) rfl g2 0 256 r rfl (f:Int) (t:Int) rfl rfl f t s b5.out rfl rfl WS Aa Aa ?_)
     |(at_builtin
       refine B0 w6 rfl (.tmp 58) (.tmp 64) rfl j.heap.size _ (JI M a (Dv a K k)) rfl a0.out w6 (Aw (H ⟨g2,0+f,U⟩) s (r-f)) (((Fz M q).drop f).take s) rfl a7.out (fun _ _=>rfl) a9.out a3.out ?_;intro v7 w7 B lN _))
    have a1:Hid (OB w7 j.heap.size v7 (JI M a (Dv a K (k+1)))/\AB j.heap.size j w7):=wN ⟨by rw[b3.out];exact B,D.out.trans ((C.out.mono D.out.size).trans lN)⟩;clear B lN;clear x1 x2 vz;have Oo:k+1<=c:=Aa;have c5:c-(k+1)<c-k:=Aa;go_roundw
    case rel=>exact⟨k+1,Oo,by go_num,a1⟩
    case measure=>simp[intOf];omega
  . obtain rfl:k=c:=by omega
    rw[y.out] at z;go_wp2;go_ret2;exact⟨_,rfl,z.out.1.more l.out.size,l.out.trans (z.out.2.mono l.out.size)⟩
end
section
variable {w:I}{P:Nat->Prop}{d p:AA}{X:XSt}{S:Ab}{N:Ae}{O:Ag}{kk:Nat}{F:Nat->Ab}{bf n sz:Nat}{M:Nat->Option Ab}{Q:Ab}
def Flt.size(h:Flt w P d p X S N O kk F bf n sz M Q)(c:1<=n)(a:n<48)(x:Q.length<=36){v:Nat}(hv:v<=35328)(j:CE N n=3->v<=200):
 AH Aq 59 #[Ax (H ⟨bf,0,U⟩),J Y n,J Y v] w fun e w'=>e=Av (J Y 0)/\FlO w P d p X S N O kk F bf n Q v M 0 ob w':=by
 obtain⟨o,r,s,u⟩:=h.ft.size h.md.pl c a hv j;have y:=h.md.pl.tab.n.get a;have l:n<N.length:=by rw[h.md.pl.tab.n.len];exact a
 refine(SW h.md c a (by have:=h.q.le;omega) s).mono ?_;rintro e w' ⟨he,i,k,f⟩;obtain⟨b,g⟩:=h.md.fs.chg f h.md.nb;have m:(N.set n ((N.getD n []).set 2 (v:Int))).getD n []=(N.getD n []).set 2 (v:Int):=by rw[Eb l,AG rfl]
 refine⟨he,i,putI X S N n ((N.getD n []).set 2 (v:Int)),N.set n ((N.getD n []).set 2 (v:Int)),O,F,Q,⟨⟨k,h.md.wi,r,h.md.st,b,g⟩,o,h.q.add h.bs.t rfl,?_,h.rm⟩,u _ rfl ⟨rfl,rfl⟩,fun _ h=>h,AE _,f,trivial⟩;rw[m,Dg Aa,AJ Aa];exact h.bs
end
section
variable {w:I}{P:Nat->Prop}{d p:AA}{X:XSt}{S:Ab}{N:Ae}{O:Ag}{kk:Nat}{F:Nat->Ab}{bf n sz:Nat}{M:Nat->Option Ab}{Q:Ab}
def WrK(w3:I)(P:Nat->Prop)(d p:AA)(X:XSt)(S:Ab)(N:Ae)(O:Ag)(kk:Nat)(F:Nat->Ab)(bf n sz:Nat)(M:Nat->Option Ab)(Q:Ab)(a C:Nat)(l:Ab)(k:Nat)(wr:I):Prop:=
 FlO w3 P d p X S N O kk F bf n Q sz (wrL M a (l.take (Dv a C k))) (2*k) ob wr
def eO{d:Ag}{a b c:Nat->Option Ab}(g:Dz d (64*kk)+Eu M=Dz O (64*kk)+Eu a)(h:Eu b<=Eu c)(f:¬ FB d kk a b):¬ FB O kk M c:=by
 unfold FB at f |-
 omega
def WrK.step{w3 wr V:I}{a C k:Nat}{l:Ab}(h3:Flt w3 P d p X S N O kk F bf n sz M Q)(h:WrK w3 P d p X S N O kk F bf n sz M Q a C l k wr)(Z:1<=n)(T:n<48)(hV:AB wr.heap.size wr V)(hk:k<Hd a C)(hQ:Q.length+2*Hd a C<=34)(hC:C<=l.length)(hx:a+C<=35328)
 (G:Fv l) {u:AA} (hu:BSl w3 u ((l.drop (Dv a C k)).take (C-Dv a C k))) (A:Apt P u):
 (AH Aq 58 #[Ax (H ⟨bf,0,U⟩),J Y n,BS #[J Y ((a / 256+k:Nat):Int),J Y (((a+Dv a C k)%256:Nat):Int),J Y (((a+Dv a C k)%256+(Dv a C (k+1)-Dv a C k):Nat):Int)],u] V fun e w'=>e=Av (J Y 0)/\WrK w3 P d p X S N O kk F bf n sz M Q a C l (k+1) w'/\∀ b,wr.heap.size<=b->b<V.heap.size->w'.heap[b]? =V.heap[b]?)\/
 (AH Aq 58 #[Ax (H ⟨bf,0,U⟩),J Y n,BS #[J Y ((a / 256+k:Nat):Int),J Y (((a+Dv a C k)%256:Nat):Int),J Y (((a+Dv a C k)%256+(Dv a C (k+1)-Dv a C k):Nat):Int)],u] V fun e w'=>e=Av (J Y 13)/\¬ FB O kk M (wrL M a (l.take C))/\FlE w3 P d p X S kk bf w'):=by
 obtain⟨P1,X1,N1,O1,F1,Q1,g,w,c1,d1,z,_⟩:=h;have Ui:=g.md.inv.lt;have f:=g.low hV;have y:=z.trans (Chg.of_below (P:=P1) hV);obtain⟨s1,s2,s3,s4⟩:=JU hk;have Lk:=X6 a C (k+1);have c:=hu.chg A y;obtain⟨D,hD⟩:=nm (Dv a C k);obtain⟨E,hE⟩:=nm (Dv a C (k+1));rw[<- hD] at s1 s2 s3 s4 f hu c |-
 rw[<- hE] at s2 s3 Lk |-
 unfold WrK;rw[<- hE];have j:((l.drop D).take (C-D)).length=C-D:=by rw[AV,By];omega
 have gG:((l.drop D).take (C-D)).take (E-D)=(l.drop D).take (E-D):=by rw[List.take_take,FL Aa]
 have L:(l.take D).length=D:=by rw[AV];omega
 have hM:EQ (wrL M a (l.take D)) (a / 256+k) (splice (Fz (wrL M a (l.take D)) (a / 256+k)) ((a+D)%256) ((l.drop D).take (E-D)))=wrL M a (l.take E):=by
  have e1:l.take E=l.take D ++ (l.drop D).take (E-D):=by
   rw[show E=D+(E-D) from Aa,List.take_add,show D+(E-D)-D=E-D from Aa]
  have e2:((l.drop D).take (E-D)).length=E-D:=by rw[AV,By];omega
  rw[e1,Jh,L,RW _ _ (a+D) (a / 256+k) ((a+D)%256) Aa Aa Aa f.ft.ok (En (L8 G D) _)]
 by_cases K:FB O1 kk (wrL M a (l.take D)) (EQ (wrL M a (l.take D)) (a / 256+k) z256)
 . refine A4 ((PJ f Z T Aa (i:=a / 256+k) (o:=(a+D)%256) (m:=E-D) Aa Aa Aa c.1 c.2 (by rw[j];omega) K).mono ?_)
   rintro e w' ⟨he,ho⟩;rw[gG,hM] at ho;obtain⟨t,v,r,s,q,Q',a2,b2,c2,d2,W,g2⟩:=ho;exact⟨he,⟨t,v,r,s,q,Q',a2,w.trans b2,fun x hx=>c2 x (c1 x hx),Aa,y.trans W,g2⟩,fun b a0 B=>(W.keep b B fun hp=>by have:=Ui b hp;omega).1⟩
 . refine A8 ((PD f Z T Aa (i:=a / 256+k) Aa K).mono ?_)
   rintro e w' ⟨he,t,v,r,s,q,hm,R,hg⟩;refine⟨he,eO (h3.cnt f.ft w) ?_ K,t,v,r,s,q,hm,w.on.trans R,y.trans hg⟩;rw[RY _ _ z256 (splice (Fz (wrL M a (l.take D)) (a / 256+k)) ((a+D)%256) ((l.drop D).take (E-D))),hM];have e3:l.take C=l.take E ++ (l.drop E).take (C-E):=by
    rw[show C=E+(C-E) from Aa,List.take_add,show E+(C-E)-E=C-E from Aa]
   rw[e3,Jh];exact LJ fun i _ h=>VI _ _ _ i h
def wI(w:I)(P:Nat->Prop)(d p:AA)(X:XSt)(S:Ab)(N:Ae)(O:Ag)(kk:Nat)(F:Nat->Ab)(bf n sz:Nat)(M:Nat->Option Ab)(Q:Ab)(a C:Nat)(l:Ab)(e:Ending)(w':I):Prop:=
 (e=Av (AT #[J Y C,J Y 0])/\FB O kk M (wrL M a (l.take C))/\FlO w P d p X S N O kk F bf n Q (if C=0 then sz else max sz (a+C)) (wrL M a (l.take C)) (2*Hd a C) ob w')\/
 (e=Av (AT #[J Y 0,J Y 13])/\¬ FB O kk M (wrL M a (l.take C))/\FlE w P d p X S kk bf w')
def WrK.last{w3:I}{a C:Nat}{l:Ab}(x:Flt w3 P d p X S N O kk F bf n sz M Q){wr:I}(h:WrK w3 P d p X S N O kk F bf n sz M Q a C l (Hd a C) wr)(w:1<=n)(g:n<48)(D:Q.length+2*Hd a C<=34)(z:a+C<=35328)(f:CE N n=3->a+C<=200):
 FB O kk M (wrL M a (l.take C))/\(¬ (0<C/\sz<a+C)->FlO w3 P d p X S N O kk F bf n Q (if C=0 then sz else max sz (a+C)) (wrL M a (l.take C)) (2*Hd a C) ob wr)/\
 (0<C/\sz<a+C->AH Aq 59 #[Ax (H ⟨bf,0,U⟩),J Y n,J Y ((a+C:Nat):Int)] wr fun e w'=>e=Av (J Y 0)/\FlO w3 P d p X S N O kk F bf n Q (if C=0 then sz else max sz (a+C)) (wrL M a (l.take C)) (2*Hd a C) ob w'):=by
 unfold WrK at h;rw[Tw] at h;refine⟨?_,fun E=>?_,fun G=>?_⟩
 . obtain⟨o,r,j,m,i,q,b,c,_⟩:=h
   have A:=x.cnt b.ft c;have B:=b.rm;unfold FB;omega
 . have e:(if C=0 then sz else max sz (a+C))=sz:=by split <;> omega
   rw[e];exact h
 . obtain⟨o,r,j,m,i,q,b,c,s,t,v,_⟩:=h
   refine(b.size w g Aa z (by rw[c.kd];exact f)).mono ?_;rintro e w' ⟨he,y⟩;have u:(if C=0 then sz else max sz (a+C))=a+C:=by rw[AJ Aa];omega
   rw[u];exact⟨he,FlO.then (k:=0) c s t v y⟩
def O8(h:Flt w P d p X S N O kk F bf n sz M Q)(h1:1<=n)(BR:n<48){v:AA}{l:Ab}(hv:BSl w v l)(j:Apt P v){a C:Nat}(hC:C=min l.length 1024)(hl:l.length<=9223372036854775807)(hQ:Q.length+2*Hd a C<=34)(hx:a+C<=35328)(f9:CE N n=3->a+C<=200):
 AH Aq 29 #[Ax (H ⟨bf,0,U⟩),J Y n,J Y a,v] w (wI w P d p X S N O kk F bf n sz M Q a C l):=by
 have a9:=PC h.md.rd h1 BR h.ft.k0;have MZ:=h.md.pl.tab.n.get BR;have Ef:=h.ft.zs;have lM:=h.ft.sb;have HN:Hid (∀ (w3:I),AB w.heap.size w w3->Flt w3 P d p X S N O kk F bf n sz M Q/\BSl w3 v l/\∀ k,P k->k<w.heap.size):=wN fun w3 hb=>⟨h.low hb,hv.below hb,h.md.inv.lt⟩
 have e8:=wN hv.1;obtain⟨ao,z,rfl,CD⟩:=hv.shape;have f6:Hid (0<C->∃ ub uo,ao=H ⟨ub,uo,U⟩):=wN fun h0=>by
  obtain⟨ub,uo,uc,e,_⟩:=hv.open' Aa;exact⟨ub,uo,(Be e).1⟩
 have e7:=wN j;obtain⟨x,Uq⟩:=nm (N.getD n []);rw[<- Uq] at a9 MZ Ef;obtain⟨kd,ln,g1,d0,d1,d2,d3,d4,d5,d6,d7,d8,d9,mp,rfl⟩:=LY MZ;have NN:g1=(sz:Int):=Ef;subst NN;have KF:Hid (AH Aq 56 #[Ax (H ⟨bf,0,U⟩),J Y n] w fun e w'=>e=Av (AT #[BS #[J Y kd,J Y ln,J Y sz,J Y d0,J Y d1,J Y d2,J Y d3,J Y d4,J Y d5,J Y d6,J Y d7,J Y d8,J Y d9,J Y mp],J Y 0])/\AB w.heap.size w w'):=wN a9;have KS:=wN (fun V=>NZ (a:=a) (K:=C) (Z:=(C:Int)) (A4 rfl) Aa Aa V);obtain⟨L,hL⟩:=nm l.length;have HL:=wN hL;have e1:(0:Int)<=(a:Int):=Aa;have e2:min (L:Int) 1024=(C:Int):=Aa;have e3:¬ (35328-(C:Int))<(a:Int):=Aa;have eC:(C:Int)<=1024:=Aa;have eL:(L:Int)<=9223372036854775807:=Aa;have s:Hid (C<=l.length/\C<=L/\C<=1024):=wN Aa;have HX:=wN hx;have HQ:=wN hQ;have g4:(sz:Int)<=35328:=Aa;have b9:Hid (L<=z):=wN Aa;rw[<- hL];clear h hv j a9 MZ Ef Uq hL hC hx hQ CD hl;go_enter func29,ntmps29
 go_wp2_with (first
  |(go_at_call 56;refine Ad KF.out ?_;rintro w2 a4
    have e0:=AC w2 (Ay #[J Y kd,J Y ln,J Y sz,J Y d0,J Y d1,J Y d2,J Y d3,J Y d4,J Y d5,J Y d6,J Y d7,J Y d8,J Y d9,J Y mp] 44);have a5:=a4.trans ((AF w2 (Ay #[J Y kd,J Y ln,J Y sz,J Y d0,J Y d1,J Y d2,J Y d3,J Y d4,J Y d5,J Y d6,J Y d7,J Y d8,J Y d9,J Y mp] 44)).mono a4.size);have g0:=a4.size)|(go_at_call 57;refine(KS.out _).mono ?_;rintro e o ⟨sv,rfl,a7,b2⟩;obtain⟨so,g5,rfl,Di⟩:=a7))
 have B:=a5.trans (b2.mono a5.size);obtain⟨a6,a7,b0⟩:=HN.out o B;have b6:=BD e0 b2;have f3:Hid (∀ wr y,Chg P y o wr->wr.cell? ⟨w2.heap.size,2,U⟩=H (J Y sz)):=wN fun wr y hg=>by
  have:=(hg.keep w2.heap.size (Au.1 b6).1 fun hp=>by have:=b0 _ hp;omega).1.trans b6;rw[AD _ _ _ _ _ _ this];rfl
 have c3:Hid (∀ wr y,Chg P y o wr->0<Hd a C->∃ g,so=H ⟨g,0,U⟩/\∀ k,k<Hd a C->wr.cell? ⟨g,k*3,U⟩=H (J Y ((a / 256+k:Nat):Int))/\wr.cell? ⟨g,k*3+1,U⟩=H (J Y (((a+Dv a C k)%256:Nat):Int))/\
  wr.cell? ⟨g,k*3+2,U⟩=H (J Y (((a+Dv a C k)%256+(Dv a C (k+1)-Dv a C k):Nat):Int))):=wN fun wr y hg h0=>by
  obtain⟨g,e,W8,MW,hc⟩:=Di h0;have b4:¬ P g:=fun hp=>by have:=b0 _ hp;have:=a5.size;omega
  refine⟨g,e,fun k hk=>?_⟩;obtain⟨a0,a1,a2⟩:=hc k hk;exact⟨(hg.cell MW b4).trans a0,(hg.cell MW b4).trans a1,(hg.cell MW b4).trans a2⟩
 have H0:Hid (WrK o P d p X S N O kk F bf n sz M Q a C l 0 o):=wN (by
  unfold WrK;rw[L2,List.take_zero];exact a6.here trivial)
 have c9:=wN (fun wr V k (h:WrK o P d p X S N O kk F bf n sz M Q a C l k wr) (hV:AB wr.heap.size wr V) (hk:k<Hd a C) u (hu:BSl o u ((l.drop (Dv a C k)).take (C-Dv a C k))) (j:Apt P u)=>WrK.step a6 h h1 BR hV hk HQ.out s.out.1 HX.out e8.out hu j);have c8:=wN (fun wr (h:WrK o P d p X S N O kk F bf n sz M Q a C l (Hd a C) wr)=>WrK.last a6 h h1 BR HQ.out HX.out f9);have c5:Hid (∀ wr k,WrK o P d p X S N O kk F bf n sz M Q a C l k wr->∃ y,Chg P y o wr):=wN fun wr k ⟨y,X1,N1,O1,F1,Q1,a1,b1,c1,d1,f1,_⟩=>⟨y,f1⟩
 have g6:Hid (∀ wr b8 k,AB wr.heap.size wr b8->WrK o P d p X S N O kk F bf n sz M Q a C l k wr->WrK o P d p X S N O kk F bf n sz M Q a C l k b8):=wN fun wr b8 k hb ⟨y,X1,N1,O1,F1,Q1,a1,b1,c1,d1,f1,r1⟩=>⟨y,X1,N1,O1,F1,Q1,a1.low hb,b1,c1,d1,f1.trans (Chg.of_below hb),r1⟩
 have T:Hid (AB w.heap.size w o):=wN B;have f7:=wN a7;have f2:=wN (L2 a C);have c4:=wN (fun k (hk:k<Hd a C)=>JU hk);have f0:=wN (fun k=>X6 a C k);have c6:Hid (0<Hd a C->0<C):=wN fun h=>by
  have:=(JU h).1;omega
 obtain⟨c,hc⟩:=nm (Hd a C);rw[<- hc] at c3 c9 c8 c4 c6 |-
 have R:=wN hc;have e9:Hid (c<=1000):=wN (by
  rw[hc];unfold Hd;have:=s.out;split <;> omega)
 clear a4 a5 b2 B a6 a7 b0 e0 b6 Di g0 hc h1 BR;go_loopw [13,40] (fun st i wr=>∃ k:Nat,k<=c/\i=J Y k/\st=J Y ((Dv a C k:Nat):Int)/\Hid (WrK o P d p X S N O kk F bf n sz M Q a C l k wr)) (fun _ i _=>c-(intOf i).toNat)
 case atStart=>exact⟨0,A7 _,rfl,by rw[f2.out];rfl,H0⟩
 case round=>
  obtain⟨k,hk,rfl,rfl,HS⟩:=hrel;clear H0;by_cases b5:k<c
  . obtain⟨y,G⟩:=c5.out _ _ HS.out
    obtain⟨g,rfl,mb⟩:=c3.out _ _ G Aa;obtain⟨c0,c1,c2⟩:=mb k b5;obtain⟨s1,s2,s3,s4⟩:=c4.out k b5;obtain⟨ub,uo,rfl⟩:=f6.out (c6.out Aa);have qk:=f0.out (k+1);have b3:=AF wr (Ay #[J Y ((a / 256+k:Nat):Int),J Y (((a+Dv a C k)%256:Nat):Int),J Y (((a+Dv a C k)%256+(Dv a C (k+1)-Dv a C k):Nat):Int)] 127);have hu:BSl o (Aw (H ⟨ub,uo+Dv a C k,U⟩) (C-Dv a C k) (z-Dv a C k)) ((l.drop (Dv a C k)).take (C-Dv a C k)):=by
     have h1:=f7.out;exact h1.mid _ _ (by have:=s.out;omega)
    have j:Apt P (Aw (H ⟨ub,uo+Dv a C k,U⟩) (C-Dv a C k) (z-Dv a C k)):=Apt.new (e7.out _ _ _ rfl (by have:=s.out;omega));have m:=c9.out wr _ k HS.out (b3.trans ((AP _ _).drew.mono b3.size)) b5 _ hu j;have A:=AC wr (Ay #[J Y ((a / 256+k:Nat):Int),J Y (((a+Dv a C k)%256:Nat):Int),J Y (((a+Dv a C k)%256+(Dv a C (k+1)-Dv a C k):Nat):Int)] 127);have b:Hid (Dv a C (k+1)=Dv a C k+(Dv a C (k+1)-Dv a C k)):=wN Aa;have e4:=s.out.2.2;have g9:=s.out.2.1;have g8:=b9.out;have g2:=R;obtain⟨D,hD⟩:=nm (Dv a C k);obtain⟨E,hE⟩:=nm (Dv a C (k+1));rw[<- hD] at c1 c2 s1 s2 s3 hu m A b |-
    rw[<- hE] at c2 s2 s3 qk m A b;have HD:=wN hD;have HE:=wN hE;obtain⟨f,hf⟩:=nm ((a+D)%256);obtain⟨q,hq⟩:=nm (a / 256+k);rw[<- hf] at c1 c2 m A;rw[<- hq] at c0 m A;obtain⟨t,ht⟩:=nm (f+(E-D));rw[<- ht] at c2 m A;obtain⟨W5,a3⟩:=nm (wr.alloc (Ay #[J Y q,J Y f,J Y t] 127));have vC:W5.heap.size=wr.heap.size+1:=(by rw[a3];simp);have c7:=wN vC;have H5:=wN a3.symm;rw[<- a3] at m A;have f4:=wN A;have y0:W5.cell? ⟨wr.heap.size,0,U⟩=H (J Y q):=(by rw[AD _ _ _ _ _ _ A];rfl);have y1:W5.cell? ⟨wr.heap.size,1,U⟩=H (J Y f):=(by rw[AD _ _ _ _ _ _ A];rfl);have y2:W5.cell? ⟨wr.heap.size,2,U⟩=H (J Y t):=(by rw[AD _ _ _ _ _ _ A];rfl);clear a3 vC;have HT:Hid (t-f=E-D/\f<=t/\t<=256):=wN Aa;have h2:∀ W,(Instr.slice 77 (Aw (H ⟨ub,uo,U⟩) L z) (H (J Y D)) (H (J Y C)) U).run Aq W=.ok (Aw (H ⟨ub,uo+D,U⟩) (C-D) (z-D)) W:=fun W=>F9 W ub uo L z D C _ (A8 rfl) Aa Aa Aa
    have ek:(k:Int)<(c:Int):=Aa;have WS:f<=t:=Aa;have uA:t<=256:=Aa;have g7:D<=1024:=Aa;clear s1 s2 s3 s4 qk hu j hD hE hf hq ht mb G HS b3 A;have g3:=e9.out;rcases m with hA|hB
    . have HA:=wN hA
      clear hA;go_wp2;rw[H5.out];go_still_tail 7,Ac
      go_wp2_with (go_at_call 58;refine Ad HA.out ?_;rintro w6 ⟨h6,qz⟩
                   have f5:=wN h6;have b7:w6.heap[wr.heap.size]? =H (Ay #[J Y q,J Y f,J Y t] 127 (0,0)):=(qz _ (AE _) (by show _<W5.heap.size;have:=c7.out;omega)).trans f4.out;have x1:w6.cell? ⟨wr.heap.size,1,U⟩=H (J Y f):=(by rw[AD _ _ _ _ _ _ b7];rfl);have x2:w6.cell? ⟨wr.heap.size,2,U⟩=H (J Y t):=(by rw[AD _ _ _ _ _ _ b7];rfl);clear h6 qz b7)
      clear x1 x2;have Oo:k+1<=c:=Aa;go_roundw
      case rel=>exact⟨k+1,Oo,by go_num,by rw[<- HE.out,b.out,<- HT.out.1];go_num,f5⟩
      case measure=>simp[intOf];omega
    . have HB:=wN hB
      clear hB;go_wp2;rw[H5.out];go_still_tail 7,Ac
      go_wp2_with (go_at_call 58;refine Ad HB.out ?_;rintro w6 ⟨ZL,h6⟩)
      go_ret2;exact A8 ⟨rfl,ZL,h6.widen T.out⟩
  . obtain rfl:k=c:=by omega
    obtain⟨y,G⟩:=c5.out _ _ HS.out;have cn:=f3.out _ _ G;obtain⟨GY,C3,r⟩:=c8.out _ HS.out;have HF:=wN GY;clear GY G;by_cases vE:0<C
    . have f8:(0:Int)<(C:Int):=by omega
      by_cases gN:sz<a+C
      . have KZ:=wN (r ⟨vE,gN⟩)
        have e5:(sz:Int)<(a:Int)+(C:Int):=Aa;have e6:(((a+C:Nat):Nat):Int)=(a:Int)+(C:Int):=Aa;rw[e6] at KZ;clear C3 r vE gN e6;go_wp2_with (go_at_call 59;refine Ad KZ.out ?_;rintro w7 h7)
        go_ret2;exact A4 ⟨rfl,HF.out,by have h8:=h7.widen T.out;rw[R.out] at h8;exact h8⟩
      . have a8:=wN (C3 (fun e=>gN e.2))
        have e5:¬ (sz:Int)<(a:Int)+(C:Int):=Aa;clear C3 r vE gN;go_wp2;go_ret2;exact A4 ⟨rfl,HF.out,by have h8:=a8.out.widen T.out;rw[R.out] at h8;exact h8⟩
    . have a8:=wN (C3 (fun e=>vE e.1))
      have f8:¬ (0:Int)<(C:Int):=Aa;clear C3 r vE;go_wp2;go_ret2;exact A4 ⟨rfl,HF.out,by have h8:=a8.out.widen T.out;rw[R.out] at h8;exact h8⟩
end
def nM{M:Nat->Option Ab}(a:Nat)(v:Int):FO (Gx (wr1 M a v)) 138+(if (M (a / 256)).isSome=AQ then 1 else 0)<=FO (Gx M) 138+1:=by
 by_cases h:(M (a / 256)).isSome=AQ
 . rw[AG h]
   have:=Hc (f:=Gx (wr1 M a v)) (g:=Gx M) 138 fun i _=>by
    rw[keyB_ne,keyB_ne];unfold wr1;by_cases e:i=a / 256
    . subst e;rw[Fj];exact⟨fun _=>h,fun _=>rfl⟩
    . rw[Ej _ e]
   omega
 . rw[AJ h]
   by_cases c:a / 256<138
   . have:=Lc (f:=Gx M) (g:=Gx (wr1 M a v)) (i:=a / 256) (by unfold Gx;rw[AJ h]) (by rw[keyB_ne];unfold wr1;rw[Fj];rfl) 138 c fun j _ b=>by
      rw[keyB_ne,keyB_ne];unfold wr1;rw[Ej _ b]
     omega
   . have:=Hc (f:=Gx (wr1 M a v)) (g:=Gx M) 138 fun i d=>by
      rw[keyB_ne,keyB_ne];unfold wr1;rw[Ej _ Aa]
     omega
def az:∀ (l:Ab) (M:Nat->Option Ab) (a:Nat),0<l.length->FO (Gx (wrL M a l)) 138+(if (M (a / 256)).isSome=AQ then 1 else 0)<=FO (Gx M) 138+Hd a l.length
 |[],_,_,h=>absurd h (Nat.lt_irrefl 0)
 |v :: l,M,a,_=>by
  have n:=nM (M:=M) a v;have m:(wr1 M a v (a / 256)).isSome=AQ:=by unfold wr1;rw[Fj];rfl
  have j:Hd a (v :: l).length=(a%256+(l.length+1)+255) / 256:=by unfold Hd;rw[BJ,AJ Aa]
  rw[j];show FO (Gx (wrL (wr1 M a v) (a+1) l)) 138+_<=_
  by_cases i:0<l.length
  . have b:=az l (wr1 M a v) (a+1) i
    have k:Hd (a+1) l.length=((a+1)%256+l.length+255) / 256:=(by unfold Hd;rw[AJ Aa]);rw[k] at b;by_cases c:a%256=255
    . have d:(a+1)%256=0:=by omega
      rw[d] at b;rw[c];have f:(255+(l.length+1)+255) / 256=1+(0+l.length+255) / 256:=Aa;rw[f];omega
    . have g:(a+1) / 256=a / 256:=by omega
      rw[g,AG m] at b;have d:(a+1)%256=a%256+1:=Aa;rw[d] at b;have f:a%256+1+l.length+255=a%256+(l.length+1)+255:=Aa;rw[f] at b;omega
  . obtain rfl:l=[]:=A3 Aa
    show FO (Gx (wr1 M a v)) 138+_<=_
    have:(a%256+([]:Ab).length+1+255) / 256=1:=Ak;simp only[List.length_nil] at this |-
    omega
section
variable {w0 w:I}{d p:AA}{kk bf n sz m sm:Nat}{M Mm:Nat->Option Ab}{P:Nat->Prop}
structure FarF (w0:I) (P:Nat->Prop) (bf:Nat) (Z:Nat->Prop):Prop where
 hi:∀ x,Z x->w0.heap.size<=x
 ap:∀ x,P x->¬ Z x
 nf:¬ Z bf
end
end
section
open Go.RowKit Go.Maps
def ZZ(v:AA):Option (DataW Unit × List MemPlace):=match v with |.string s=>H (.lit (.string s.data.toList),[])|_=>U
def kr(s:ByteArray):ZZ (.string s)=H (.lit (.string s.data.toList),[]):=rfl
def Sq{v:AA}{y:DataW Unit × List MemPlace}(h:ZZ v=H y):∃ s:ByteArray,v=.string s/\y=(.lit (.string s.data.toList),[]):=by
 unfold ZZ at h;split at h
 . exact⟨_,rfl,(Bc h).symm⟩
 . cases h
def mQ{v v':AA}{d:DataW Unit}{ps b:List MemPlace}(h:ZZ v=H (d,ps))(f:ZZ v'=H (d,b)):v=v':=by
 obtain⟨s,rfl,e⟩:=Sq h;obtain⟨g,rfl,c⟩:=Sq f;have a:=(D4 e).1.symm.trans (D4 c).1;simp only[DataW.lit.injEq,Lit.string.injEq] at a;obtain⟨⟨l⟩⟩:=s;obtain⟨⟨i⟩⟩:=g;simp only at a;rw[a]
def MpC(w:I)(b:Nat)(N:Ab)(g:Int->AA):Prop:=
 ∃ D:DataW Unit,w.ownsMap Aq 3 ZZ b N.length D/\N.Nodup/\(∀ x∈N,(Lit.int Y x).wf=AQ)/\(∀ x,Maps.has D (.int Y x)=decide (x∈N))/\∀ x∈N,∃ d,ZZ (g x)=H (d,[])/\∀ z,D.atKey (.int Y x) z=d
def mS:(Aq.info? 9).map (fun i=>(i.zero,i.size,i.bytes))=H (H (.string ⟨#[]⟩),1,16):=Ac
def o3(w:I):(zeroValue 9).run Aq w=.ok (.string ⟨#[]⟩) w:=by
 obtain⟨t,a,b,_⟩:=Bs mS;simp[zeroValue,typeInfo,a,b,Result.andThen]
def VF{w:I}{b n:Nat}{D:DataW Unit}(h:w.ownsMap Aq 3 ZZ b n D):w.ownsMap Aq 3 ZZ b (Maps.size D) D:=by
 obtain⟨c,a,d,F,f,rfl⟩:=h;exact⟨c,a,d,F,Nat.le_of_eq (by unfold Maps.size;exact(length_read c).symm),rfl⟩
def YO{w:I}{b n:Nat}{D:DataW Unit}(h:w.ownsMap Aq 3 ZZ b n D){N:Ab}(i:N.Nodup)(j:∀ x,Maps.has D (.int Y x)=decide (x∈N)):N.Perm (intKeys D)/\Maps.size D=N.length:=by
 obtain⟨c,rfl,m,_⟩:=h.entries iKeyed;have l:∀ p∈c,∃ x,p.1=.int Y x:=fun p d=>by
  obtain⟨g,f,_,k⟩:=h.canonK iKeyed;cases f
  obtain⟨v,o⟩:=k p d;obtain⟨x,_,e,_⟩:=Maps.keyOf_i64 underlying3 o;exact⟨x,e⟩
 have a:=perm_intKeys m l i (fun x=>by rw[j x,Bh]);refine⟨a,?_⟩;have:=a.length_eq;rw[this];show c.length=(c.map fun p=>_root_.Go.intOf p.1).length
 rw[Bn]
def iz{w:I}{b n:Nat}{D:DataW Unit}(h:w.ownsMap Aq 3 ZZ b n D){N:Ab}{g:Int->AA}(c:N.Nodup)(j:∀ x∈N,(Lit.int Y x).wf=AQ)(f:∀ x,Maps.has D (.int Y x)=decide (x∈N))(i:∀ x∈N,∃ d,ZZ (g x)=H (d,[])/\∀ z,D.atKey (.int Y x) z=d):MpC w b N g:=by
 obtain⟨_,e⟩:=YO h c f;have a:=VF h;rw[e] at a;exact⟨D,a,c,j,f,i⟩
section
variable {w:I}{b:Nat}{N:Ab}{g:Int->AA}
def MpC.lt(h:MpC w b N g):b<w.heap.size:=by
 obtain⟨D,h,_⟩:=h;exact h.lt
def MpC.keep{w':I}(h:MpC w b N g)(f:w'.heap[b]? =w.heap[b]?):MpC w' b N g:=by
 obtain⟨D,⟨c,a,d,r⟩,i⟩:=h;exact⟨D,⟨c,a,f.trans d,r⟩,i⟩
def MpC.not_cells(h:MpC w b N g){k:Nat}{cs:Array AA}{T:Cn}{z:Nat × Nat}(d:w.heap[k]? =H (Ay cs T z)):b≠k:=fun e=>by
 obtain⟨D,⟨f,a,c,_⟩,_⟩:=h;rw[e,d] at c;cases c
def MpC.nodup(h:MpC w b N g):N.Nodup:=by obtain⟨_,_,h,_⟩:=h;exact h
def MpC.made(w:I)(g:Int->AA):MpC (w.alloc (.map #[] 0)) w.heap.size [] g:=
 ⟨.map [],I.ownsMap_made w _ _ _,List.nodup_nil,fun x a=>absurd a Bu,fun x=>rfl,fun x a=>absurd a Bu⟩
def MpC.look_ok(h:MpC w b N g){x:Int}(s:(Lit.int Y x).wf=AQ):(Instr.lookup 60 (.map (H b)) (.int Y x) AQ).run Aq w=.ok (AT #[if x∈N then g x else .string ⟨#[]⟩,.bool (decide (x∈N))]) w:=by
 obtain⟨D,⟨v,j,r,F,C,rfl⟩,z,A,q,n⟩:=h;rcases Maps.fit_look AQ iKeyed underlying60 (o3 w) r F (Zc s) with⟨i,u,c⟩| ⟨p,y,E,B,i,t,c,_⟩
 . have a:x ∉ N:=fun l=>by
    obtain⟨d,o,f⟩:=n x l;have k:=(c .nil).symm.trans (f .nil);have m:=(c (.lit (.bool AQ))).symm.trans (f (.lit (.bool AQ)));rw[<- k] at m;cases m
   rw[AJ a,AM a];exact i
 . have a:x∈N:=by
    have:=q x;rw[Maps.has_true_of_atKey c] at this;exact Ba this.symm
   rw[AG a,AK a];obtain⟨d,o,f⟩:=n x a;have k:y.1=d:=(c .nil).symm.trans (f .nil);have:p.val=g x:=mQ (ps:=y.2) (by rw[t,<- k]) o;rw[<- this];exact i
def MpC.store(h:MpC w b N g){x:Int}(q:(Lit.int Y x).wf=AQ){v:AA}{d:DataW Unit}(hv:ZZ v=H (d,[]))(M:N.length<1000000):
 ∃ w',(Instr.mapUpdate 60 (.map (H b)) (.int Y x) v).run Aq w=.ok () w'/\MpC w' b (D9 N x) (fun y=>if y=x then v else g y)/\w.grownBy w' (H b)/\w'.heap.size=w.heap.size:=by
 obtain⟨D,s,t,u,F,G⟩:=h;have p:N.length<maxLen:=by simp only[maxLen];omega
 have C:=s.isMap;have j:WideAt.IsKeyLit (.int Y x):=iKeyed.key (Zc q);obtain⟨w',k,m,J,L⟩:∃ w',(Instr.mapUpdate 60 (.map (H b)) (.int Y x) v).run Aq w=.ok () w'/\w'.ownsMap Aq 3 ZZ b (N.length+1) (D.put (.int Y x) d)/\w.grownBy w' (H b)/\w'.heap.size=w.heap.size:=by
  obtain⟨w',k,m,A⟩:=s.store iKeyed underlying60 p (Zc q) hv;exact⟨w',k,m,A.grown,by obtain⟨_,_,_,_,_,rfl⟩:=A;simp[ChangeMaps.setBlock]⟩
 refine⟨w',k,iz m ?_ ?_ ?_ ?_,J,L⟩
 . unfold D9
   split
   . exact t
   . rename_i K
     exact List.nodup_append.2 ⟨t,Ai,fun a I c B e=>K (by simp at B;rw[<- B,<- e];exact I)⟩
 . intro y f
   unfold D9 at f;split at f
   . exact u y f
   . rcases BU.1 f with f|f
     . exact u y f
     . simp at f;subst f;exact q
 . intro y
   have i:y∈D9 N x ↔ y∈N\/y=x:=by
    unfold D9;split
    . exact⟨A4,fun h=>h.elim id fun e=>by rw[e];assumption⟩
    . simp
   by_cases e:y=x
   . subst e
     rw[Maps.has_put_same C j,AK (i.2 (A8 rfl))]
   . rw[Maps.has_put_other (fun l=>e (by cases l;rfl)),F y]
     exact decide_eq_decide.2 ⟨fun h=>i.2 (A4 h),fun h=>(i.1 h).resolve_right e⟩
 . intro y f
   by_cases e:y=x
   . subst e
     exact⟨d,by rw[AG rfl];exact hv,fun z=>Maps.atKey_put_same C j d z⟩
   . have r:y∈N:=by
      unfold D9 at f;split at f
      . exact f
      . exact(BU.1 f).resolve_right fun h=>e (by simpa using h)
     obtain⟨E,o,n⟩:=G y r;exact⟨E,by rw[AJ e];exact o,fun z=>by rw[Maps.atKey_put_other (fun l=>e (by cases l;rfl))];exact n z⟩
end
end
end Go.Proofs.YtfpdajplfmakhaaGreatDoor
