/- What the law rests on. -/
import Derived.Test.YtfpdajplfmakhaaGreatDoorQD9
open Go.Value renaming int->J,slice->Aw,pointer->C,tuple->AT,agg->BS
open Go.IntKind renaming i64->H
open Go.Proofs.Tryz renaming prog->Aq
open Option renaming none->T,some->I
open Go renaming World->z,Value->AA,Calls->AH,Oper->BK
open Go.Ending renaming returned->s
open Go.Obj renaming cells->Ay
open Go.RowKit renaming Below->AB
open List renaming replicate->AI,length_cons->BJ
open Bool renaming false->AN,true->AQ
open Array renaming replicate->AW
open Or renaming inl->A4,inr->A8
open Int renaming toNat_natCast->Cf
open Go.Proofs.Tryz
namespace Go.Proofs.YtfpdajplfmakhaaGreatDoor
set_option linter.defProp false
set_option maxHeartbeats 12000000
set_option linter.unusedVariables false
set_option maxRecDepth 100000
theorem BA:type_of% @List.mem_append_left:=@List.mem_append_left
theorem Cz:type_of% @List.mem_append_right:=@List.mem_append_right
theorem NK:type_of% @Go.wpAnyH_take:=@Go.wpAnyH_take
section
open Go.RowKit BM
section
variable {w:z}{P:Nat->Prop}{d p:AA}{X:XSt}{O D:Ag}{k:Nat}
def Y0(h:SInv w P d p X)(hw:X.wi=AQ)(D:X.put.length<=35)(Q:Has X.call O k)(E:OOk O k){a m:Nat}(C:1<=m)(Z:m<=a)(o4:a<=k)(g:Int){i j:Int}(hi:0<=i/\i<=65535)(Y:0<=j/\j<=65535)(hf:Gu i j=AQ)(h0:i≠0)(N:i≠65535){f:Nat}
 (hc:(Dz O (64*a):Int)<62*(m:Int)-42) (ug:f<64*m) (B:G4 O (64*m) (GZ (64*m) g)=f) (Kl:CZ (f:Int)=AN):
 AH Aq 202 #[p,J H (64*(a:Int)),J H (64*(m:Int)),J H g,BS #[J .u16 i,J .u16 j]] w fun e w'=>e=s (AT #[J H f,J H 0])/\∃ t,SInv w' t d p (OC X (f / 64) (FI (O.set f (i,j)) (f / 64)))/\Chg P t w w':=by
 have M:=E.k12;have JG:X.cur=X.call:=by unfold XSt.cur;rw[AG hw]
 have u:Has X.cur O k:=by rw[JG];exact Q
 have K:=wN (pG h u E C Z o4 g hi Y hf h0);have G:=wN (fun(W:z) (F:AB (w.alloc (Ay #[J .u16 i,J .u16 j] 200)).heap.size (w.alloc (Ay #[J .u16 i,J .u16 j] 200)) W)=>show W.cell? ⟨w.heap.size,0,T⟩=I (J .u16 i)/\W.cell? ⟨w.heap.size,1,T⟩=I (J .u16 j) from⟨AD _ _ _ _ _ _ (BD (AC w _) F),AD _ _ _ _ _ _ (BD (AC w _) F)⟩);have r:=wN (AF w (Ay #[J .u16 i,J .u16 j] 200));have r9:(i==65535)=AN:=by simpa using N
 have a0:¬ (64*(a:Int)<64*(m:Int)):=Aa;obtain⟨U,R⟩:=nm (Dz O (64*a));have KU:Hid (∀ W:z,AB w.heap.size w W->AH Aq 215 #[p,J H (64*(a:Int))] W fun e w'=>e=s (AT #[J H U,J H 0])/\AB W.heap.size W w'):=wN (by rw[R];exact K.out.us);have L:Hid (∀ W:z,AB w.heap.size w W->AH Aq 217 #[p,J H (64*(m:Int)),J H g] W fun e w'=>e=s (AT #[J H f,J H 0])/\AB W.heap.size W w'):=wN (by rw[<- B];exact K.out.fi);have KS:Hid (∀ W:z,AB w.heap.size w W->AH Aq 218 #[p,J H f,BS #[J .u16 i,J .u16 j]] W fun e w'=>e=s (J H 0)/\∃ t,SInv w' t d p (OC X (f / 64) (FI (O.set f (i,j)) (f / 64)))/\Chg P t W w'):=wN fun W F=>b8 (h.low F) hw D Q E Aa Kl hi Y hf N
 rw[<- R] at hc;have a5:¬ (62*(m:Int)-42<=(U:Int)):=Aa;clear h hw D Q u JG E hi Y hf h0 N R C o4 M ug B Kl;go_enter func202,ntmps202
 go_wp2_with (first|(go_at_call 205;(with_reducible refine Ad (K.out.f1 _) ?_);rintro w' rfl)|(go_at_call 205;(with_reducible refine Ad (K.out.f2 _) ?_);rintro w' rfl)|(go_at_call 213;refine Ad (K.out.fr _) ?_;rintro w2 n;obtain⟨c0,c1⟩:=G.out _ n;have o:=r.out.trans (n.mono r.out.size))|(go_at_call 214;refine Ad (K.out.fo _) ?_;rintro w3 x;have l:=n.trans (x.mono n.size);obtain⟨a1,a2⟩:=G.out _ l;have b:=o.trans (x.mono o.size))|(go_at_call 215;refine Ad (KU.out _ b) ?_;rintro w4 y;have q:=l.trans (y.mono l.size);have c:=b.trans (y.mono b.size))|(go_at_call 216;refine Ad (K.out.op _) ?_;rintro w' rfl)|(go_at_call 217;refine Ad (L.out _ c) ?_;rintro w5 A;have v:=q.trans (A.mono q.size);obtain⟨a3,a4⟩:=G.out _ v;have gp:=c.trans (A.mono c.size))|(go_at_call 218;refine Ad (KS.out _ gp) ?_;rintro w6 ⟨P6,V,S⟩))
 go_ret2;exact⟨rfl,P6,V,(Chg.of_below gp).trans S⟩
end
end
section
open Go.RowKit
def U0(G:Ae)(n:Nat):Nat->Ae
 |0=>AI n zb
 |k+1=>if (G.getD k []).length=256 then (U0 G n k).set k (G.getD k []) else U0 G n k
def Fc(G:Ae)(n:Nat):∀ k,(U0 G n k).length=n
 |0=>Bg
 |k+1=>by unfold U0;split;· rw[AR];exact Fc G n k
          . exact Fc G n k
def Mz(G:Ae)(n:Nat):∀ k i,i<n->k<=n->(U0 G n k).getD i []=if i<k/\(G.getD i []).length=256 then G.getD i [] else zb
 |0,i,hi,_=>by rw[AJ Aa];unfold U0;rw[Az,CA,AG hi];rfl
 |k+1,i,hi,hk=>by
  have c:=Mz G n k i hi Aa;have d:=Fc G n k;unfold U0;by_cases h:(G.getD k []).length=256
  . rw[AG h,BM.getD_set _ _ _ _ _ Aa,c]
    by_cases e:i=k
    . rw[AG e,e,AG ⟨Aa,h⟩]
    . rw[AJ e]
      by_cases a:i<k/\(G.getD i []).length=256
      . rw[AG a,AG ⟨Aa,a.2⟩]
      . rw[AJ a,AJ (fun b=>a ⟨Aa,b.2⟩)]
  . rw[AJ h,c]
    by_cases a:i<k/\(G.getD i []).length=256
    . rw[AG a,AG ⟨Aa,a.2⟩]
    . rw[AJ a,AJ (fun b=>?_)]
      by_cases e:i=k
      . rw[e] at b;exact h b.2
      . exact a ⟨Aa,b.2⟩
def fC(g:Int)(L:List Bool)(h:L.length=64):(Gz g L).length=256:=by rw[Gz];exact Dp _ (by rw[Mi _ _ h];decide)
def mV{G:Ae}{O:Ag}{kk:Nat}(h:P2 G O kk kk)(d:O.length=64*kk):Has (U0 G (64*kk) (64*kk)) O kk:=by
 refine⟨Fc _ _ _,fun g a=>?_,fun g a=>?_⟩
 . have c:=Jl a
   have b:=(h.ds g a).1;rw[Mz _ _ _ _ Aa (AE _),AG ⟨Aa,by rw[b];exact fC _ _ (EL _ _)⟩,b]
 . have c:=Jl a
   have b:=(h.ds g a).2;rw[Mz _ _ _ _ Aa (AE _),AG ⟨Aa,by rw[b];exact Jf (FP d a)⟩,b]
def oz{G:Ae}{kk:Nat}(h:New3 G kk)(b:1<=kk)(c:kk<=12):Tab (U0 G (64*kk) (64*kk)) (Ed kk) newN:=by
 have e:∀ i,i<64->(G.getD i []).length=256->(U0 G (64*kk) (64*kk)).getD i []=G.getD i []:=fun i f d=>by
  rw[Mz _ _ _ _ Aa (AE _),AG ⟨Aa,d⟩]
 refine New3.tab ⟨fun t a=>?_,?_,?_⟩ b c (Fc _ _ _)
 . rw[e _ Aa (by rw[h.t t a];exact Qc _)];exact h.t t a
 . rw[e _ Af (by rw[h.g0];exact Wu)];exact h.g0
 . rw[e _ Af (by rw[h.g63];exact Wu)];exact h.g63
def nA{G:Ae}{O:Ag}{kk:Nat}(h:P2 G O kk kk)(a:1<=kk):Jst (64*kk) (U0 G (64*kk) (64*kk)) (U0 G (64*kk) (64*kk)):=by
 refine⟨Fc _ _ _,Fc _ _ _,A8 ⟨rfl,?_,fun _ _ _=>rfl⟩⟩;rw[Mz _ _ _ _ Aa (AE _),h.jr 42 Af Af];split <;> rfl
def BBa.cellAt{w:z}{P:Nat->Prop}{g n cap k:Nat}{L:Ae}(h:BBa w P (Aw (I ⟨g,0,T⟩) n cap) L)(i:k<L.length):∃ u,w.cell? ⟨g,k,T⟩=I u/\BSl w u (L.getD k []):=by
 rcases h with⟨e,_⟩| ⟨a,b,e,_,f⟩
 . cases e
 . injection e with e1 _ _
   injection e1 with e1
   subst e1;obtain⟨_,_,u,c,d,_⟩:=f k i;exact⟨u,by simpa using c,d⟩
def Zt{kk:Nat}(U:1<=kk)(h2:kk<=12)(w:z):AH Aq 15 #[J H (64*(kk:Int)),J H (64*(kk:Int))] w fun e w'=>∃ b P d G ds,e=s (C (I ⟨b,0,T⟩))/\SInv w' P d (C (I ⟨b,0,T⟩)) ⟨G,G,[],[],AN,0,ds⟩/\ds.fu=AN/\Has G (Gv kk) kk/\Tab G (Ed kk) newN/\(∀ x,P x->w.heap.size<=x)/\AB w.heap.size w w':=by
 have R:=wN (fun(W:z)=>wE W (64*kk) Aa);rw[show((64*kk:Nat):Int)=64*(kk:Int) from Aa] at R;have y:=wN (fun(W:z)=>dz U h2 W);go_enter func15,ntmps15
 go_wp2_with (first|(go_at_call 35;refine(R.out _).mono ?_;rintro e w1 ⟨d,P,rfl,F,B,j⟩)|(go_at_call 36;refine(y.out _).mono ?_;rintro e o ⟨v,G,rfl,V,a,A,l⟩;have m:=F.below l;have vr:=V.apart m;obtain⟨gv,cv,ev,_,_⟩:=BB2.shape0 V.bb2 (by rw[a.len];omega);rw[a.len] at ev;subst ev))
 have t:Hid (Dk o P d ⟨U0 G (64*kk) 0,[],AN,0,AN⟩):=wN m;have r:Hid (Chg P P o o):=wN (Chg.refl _ _);have L:=wN vr;have f:=wN a;have Q:=wN A;have g:=wN B;have c:Hid (AB w.heap.size w o):=wN (j.trans (l.mono j.size));clear F B j V a A l m vr R y;go_loopw [17] (fun i Z=>∃ k:Nat,k<=64*kk/\i=J H k/\Hid (Dk Z P d ⟨U0 G (64*kk) k,[],AN,0,AN⟩)/\Hid (Chg P P o Z)) (fun i _=>64*kk-(intOf i).toNat)
 case atStart=>exact⟨0,Aa,rfl,t,r⟩
 case round=>
  obtain⟨k,hk,rfl,N,q⟩:=hrel;clear t r;by_cases K:k<64*kk
  . have a0:(k:Int)<64*(kk:Int):=by omega
    obtain⟨u,hu,hs⟩:=(L.out.chg q.out).cellAt (k:=k) (by rw[f.out.len];exact K);have KD:=wN (m6 N.out rfl (n:=k) (by show k<(U0 G (64*kk) k).length;rw[Fc];exact K) hs);clear hs;go_wp2_with (go_at_call 37;refine KD.out.mono ?_;rintro e w3 ⟨⟨x,rfl⟩,aX,D⟩)
    have O:Hid (Dk w3 P d ⟨U0 G (64*kk) (k+1),[],AN,0,AN⟩):=wN aX;have M:=wN (q.out.trans D);clear aX D;go_roundw
    case rel=>exact⟨k+1,Aa,by go_num,O,M⟩
    case measure=>simp[intOf];omega
  . obtain rfl:k=64*kk:=by omega
    have KO:=wN (Vq N.out (n:=64*kk) (G:=U0 G (64*kk) (64*kk)) Aa Aa rfl rfl (nA f.out U));have qk:=N.out.lt;go_wp2_with (go_at_call 38;refine KO.out.mono ?_;rintro e w4 (⟨p,S,P4,rfl,Lw,hI,E⟩| ⟨hf,_⟩);rotate_left;exact absurd hf Af;obtain⟨bb,rfl⟩:=landed.ptr hI)
    go_ret;refine⟨bb,P4,d,_,S,rfl,hI,Lw,mV f.out (CU _ _),oz Q.out U h2,fun x Y=>?_,?_⟩
    . rcases Mf E Y with h|h
      . exact g.out x h
      . have h3:=c.out.size
        have h4:=q.out.size;omega
    . have a1:=c.out.size
      have b1:AB w.heap.size o wr:=q.out.below fun x Y=>⟨Aa,fun X=>by have:=g.out x X;omega⟩
      have a2:=q.out.size;have b2:AB w.heap.size wr w4:=E.below fun x Y=>⟨Aa,fun X=>by have:=g.out x X;omega⟩
      exact(c.out.trans b1).trans b2
def PM(P M:Nat->Prop)(k:Nat):Prop:=P k\/M k
def Chg.pm{w w':z}{P b:Nat->Prop}(h:Chg P b w w')(M:Nat->Prop):Chg (PM P M) (PM b M) w w':=⟨h.os,h.tape,h.output,h.size,fun k c a=>⟨(h.keep k c fun e=>a (A4 e)).1,fun e=>e.elim (fun e=>(h.keep k c fun e=>a (A4 e)).2 e) fun e=>a (A8 e)⟩⟩
def Chg.mp{w w':z}{M:Nat->Prop}(h:Chg M M w w')(P:Nat->Prop):Chg (PM P M) (PM P M) w w':=⟨h.os,h.tape,h.output,h.size,fun k b a=>⟨(h.keep k b fun e=>a (A8 e)).1,a⟩⟩
def Sf(X:XSt):XSt:={ X with call:=X.is,put:=[],wi:=AQ }
structure Mid (w0 w:z) (P M:Nat->Prop) (d p r:AA) (X:XSt) (n:Int) (O O2:Ag) (kk:Nat):Prop where
 inv:SInv w P d p X
 wi:X.wi=AQ
 fu:X.ds.fu=AN
 has:Has X.is O kk
 has2:Has X.call O2 kk
 ok:OOk O kk
 pN:∀ x,P x->w0.heap.size<=x
 mN:∀ x,M x->w0.heap.size<=x
 ap:∀ x,M x->¬ P x
 sz:w0.heap.size<=w.heap.size
 be:AB w0.heap.size w0 w
section
variable {w0 w:z}{P M:Nat->Prop}{d p r:AA}{X:XSt}{n:Int}{O O2:Ag}{kk:Nat}
def MA{a:Nat->Prop}{w':z}(hb:AB w0.heap.size w0 w)(b:∀ x,P x->w0.heap.size<=x)(c:Chg P a w w'):AB w0.heap.size w0 w'/\∀ x,a x->w0.heap.size<=x:=by
 have g:=hb.size;refine⟨hb.trans (c.below fun x d=>⟨Aa,fun f=>by have:=b x f;omega⟩),fun x d=>?_⟩;rcases Mf c d with h|h
 . exact b x h
 . omega
end
def ig(x:Int)(a:0<=x)(b:x<=65535)(w:z):AH Aq 133 #[Aw T 0 0,J .u64 x,J H 2] w (J8 w (B8 x 2)):=
 FK (Le w) Ai x 2 2 Aa Aa rfl a Aa
def sU{w:z}{v:AA}{l:Ab}(a:ISl w v l)(c:l.length=128)(h:FN l=AN):AH Aq 181 #[v] w fun e w'=>e=s (AT #[Aw T 0 0,J H 1])/\w=w':=by
 have b:=wN (Ix a Aa AN h);obtain⟨f,d,rfl⟩:=a.shape;rw[c] at b |-
 clear a h c;go_enter func181,ntmps181;go_wp2_with (go_at_call 90;refine Ad b.out ?_;rintro w' rfl)
 go_ret2;exact⟨rfl,rfl⟩
def fy{w:z}{v:AA}{l:Ab}(D:ISl w v l)(I:l.length=128)(h:FN l=AQ):AH Aq 181 #[v] w fun e w'=>∃ u,e=s (AT #[u,J H 0])/\OB w' w.heap.size u (FT l)/\AB w.heap.size w w':=by
 have G:=wN (Ix D Aa AQ h);obtain⟨b,F,R,rfl,S,B⟩:=D.at Aa;have f:=wN ((E9 l).1 h);obtain⟨M,P⟩:∃ M:Nat,M=256:=⟨_,rfl⟩;have r:Hid ((256:Int)=(M:Int)):=wN Aa;have Q:M<=1000:=Aa;rw[I] at G B f |-
 have N:=wN B;clear D h B I P;go_enter func181,ntmps181
 go_wp2_with (first|(go_at_call 90;refine Ad G.out ?_;rintro w' rfl)|(at_make;refine DA _ rfl _ _ rfl 0 256 0 M rfl rfl rfl r.out (A7 _) Aa ?_))
 have a:=wN (Tp w M Q);have y:AB w.heap.size w (w.alloc (Ay (AW M (J .u8 0)) 5)):=AF _ _;generalize w.alloc (Ay (AW M (J .u8 0)) 5)=Z at a y |-
 go_loopw [4,18] (fun u i wr=>∃ k:Nat,k<=128/\i=J H k/\Hid (OB wr w.heap.size u (Nv l k))/\AB w.heap.size w wr) (fun _ i _=>128-(intOf i).toNat)
 case atStart=>exact⟨0,Aa,rfl,a,y⟩
 case round=>
  obtain⟨k,X,rfl,g,c⟩:=hrel;clear a y;by_cases n:k<128
  . have C:=(c.cell (p:=⟨b,F+k,T⟩) S).trans (N.out k n)
    have m:=inB_iff.1 (f.out k n);have E:Nv l (k+1)=Nv l k ++ B8 (l.getD k 0) 2:=rfl;obtain⟨x,K⟩:=nm (l.getD k 0);rw[<- K] at C m E;have W:(k:Int)<128:=Aa;have t:=wN E;have O:=wN (FY l k);obtain⟨V,x1⟩:=m;clear K E
    go_wp2_with (first
     |(go_at_call 133;(with_reducible refine(ig x V Aa _).mono ?_);rintro e L ⟨U,rfl,o,j⟩
       have d:=wN (c.trans (j.mono c.size)))
     |(at_builtin
       refine B0 L rfl _ _ rfl w.heap.size _ (Nv l k) rfl (g.out.below j) L U (B8 x 2) rfl o.bsl (fun _ _=>rfl) (by rw[O.out,Bp];omega) d.out.size ?_;intro Y w5 q A _))
    go_roundw
    case rel=>exact⟨k+1,Aa,by go_num,by show OB _ _ _ (Nv l (k+1));rw[t.out];exact q,d.out.trans A⟩
    case measure=>simp[intOf];omega
  . obtain rfl:k=128:=by omega
    go_wp2;go_ret2;exact⟨_,rfl,g.out,c⟩
def f_{w:z}{v:AA}{l:Ab}(K:BSl w v l)(F:l.length=256):AH Aq 201 #[v] w fun e w'=>(mX l/\e=s (AT #[Aw (I ⟨w.heap.size,0,T⟩) 128 128,J H 0])/\w'.heap[w.heap.size]? =I (iO (WV l 128) 3)/\AB w.heap.size w w')\/
 (¬ mX l/\e=s (AT #[Aw T 0 0,J H 18])/\AB w.heap.size w w'):=by
 obtain⟨ao,a2,rfl,_⟩:=K.shape;obtain⟨M,S⟩:∃ M:Nat,M=128:=⟨_,rfl⟩;have r:Hid ((128:Int)=(M:Int)):=wN Aa;have Sz:M<=1000:=Aa;have m:=wN S;have Q:=wN K;have q:=wN F;rw[F] at Q |-
 clear S K F;go_enter func201,ntmps201;go_wp2_with (at_make;refine Jy _ rfl _ _ rfl _ M rfl rfl r.out Aa ?_)
 have L:(w.alloc (iO (AI M 0) 3)).heap[w.heap.size]? =I (iO (IG l M 0) 3):=by
  rw[VT];exact AC w _
 have c:AB w.heap.size w (w.alloc (iO (AI M 0) 3)):=AF _ _;have N:w.heap.size<(w.alloc (iO (AI M 0) 3)).heap.size:=Ai;generalize w.alloc (iO (AI M 0) 3)=w2 at L c N |-
 have R:=wN L;clear L;go_loopw [14] (fun i wr=>∃ k:Nat,k<=M/\i=J H k/\Hid (wr.heap[w.heap.size]? =I (iO (IG l M k) 3))/\AB w.heap.size w wr) (fun i _=>M-(intOf i).toNat)
 case atStart=>exact⟨0,Aa,rfl,R,c⟩
 case round=>
  obtain⟨k,hk,rfl,n,a⟩:=hrel;clear R c N;by_cases G:k<M
  . have a3:(k:Int)<(M:Int):=by omega
    have D:k<128:=(by have:=m.out;omega);have g:=Q.out.below a;have A:=PR g (by rw[q.out];decide) (2*k) 2 ((k:Int)*2) 2 (by push_cast;omega) rfl Aa Aa (by rw[q.out];omega) _ rfl;have U:=i_ (Da g.1) (2*k);have y:=YQ l M k;obtain⟨x,W⟩:=nm (Cs l (2*k) 2);rw[<- W] at A U y;have Y:=wN A;have ck:=Gd n.out k (by rw[GF];exact G);have fk:=OY n.out k;have j:=Wrote.setCell wr w.heap.size k (J H x);have f:=Td n.out k x;rw[y] at f;have u:=wN f;have p:=wN (a.trans (j.below (AE _)));obtain⟨a0,a1⟩:=U;clear A W g y f j;go_wp2_with (go_at_call 183;(with_reducible refine Ad Y.out ?_);rintro X rfl)
    go_roundw
    case rel=>exact⟨k+1,Aa,by go_num,u.out,p.out⟩
    case measure=>simp[intOf];omega
  . have o:=n.out
    have E:k=M:=Aa;rw[E,Wv] at o;have d:=IR.of_row (B:=w.heap.size) (AE _) o (by rw[Hp];simp only[maxLen];omega);rw[Hp] at d;have b:ISl wr (Aw (I ⟨w.heap.size,0,T⟩) M M) (WV l 128):=by
     have:=d.sl;rw[show WV l 128=WV l M by rw[m.out]];exact this
    have t:Hid (wr.heap[w.heap.size]? =I (iO (WV l 128) 3)):=wN (by rw[show WV l 128=WV l M by rw[m.out]];exact o);have Z:=wN a;clear o d;cases C:FN (WV l 128)
    all_goals
     have P:=wN C;have O:=wN (Ix b (by rw[Hp];decide) _ C);clear C b
    . go_wp2_with (go_at_call 90;refine Ad O.out ?_;rintro X rfl)
      go_ret2;exact A8 ⟨(fun h=>by have V:=h.2;rw[P.out] at V;cases V),rfl,a⟩
    . go_wp2_with (go_at_call 90;refine Ad O.out ?_;rintro X rfl)
      go_ret2;exact A4 ⟨⟨q.out,P.out⟩,by rw[m.out];rfl,t.out,a⟩
end
section
open Go.RowKit BM
def WZ(bf n:Nat)(x:Ab)(fv:AA):List AA:=C (I ⟨bf,0,T⟩) :: J H (n:Nat) :: (iC x ++ [fv])
def ChAt(w:z)(bc bf n:Nat)(x:Ab)(fv:AA):Prop:=x.length=14/\fv.oneCell'=AQ/\w.heap[bc]? =I (Ay (WZ bf n x fv).toArray 243 (0,0))
def mR{bf n:Nat}{x:Ab}{fv:AA}(b:x.length=14){k:Nat}(a:k<14):(WZ bf n x fv)[2+k]? =I (J H (num x k)):=by
 unfold WZ num;rw[show 2+k=k+1+1 from Aa,List.getElem?_cons_succ,List.getElem?_cons_succ,BT (by rw[CF];omega)];simp[iC,b,a]
def oq{bf n:Nat}{x:Ab}{fv:AA}(a:x.length=14):(WZ bf n x fv)[16]? =I fv:=by
 unfold WZ;rw[show 16=14+1+1 from Aj,List.getElem?_cons_succ,List.getElem?_cons_succ,B5 (by rw[CF];omega),CF,a];rfl
def oB{bf n:Nat}{x:Ab}{fv:AA}(b:x.length=14){k:Nat}(a:k<14)(v:Int):(WZ bf n x fv).set (2+k) (J H v)=WZ bf n (x.set k v) fv:=by
 unfold WZ;rw[show 2+k=k+1+1 from Aa,List.set_cons_succ,List.set_cons_succ,List.set_append_left _ _ (by rw[CF];omega)];simp[iC,List.map_set]
def jP{bf n:Nat}{x:Ab}{fv:AA}(a:x.length=14)(u:AA):(WZ bf n x fv).set 16 u=WZ bf n x u:=by
 unfold WZ;rw[show 16=14+1+1 from Aj,List.set_cons_succ,List.set_cons_succ,List.set_append_right _ _ (by rw[CF];omega),CF,a];rfl
section
variable {w:z}{bc bf n:Nat}{x:Ab}{fv:AA}
def ChAt.lt(h:ChAt w bc bf n x fv):bc<w.heap.size:=(Au.1 h.2.2).1
def ChAt.low{w':z}(h:ChAt w bc bf n x fv)(hb:AB w.heap.size w w'):ChAt w' bc bf n x fv:=⟨h.1,h.2.1,BD h.2.2 hb⟩
def ChAt.chg{w':z}{P a:Nat->Prop}(h:ChAt w bc bf n x fv)(b:Chg P a w w')(c:¬ P bc):ChAt w' bc bf n x fv/\¬ a bc:=by
 have:=b.keep bc h.lt c;exact⟨⟨h.1,h.2.1,this.1.trans h.2.2⟩,this.2⟩
def ChAt.cell(h:ChAt w bc bf n x fv){j:Nat}{v:AA}(hv:(WZ bf n x fv)[j]? =I v):w.cell? ⟨bc,j,T⟩=I v:=by
 rw[AD _ _ _ _ _ _ h.2.2];simpa using hv
def ChAt.c0(h:ChAt w bc bf n x fv):w.cell? ⟨bc,0,T⟩=I (C (I ⟨bf,0,T⟩)):=h.cell rfl
def ChAt.c1(h:ChAt w bc bf n x fv):w.cell? ⟨bc,1,T⟩=I (J H (n:Nat)):=h.cell rfl
def ChAt.num(h:ChAt w bc bf n x fv){k:Nat}(a:k<14):w.cell? ⟨bc,2+k,T⟩=I (J H (num x k)):=h.cell (mR h.1 a)
def ChAt.cm(h:ChAt w bc bf n x fv):w.cell? ⟨bc,15,T⟩=I (J H (Go.Proofs.YtfpdajplfmakhaaGreatDoor.num x 13)):=h.num (k:=13) Af
def ChAt.cf(h:ChAt w bc bf n x fv):w.cell? ⟨bc,16,T⟩=I fv:=h.cell (oq h.1)
def ChAt.free(h:ChAt w bc bf n x fv)(j:Nat):w.frozen? ⟨bc,j,T⟩=AN:=by simp[z.frozen?,h.2.2]
def ChAt.rng(h:ChAt w bc bf n x fv):w.rangeAt bc 2 (iC x):=Es h.2.2 (by
 unfold WZ;rw[show(2:Nat)=1+1 from Aj,List.drop_succ_cons,List.drop_succ_cons,CX,DC rfl])
def ChAt.setN(h:ChAt w bc bf n x fv){k:Nat}(a:k<14)(v:Int):ChAt (w.setCell ⟨bc,2+k,T⟩ (J H v)) bc bf n (x.set k v) fv:=
 ⟨by rw[AR];exact h.1,h.2.1,by rw[Bk w bc (2+k) _ _ _ h.2.2];simp only[A5];rw[oB h.1 a]⟩
def ChAt.setF(h:ChAt w bc bf n x fv)(u:AA)(hu:u.oneCell'=AQ):ChAt (w.setCell ⟨bc,16,T⟩ u) bc bf n x u:=
 ⟨h.1,hu,by rw[Bk w bc 16 _ _ _ h.2.2];simp only[A5];rw[jP h.1]⟩
end
def FarA(w:z)(B bc:Nat)(P:Nat->Prop)(fv:AA)(F:Ab)(a:Nat):Prop:=F.length=128/\B<=a/\a≠bc/\¬ P a/\fv=Aw (I ⟨a,0,T⟩) 128 128/\w.heap[a]? =I (iO F 3)
def FarA.isl{w:z}{B bc a:Nat}{P:Nat->Prop}{fv:AA}{F:Ab}(h:FarA w B bc P fv F a):ISl w fv F:=by
 have:=(IR.of_row (B:=a) (AE _) h.2.2.2.2.2 (by rw[h.1];simp only[maxLen];omega)).sl;rw[h.1] at this;rw[h.2.2.2.2.1];exact this
def LY{x:Ab}(h:x.length=14):∃ kd ln sz a b c d f g i j k l mp:Int,x=[kd,ln,sz,a,b,c,d,f,g,i,j,k,l,mp]:=by
 match x,h with
 |[kd,ln,sz,a,b,c,d,f,g,i,j,k,l,mp],_=>exact⟨kd,ln,sz,a,b,c,d,f,g,i,j,k,l,mp,rfl⟩
section
variable {w:z}{P:Nat->Prop}{d p:AA}{X:XSt}{S:Ab}{N:Ae}{bf:Nat}
def XG(h:SInv w P d p X)(hf:FsAt w bf p)(F:Tab X.cur S N){n:Nat}(O:1<=n)(L:n<48)(D:CE N n≠0){W:z}(hb:AB w.heap.size w W):
 AH Aq 178 #[C (I ⟨bf,0,T⟩),J H n] W fun e w'=>∃ E,e=s (AT #[C (I ⟨E,0,T⟩),J H 0])/\W.heap.size<=E/\ChAt w' E bf n (N.getD n []) (Aw T 0 0)/\AB W.heap.size W w':=by
 have b:=He h hf F O L hb;have K:=F.n.get L;unfold CE at D;generalize N.getD n []=x at b K D;obtain⟨a,t,v,c,f,g,i,j,k,l,m,o,q,u,rfl⟩:=LY K;have Q:(a==0)=AN:=by simpa using D
 have M:Hid (AH Aq 13 #[C (I ⟨bf,0,T⟩),J H n] W fun e w'=>e=s (AT #[BS #[J H a,J H t,J H v,J H c,J H f,J H g,J H i,J H j,J H k,J H l,J H m,J H o,J H q,J H u],J H 0])/\AB W.heap.size W w'):=wN b;clear b h hf F hb K D;go_enter func178,ntmps178
 go_wp2_with (go_at_call 13;refine Ad M.out ?_;rintro B r
              have y:=r.trans ((AF B (Ay #[J H a,J H t,J H v,J H c,J H f,J H g,J H i,J H j,J H k,J H l,J H m,J H o,J H q,J H u] 44)).mono r.size);have G:=AF (B.alloc (iO [a,t,v,c,f,g,i,j,k,l,m,o,q,u] 44)) (Ay (WZ bf n [a,t,v,c,f,g,i,j,k,l,m,o,q,u] (Aw T 0 0)).toArray 243);have A:=AC (B.alloc (iO [a,t,v,c,f,g,i,j,k,l,m,o,q,u] 44)) (Ay (WZ bf n [a,t,v,c,f,g,i,j,k,l,m,o,q,u] (Aw T 0 0)).toArray 243))
 go_ret2;refine⟨_,rfl,AU r.size (Nat.le_succ _),⟨rfl,rfl,?_⟩,y.trans (G.mono y.size)⟩;have e:(B.alloc (iO [a,t,v,c,f,g,i,j,k,l,m,o,q,u] 44)).heap.size=B.heap.size+1:=Ai;rw[e] at A;exact A
end
def OwAt.outJ{O:Ag}{kk:Nat}{v:Int}{o:Int × Int}(h:OwAt O kk v o)(b:kk<=12):D7 v.toNat:=by
 have a:=h.2.1;have:=h.1;unfold CZ at a;have:=BL a;unfold D7;omega
section
variable {w:z}{P:Nat->Prop}{d p:AA}{X:XSt}{S:Ab}{N:Ae}{bf:Nat}
def kU{F:Ab}(h:F.length=128/\FN F=AQ):mX (FT F)/\WV (FT F) 128=F/\(FT F).length=256:=⟨mD h.1 h.2,jw h.1 h.2,by rw[FT,FY]⟩
def VN{W:z}{b n:Nat}{x:Ab}{i:AA}(j:ChAt W b bf n x i)(p:num x 13=0)(o:∀ k,P k->k<W.heap.size):
 AH Aq 179 #[C (I ⟨b,0,T⟩)] W fun e w'=>e=s (J H 0)/\∃ i y,ChAt w' b bf n x i/\FarA w' W.heap.size b P i (AI 128 0) y/\KeptG W w' b:=by
 obtain⟨M,d⟩:∃ M:Nat,M=128:=⟨_,rfl⟩;have l:Hid ((128:Int)=(M:Int)):=wN Aa;have m:=j.cm;rw[p] at m;have a:=j.low (AF W (iO (AI M 0) 3));have h:=AC W (iO (AI M 0) 3);have A:=a.cf;have B:=a.free 16;have g:=j.lt;have f:=a.setF (Aw (I ⟨W.heap.size,0,T⟩) M M) rfl;have c:=Wrote.setCell (W.alloc (iO (AI M 0) 3)) b 16 (Aw (I ⟨W.heap.size,0,T⟩) M M);have q:=wN f;have w:=wN ((c.2.2.2.2 W.heap.size Aa).trans h);have r:=wN (((KeptG.refl W b).then (AF W (iO (AI M 0) 3))).wrote c);have t:=wN g;have v:=wN o;have u:=wN d;have E:M<=1000:=Aa;clear j p a h g f c o d;go_enter func179,ntmps179;go_wp2_with (at_make;refine Jy _ rfl _ _ rfl _ M rfl rfl l.out Aa ?_)
 go_ret;have d:=u.out;refine⟨rfl,Aw (I ⟨W.heap.size,0,T⟩) M M,W.heap.size,q.out,⟨Ai,AE _,by have:=t.out;omega,fun D=>by have:=v.out _ D;omega,by rw[d],by rw[<- d];exact w.out⟩,r.out⟩
def XR(h:SInv w P d p X)(hf:FsAt w bf p){W:z}(hb:AB w.heap.size w W){f n:Nat}{x F:Ab}{r:AA}(o:ChAt W f bf n x r){m:Nat}(S:num x 13=(m:Int))(Ij:m≠0)(Y:m<X.cur.length)(B:D7 m)(O:F.length=128/\FN F=AQ)(hG:X.cur.getD m []=FT F)(Q3:w.heap.size<=f):
 AH Aq 179 #[C (I ⟨f,0,T⟩)] W fun e w'=>e=s (J H 0)/\∃ r bg,ChAt w' f bf n x r/\FarA w' W.heap.size f P r F bg/\KeptG W w' f:=by
 obtain⟨Z,h2,h3⟩:=kU O;have u:=h.lt;have rP:=o.c0;have U:=o.cm;rw[S] at U;have Xc:((m:Int)==0)=AN:=Ak;have cb:=(hf.low hb).cell;have t:AB W.heap.size W W.drew:=(AP _ _).drew;have KG:=wN (QC h Y B hG (hb.trans (t.mono hb.size)));have KD:Hid (∀ (V:z) (v:AA),BSl V v (FT F)->AH Aq 201 #[v] V fun e w'=>e=s (AT #[Aw (I ⟨V.heap.size,0,T⟩) 128 128,J H 0])/\w'.heap[V.heap.size]? =I (iO F 3)/\AB V.heap.size V w'):=wN fun V v j=>(f_ j h3).mono fun e w' B=>by
  rcases B with⟨_,a,b,c⟩| ⟨a,_⟩
  . rw[h2] at b;exact⟨a,b,c⟩
  . exact absurd Z a
 have HC:Hid (∀ V,AB W.heap.size W V->ChAt V f bf n x r):=wN fun V j=>o.low j
 have HL:=wN o.lt;have HP:Hid (∀ k,P k->k<W.heap.size):=wN fun k hk=>AL (u k hk) hb.size
 have HF:=wN O.1;have d0:W.drew.cell? ⟨f,0,T⟩=I (C (I ⟨bf,0,T⟩)):=rP;have M:W.drew.cell? ⟨f,15,T⟩=I (J H (m:Nat)):=U;have db:W.drew.cell? ⟨bf,0,T⟩=I p:=cb;have L:Hid (∀ V,AB W.heap.size W V->V.cell? ⟨f,0,T⟩=I (C (I ⟨bf,0,T⟩))/\V.cell? ⟨f,15,T⟩=I (J H (m:Nat))/\V.cell? ⟨bf,0,T⟩=I p):=wN fun V j=>⟨(o.low j).c0,by rw[(o.low j).cm,S],(hf.low (hb.trans (j.mono hb.size))).cell⟩
 clear h hf hb o S Ij Y B O hG Q3 Z h2 h3 u t;go_enter func179,ntmps179;go_wp2
 go_region_held3 (fun V=>V.cell? ⟨f,0,T⟩=I (C (I ⟨bf,0,T⟩))/\V.cell? ⟨f,15,T⟩=I (J H (m:Nat))/\V.cell? ⟨bf,0,T⟩=I p) (first|exact⟨d0,M,db⟩|exact s2) (first
  |(go_at_call 104;(with_reducible refine KG.out.mono ?_);rintro e D ⟨v,rfl,j,Q⟩
    have g:AB W.heap.size W D:=((AP _ _).drew).trans (Q.mono (AE _));have s2:=L.out _ g))
 all_goals
  go_wp2_with (first
   |(go_at_call 201;(with_reducible refine Ad (KD.out _ _ j) ?_);rintro w3 ⟨y,R⟩
     have l:=g.trans (R.mono g.size);have i:=HC.out _ l;have a0:=i.cf;have a1:=i.free 16;have A:=Wrote.setCell w3 f 16 (Aw (I ⟨D.heap.size,0,T⟩) 128 128);have G:=wN (i.setF (Aw (I ⟨D.heap.size,0,T⟩) 128 128) rfl);have K:=wN y;have q:=wN A;have E:=wN l;clear i A y))
  go_ret;have hl:=HL.out;have N:=g.size;refine⟨rfl,_,D.heap.size,G.out,⟨HF.out,N,Aa,fun hp=>by have:=HP.out _ hp;omega,rfl,(q.out.2.2.2.2 _ Aa).trans K.out⟩,((KeptG.refl W f).then E.out).wrote q.out⟩
end
def bY{W:z}{a bf n:Nat}{x:Ab}{f:AA}(b:ChAt W a bf n x f){i:Nat}(hi:i<10):
 AH Aq 140 #[C (I ⟨a,0,T⟩),J H i] W fun e w'=>e=s (J H (num x (3+i)))/\W=w':=by
 have c:=b.num (k:=3+i) Aa;rw[show 2+(3+i)=5+i from Aa] at c;obtain⟨v,d⟩:=nm (num x (3+i));rw[<- d] at c |-
 have g:(i:Int)<10:=Aa;clear b d;go_enter func140,ntmps140;go_wp2;go_ret;exact⟨rfl,rfl⟩
def jv{W:z}{a bf n B l:Nat}{P:Nat->Prop}{x F:Ab}{f:AA}(g:ChAt W a bf n x f)(t:FarA W B a P f F l){i:Nat}(k:10<=i)(hi:i<138):
 AH Aq 140 #[C (I ⟨a,0,T⟩),J H i] W fun e w'=>e=s (J H (num F (i-10)))/\W=w':=by
 obtain⟨o,p,q,r,rfl,d⟩:=t;have u:=g.cf;have c:=Gd d (i-10) Aa;obtain⟨v,b⟩:=nm (num F (i-10));rw[show F.getD (i-10) 0=v by rw[b];rfl] at c;rw[<- b];obtain⟨j,h⟩:=nm (i-10);rw[<- h] at c;have w:H.wrap ((i:Int)-10)=(j:Int):=by rw[Bz _ Aa];omega
 have m:¬ (i:Int)<10:=Aa;have y:(j:Int)<128:=Aa;clear g o p q r d b h k hi;go_enter func140,ntmps140;go_wp2;go_ret;exact⟨rfl,rfl⟩
def SQ{W:z}{a bf n B:Nat}{P:Nat->Prop}{x F:Ab}{c:AA}(d:ChAt W a bf n x c){i:Nat}(f:10<=i->∃ b,FarA W B a P c F b)(hi:i<138):
 AH Aq 140 #[C (I ⟨a,0,T⟩),J H i] W fun e w'=>e=s (J H (Ch x F i))/\W=w':=by
 unfold Ch;by_cases h:i<10
 . rw[AG h];exact bY d h
 . rw[AJ h,AJ Aa]
   obtain⟨b,g⟩:=f Aa;exact jv d g Aa hi
def Ga(x F:Ab)(i:Nat):Int:=if i=0\/Ch x F (i-1)=0 then 0 else Ch x F (i-1)+1
def cZ{W:z}{d bf n B:Nat}{P:Nat->Prop}{x F:Ab}{p:AA}(l:ChAt W d bf n x p){i:Nat}(k:10<=i->∃ t,FarA W B d P p F t)(hi:i<138)(a:0<i->0<=Ch x F (i-1)/\Ch x F (i-1)<=767):
 AH Aq 143 #[C (I ⟨d,0,T⟩),J H i] W fun e w'=>e=s (J H (Ga x F i))/\W=w':=by
 by_cases g:i=0
 . subst g
   have f:Ga x F 0=0:=AG (A4 rfl);rw[f];clear l k a f;go_enter func143,ntmps143;go_wp2;go_ret;exact⟨rfl,rfl⟩
 . have b:=wN (SQ (i:=i-1) l (fun h=>k Aa) Aa)
   obtain⟨v,m⟩:=nm (Ch x F (i-1));have o:Ga x F i=if v=0 then 0 else v+1:=by unfold Ga;rw[<- m];by_cases e:v=0 <;> simp[e,g]
   have q:=a Aa;rw[<- m] at b q;rw[o];obtain⟨j,r⟩:=nm (i-1);rw[<- r] at b;have f:H.wrap ((i:Int)-1)=(j:Int):=(by rw[Bz _ Aa];omega);have w:H.wrap (v+1)=v+1:=Bz _ Aa;have y:((i:Int)==0)=AN:=Ak;clear l k a m o r g hi q;by_cases c:v=0
   . subst c
     go_enter func143,ntmps143;go_wp2_with (go_at_call 140;refine Ad b.out ?_;rintro w' rfl)
     go_ret;exact⟨rfl,rfl⟩
   . rw[AJ c]
     have u:(v==0)=AN:=by simpa using c
     clear c;go_enter func143,ntmps143;go_wp2_with (go_at_call 140;refine Ad b.out ?_;rintro w' rfl)
     go_ret;exact⟨rfl,rfl⟩
section
variable {w:z}{P:Nat->Prop}{d p:AA}{X:XSt}{S:Ab}{N:Ae}{O:Ag}{kk:Nat}{F:Nat->Ab}{bf:Nat}
def fb(h:SInv w P d p X)(hf:FsAt w bf p)(c:Fils EZ X.cur S N O kk F)(j:kk<=12)(v:X.cur.length=64*kk){n:Nat}(i:1<=n)(g:n<48){W:z}(hb:AB w.heap.size w W){a:Nat}{b:AA}(l:ChAt W a bf n (N.getD n []) b)(q:w.heap.size<=a):
 AH Aq 179 #[C (I ⟨a,0,T⟩)] W fun e w'=>e=s (J H 0)/\∃ b r,ChAt w' a bf n (N.getD n []) b/\FarA w' W.heap.size a P b (F n) r/\KeptG W w' a:=by
 by_cases f:num (N.getD n []) 13=0
 . rw[c.m0 n i g f]
   exact VN l f fun k t=>AL (h.lt k t) hb.size
 . have o:=c.map i g id f
   have u:=o.1;exact XR h hf hb l (m:=(num (N.getD n []) 13).toNat) Aa Aa Aa (o.outJ j) (c.fl n) (c.m1 n i g f) q
def tT(W:z)(P:Nat->Prop)(bf n:Nat)(x F:Ab)(i:Nat)(e:Ending)(w':z):Prop:=
 ∃ a b,e=s (AT #[C (I ⟨a,0,T⟩),J H 0])/\W.heap.size<=a/\ChAt w' a bf n x b/\(10<=i->∃ c,FarA w' W.heap.size a P b F c)/\AB W.heap.size W w'
def Mv(h:SInv w P d p X)(hf:FsAt w bf p)(u:Tab X.cur S N)(t:Fils EZ X.cur S N O kk F)(l:kk<=12)(A:X.cur.length=64*kk){n:Nat}(s:1<=n)(q:n<48)(v:CE N n≠0){i:Nat}(hi:i<138){W:z}(hb:AB w.heap.size w W):
 AH Aq 139 #[C (I ⟨bf,0,T⟩),J H n,J H i] W (tT W P bf n (N.getD n []) (F n) i):=by
 have r:=wN (XG h hf u s q v hb);have KR:=wN (fun(V:z) (f:Nat) (k:AA) (B:AB w.heap.size w V) (g:ChAt V f bf n (N.getD n []) k) (b:w.heap.size<=f)=>fb h hf t l A s q B g b);have j:=wN hb;have E:(i:Int)<138:=Aa;clear h hf u t v hb;by_cases G:i<10
 . have y:(i:Int)<10:=by omega
   go_enter func139,ntmps139;go_wp2_with (go_at_call 178;refine r.out.mono ?_;rintro e D ⟨f,rfl,b,g,a⟩)
   go_ret2;exact⟨f,_,rfl,b,g,fun h=>absurd h Aa,a⟩
 . have y:¬ (i:Int)<10:=by omega
   go_enter func139,ntmps139
   go_wp2_with (first|(go_at_call 178;refine r.out.mono ?_;rintro e D ⟨f,rfl,b,g,a⟩)|(go_at_call 179;refine Ad (KR.out _ _ _ (j.out.trans (a.mono j.out.size)) g (AU j.out.size b)) ?_;rintro K ⟨k,x,m,c,o⟩))
   go_ret2;exact⟨f,k,rfl,b,m,fun _=>⟨x,c.1,AU a.size c.2.1,c.2.2⟩,a.trans (o.below b a.size)⟩
end
end
section
open Go.RowKit
def q1{α:Type _}(l:List α)(i:Nat)(a:α):l.toArray.setIfInBounds i a=(l.set i a).toArray:=A5 l i a
def q2{α:Type _}{x:α}{b:List α}{a:α}:(x :: b).set 0 a=a :: b:=List.set_cons_zero
def q3{α:Type _}{x:α}{b:List α}{i:Nat}{a:α}:(x :: b).set (i+1) a=x :: b.set i a:=List.set_cons_succ
def q4{α:Type _}{a:List α}{i:Nat}(h:i<a.toArray.size):a.toArray[i]=a[i]'(by simpa using h):=List.getElem_toArray h
def q5{α:Type _}(a:α)(l:List α)(h:0<(a :: l).length):(a :: l)[0]=a:=List.getElem_cons_zero a l h
def q6{α:Type _}(a:α)(l:List α)(i:Nat)(h:i+1<(a :: l).length):(a :: l)[i+1]=l[i]'(by simpa using h):=List.getElem_cons_succ a l i h
def tk{P:Program}{d:Array BK}{Q:Exit->Act->z->Prop}{md:Region.Mode}{S:z->Prop}(i:Nat){g:BK}(v:AA){f:Nat}{b:Array Bool}{a:Act}{w:z}(hi:d[i]? =I g)
 (hb:(Region.noSelect d && (Region.free md d b i && (Region.ready md d b).contains i))=AQ)
 (j:∀ c a w,Q (.panic c) (a.put g.dst v) w->Q (.panic c) a w) (l:YieldsIf P d S g v a) (k:S w)
 (h:wpAnyH P md d Q S f (b.setIfInBounds i AQ) (a.put g.dst v) w):wpAnyH P md d Q S (f+1) b a w:=by
 rw[A0,A0] at hb;exact NK hi hb.1 hb.2.1 hb.2.2 j l k h
end
section
open Go.RowKit BM
def FsAt.ne_ch{w:z}{bf b n a:Nat}{p:AA}{x:Ab}{d:AA}(h:FsAt w bf p)(f:ChAt w b a n x d):bf≠b:=fun e=>by
 have c:=f.2.2;rw[<- e,h] at c;have:=BF (fun o=>match o with |some (Obj.cells cs _ _)=>cs.size|_=>0) c;simp[WZ] at this
def Chg.one{w w':z}{P:Nat->Prop}{g:Nat}(h:Wrote w w' g):Chg (PM P (·=g)) (PM P (·=g)) w w':=(Chg.of_wrote1 h).mp P
section
variable {w:z}{P:Nat->Prop}{d p:AA}{X:XSt}{S:Ab}{N:Ae}{bf:Nat}
def SInv.wrote{w':z}{g:Nat}(h:SInv w P d p X)(a:Wrote w w' g)(c:¬ P g):SInv w' P d p X:=h.keep (Nat.le_of_eq a.2.2.2.1.symm) fun k b=>a.2.2.2.2 k fun e=>c (e ▸ b)
def pY(h:SInv w P d p X)(q:X.wi=AQ)(hp:X.put.length<37)(hf:FsAt w bf p)(m:Tab X.call S N){n:Nat}(l:1<=n)(j:n<48){b:Nat}{x:Ab}{i:AA}(c:ChAt w b bf n x i)(g:¬ P b)(k:Ee x=AQ):
 AH Aq 26 #[C (I ⟨bf,0,T⟩),J H n,BS (iC x).toArray] w fun e w'=>e=s (J H 0)/\∃ a,SInv w' a d p (putI X S N n x)/\ChAt w' b bf n x i/\Chg P a w w'/\¬ a b:=
 (K5 h q hp hf m l j c.1 k (AP _ _)).mono fun e w' ⟨he,a,o,f⟩=>⟨he,a,o,(c.chg f g).1,f,(c.chg f g).2⟩
def XU(h:SInv w P d p X)(L:X.wi=AQ)(hp:X.put.length<37)(hf:FsAt w bf p)(G:Tab X.call S N){n:Nat}(E:1<=n)(D:n<48){a:Nat}{x:Ab}{u:AA}(m:ChAt w a bf n x u)(z:¬ P a){i:Nat}(hi:i<10){v:Int}(A:Ee (x.set (3+i) v)=AQ):
 AH Aq 144 #[C (I ⟨a,0,T⟩),J H i,J H v] w fun e w'=>e=s (J H 0)/\∃ B,SInv w' B d p (putI X S N n (x.set (3+i) v))/\ChAt w' a bf n (x.set (3+i) v) u/\Chg (PM P (·=a)) (PM B (·=a)) w w'/\¬ B a:=by
 have j:=Wrote.setCell w a (5+i) (J H v);have g:=m.setN (k:=3+i) Aa v;rw[show 2+(3+i)=5+i from Aa] at g;obtain⟨y,M⟩:=nm (x.set (3+i) v);rw[<- M] at g A |-
 have t:=h.wrote j z;have q:FsAt (w.setCell ⟨a,5+i,T⟩ (J H v)) bf p:=(j.2.2.2.2 bf (hf.ne_ch m)).trans hf;have c:=m.num (k:=3+i) Aa;rw[show 2+(3+i)=5+i from Aa] at c;have fz:=m.free (5+i);have ei:(i:Int)<10:=Aa;have l:=(AP (w.setCell ⟨a,5+i,T⟩ (J H v)).heap.size (w.setCell ⟨a,5+i,T⟩ (J H v))).drew;have U:=wN (pY (t.low l) L hp (q.low l) G E D (g.low l) z A);have Y:ChAt (w.setCell ⟨a,5+i,T⟩ (J H v)).drew a bf n y u:=g.low l;have R:=wN g.1;have Q:=wN ((Chg.one (P:=P) j).trans (Chg.of_below l));have u1:=underlying44;obtain⟨y0,O⟩:=nm (num x (3+i));rw[<- O] at c;clear h L hp hf G E D m z A j g t q M l O;go_enter func144,ntmps144;go_upto_region 3 with(fail)
 refine wp_region_held_drew (S:=fun W=>ChAt W a bf n y u) Ac Y (fun b=>?_);clear b;refine tk 0 (C (I ⟨a,0,T⟩)) rfl Ac (fun _ _ _ h=>h) (A4 ⟨Aj,?_⟩) Ah ?_
 . intro W f;go_simp
 (try simp only[Act.put,q1,q2,q3,q4,q5])
 refine tk 1 (C (I ⟨a,0,T⟩)) rfl Ac (fun _ _ _ h=>h) (A4 ⟨Aj,?_⟩) Ah ?_
 . intro W f;go_simp
 (try simp only[Act.put,q1,q2,q3,q4,q5,q6])
 refine tk 2 (C (I ⟨a,0,T⟩)) rfl Ac (fun _ _ _ h=>h) (A4 ⟨Aj,?_⟩) Ah ?_
 . intro W f;go_simp
 (try simp only[Act.put,q1,q2,q3,q4,q5,q6])
 refine tk 3 (C (I ⟨bf,0,T⟩)) rfl Ac (fun _ _ _ h=>h) (A4 ⟨Aj,?_⟩) Ah ?_
 . intro W f;have f0:=f.c0;go_simp
 (try simp only[Act.put,q1,q2,q3,q4,q5,q6])
 refine tk 4 (C (I ⟨a,0,T⟩)) rfl Ac (fun _ _ _ h=>h) (A4 ⟨Aj,?_⟩) Ah ?_
 . intro W f;go_simp
 (try simp only[Act.put,q1,q2,q3,q4,q5,q6])
 refine tk 5 (C (I ⟨a,0,T⟩)) rfl Ac (fun _ _ _ h=>h) (A4 ⟨Aj,?_⟩) Ah ?_
 . intro W f;go_simp
 (try simp only[Act.put,q1,q2,q3,q4,q5,q6])
 refine tk 6 (C (I ⟨a,1,T⟩)) rfl Ac (fun _ _ _ h=>h) (A4 ⟨Aj,?_⟩) Ah ?_
 . intro W f;go_simp
 (try simp only[Act.put,q1,q2,q3,q4,q5,q6])
 refine tk 7 (J H n) rfl Ac (fun _ _ _ h=>h) (A4 ⟨Aj,?_⟩) Ah ?_
 . intro W f;have f1:=f.c1;go_simp
 (try simp only[Act.put,q1,q2,q3,q4,q5,q6])
 refine tk 8 (C (I ⟨a,0,T⟩)) rfl Ac (fun _ _ _ h=>h) (A4 ⟨Aj,?_⟩) Ah ?_
 . intro W f;go_simp
 (try simp only[Act.put,q1,q2,q3,q4,q5,q6])
 refine tk 9 (C (I ⟨a,0,T⟩)) rfl Ac (fun _ _ _ h=>h) (A4 ⟨Aj,?_⟩) Ah ?_
 . intro W f;go_simp
 (try simp only[Act.put,q1,q2,q3,q4,q5,q6])
 refine tk 10 (C (I ⟨a,2,T⟩)) rfl Ac (fun _ _ _ h=>h) (A4 ⟨Aj,?_⟩) Ah ?_
 . intro W f;go_simp
 (try simp only[Act.put,q1,q2,q3,q4,q5,q6])
 refine tk 11 (BS (iC y).toArray) rfl Ac (fun _ _ _ h=>h) (yieldsIf_load_mid rfl 44 (.tmp 28) rfl a 2 rfl (iC y) _ (fun W Z=>Z.rng) u1 rfl (by rw[Hs,CF,R.out])) Ah ?_
 (try simp only[Act.put,q1,q2,q3,q4,q5,q6])
 refine wpAnyH_ready (rs:=[12]) Ac Ai (AllReadyH.cons rfl (fun K F=>?_) AllReadyH.nil)
 go_simp
 go_at_call 26
 refine Ad U.out ?_;rintro w4 ⟨V,lv,o,r⟩;refine F.out _ _ o (fun b=>?_);clear F K b
 (try simp only[Act.put,q1,q2,q3,q4,q5,q6])
 refine tk 13 (J H 0) rfl Ac (fun _ _ _ h=>h) (A4 ⟨Aj,?_⟩) Ah ?_
 . intro W f;go_simp
 (try simp only[Act.put,q1,q2,q3,q4,q5,q6])
 refine wpAnyH_done Ac ?_ _;go_wp2;go_ret;exact⟨rfl,V,lv,o,Q.out.trans (r.1.pm _),r.2⟩
end
def Chg.inner2{W w1 i:z}{P f d Q:Nat->Prop}(hb:Chg P f W w1)(c:Chg (PM f Q) (PM d Q) w1 i)(j:∀ k,Q k->W.heap.size<=k):Chg P d W i:=
 ⟨c.os.trans hb.os,c.tape.trans hb.tape,c.output.trans hb.output,AU hb.size c.size,fun k g l=>by
   obtain⟨a,b⟩:=hb.keep k g l;have:=c.keep k (AL g hb.size) fun h=>h.elim b fun h=>by have:=j k h;omega
   exact⟨this.1.trans a,fun h=>this.2 (A4 h)⟩⟩
def FarA.chg{w w':z}{B c a:Nat}{P b:Nat->Prop}{f:AA}{F:Ab}(h:FarA w B c P f F a)(m:Chg P b w w'):FarA w' B c b f F a:=by
 obtain⟨g,i,j,k,l,d⟩:=h;have:=m.keep a (Au.1 d).1 k;exact⟨g,i,j,this.2,l,this.1.trans d⟩
def FarA.low{w w':z}{B a b:Nat}{P:Nat->Prop}{c:AA}{F:Ab}(h:FarA w B a P c F b)(hb:AB w.heap.size w w'):FarA w' B a P c F b:=
 ⟨h.1,h.2.1,h.2.2.1,h.2.2.2.1,h.2.2.2.2.1,BD h.2.2.2.2.2 hb⟩
def FsAt.ne_io{w:z}{bf a:Nat}{p:AA}{F:Ab}(h:FsAt w bf p)(b:w.heap[a]? =I (iO F 3))(c:F.length=128):bf≠a:=fun e=>by
 rw[<- e,h] at b;have:=BF (fun o=>match o with |some (Obj.cells cs _ _)=>cs.size|_=>0) b;simp[iO,iC,c] at this
section
variable {w:z}{P:Nat->Prop}{d p:AA}{X:XSt}{S:Ab}{N:Ae}{bf:Nat}
def Rf(X:XSt)(m:Nat)(l:Ab):XSt:={ X with call:=X.call.set m l,put:=D9 X.put (m:Nat) }
def Yz(h:SInv w P d p X)(f:X.wi=AQ)(hp:X.put.length<37){m:Nat}(g:m<X.is.length)(i:m<768)(c:D7 m){l:Ab}(b:l.length=256){u:AA}(hu:BSl w u l):
 AH Aq 50 #[p,J H m,u] w fun e w'=>e=s (J H 0)/\∃ a,SInv w' a d p (Rf X m l)/\Chg P a w w':=by
 have:=MM h hu (n:=(m:Int)) Aa (by rw[Cf];exact c);rw[OW (X:=X) (n:=(m:Int)) (l:=l) f Aa Aa b hp] at this;exact this
def fa(h:SInv w P d p X)(hw:X.wi=AQ)(hp:X.put.length<37)(hf:FsAt w bf p){n:Nat}{b a B:Nat}{x F:Ab}{N:AA}(M:ChAt w b bf n x N)(R:¬ P b)(hF:FarA w B b P N F a){i:Nat}(F5:10<=i)(hi:i<138){v:Int}(hL:FN (F.set (i-10) v)=AQ)
 {m:Nat} (hm:num x 13=(m:Int)) (aW:m<X.is.length) (tq:m<768) (ho:D7 m):
 AH Aq 144 #[C (I ⟨b,0,T⟩),J H i,J H v] w fun e w'=>e=s (J H 0)/\∃ o,SInv w' o d p (Rf X m (FT (F.set (i-10) v)))/\ChAt w' b bf n x N/\FarA w' B b o N (F.set (i-10) v) a/\Chg (PM P (·=a)) (PM o (·=a)) w w'/\¬ o b:=by
 obtain⟨W,f2,Y,Z,rfl,L⟩:=hF;have f:=Wrote.setCell w a (i-10) (J H v);have g:=Td L (i-10) v;have cj:=Gd L (i-10) Aa;have fj:=OY L (i-10);obtain⟨E,o7⟩:=nm (F.set (i-10) v);have S:E.length=128:=by rw[o7,AR,W]
 rw[<- o7] at g hL |-
 obtain⟨j,hj⟩:=nm (i-10);rw[<- hj] at f g cj fj;have e1:H.wrap ((i:Int)-10)=(j:Int):=by rw[Bz _ Aa];omega
 have a4:¬ (i:Int)<10:=Aa;have ej:(j:Int)<128:=Aa;have r:=h.wrote f Z;have A:FsAt (w.setCell ⟨a,j,T⟩ (J H v)) bf p:=(f.2.2.2.2 bf (hf.ne_io L W)).trans hf;have c:ChAt (w.setCell ⟨a,j,T⟩ (J H v)) b bf n x (Aw (I ⟨a,0,T⟩) 128 128):=⟨M.1,M.2.1,(f.2.2.2.2 b (C0 Y)).trans M.2.2⟩;have q:FarA (w.setCell ⟨a,j,T⟩ (J H v)) B b P (Aw (I ⟨a,0,T⟩) 128 128) E a:=⟨S,f2,Y,Z,rfl,g⟩;have cf:=M.cf;have U:=c.cf;obtain⟨t,D⟩:=nm (w.setCell ⟨a,j,T⟩ (J H v));have Q:=wN D.symm;rw[<- D] at f g r A c q U;have KE:=wN (fy q.isl S hL);have a2:Hid (∀ k,P k->k<t.heap.size):=wN r.lt;have KP:=wN (fun(V:z) (u:AA) (G:AB t.heap.size t V) (hu:BSl V u (FT E))=>Yz (r.low G) hw hp aW tq ho (l:=FT E) (by rw[FT,FY]) hu);have HC:Hid (∀ V,AB t.heap.size t V->V.cell? ⟨b,0,T⟩=I (C (I ⟨bf,0,T⟩))/\V.cell? ⟨b,15,T⟩=I (J H (m:Nat))/\V.cell? ⟨bf,0,T⟩=I p):=wN fun V hv=>⟨(c.low hv).c0,by rw[(c.low hv).cm,hm],(A.low hv).cell⟩
 have HE:Hid (∀ (V K:z) (o:Nat->Prop),AB t.heap.size t V->Chg P o V K->ChAt K b bf n x (Aw (I ⟨a,0,T⟩) 128 128)/\FarA K B b o (Aw (I ⟨a,0,T⟩) 128 128) E a/\Chg (PM P (·=a)) (PM o (·=a)) w K/\¬ o b):=wN fun V K o G O=>
  ⟨((c.low G).chg O R).1,(q.low G).chg O,(Chg.one (P:=P) f).trans ((Chg.of_below G).trans (O.pm _)),((c.low G).chg O R).2⟩
 clear h hw hp hf M R W f2 Y Z L hL hm aW tq ho f g S o7 hj r A c q D F5 hi;go_enter func144,ntmps144;go_upto_region 5 with(fail)
 rw[Q.out]
 go_wp2_with (go_at_call 181;refine KE.out.mono ?_;rintro e w2 ⟨u,rfl,hu,a0⟩
              have y:AB t.heap.size t w2.drew:=a0.drew;have sI:BSl w2.drew u (FT E):=hu.bsl.below ((AP _ _).drew);obtain⟨c0,a3,cb⟩:=HC.out _ y)
 go_still_tail 13,Ac
 go_wp2_with (go_at_call 50;refine Ad (KP.out _ _ y sI) ?_;rintro w3 ⟨P3,gk,a1⟩)
 go_ret;exact⟨rfl,P3,gk,HE.out _ _ _ y a1⟩
end
section
variable {w:z}{P:Nat->Prop}{d p:AA}{X:XSt}{S:Ab}{N:Ae}{O:Ag}{kk:Nat}{bf:Nat}
structure Stil (S:Ab) (kk:Nat):Prop where
 top:RP S
 s0:num S 0=64*(kk:Int)
 lim:V7 S=64*(kk:Int)
def YW(h:SInv w P d p X)(t:X.wi=AQ)(hp:X.put.length<=35)(B:Has X.call O kk)(r:OOk O kk)(hf:FsAt w bf p)(D:Tab X.call S N)(l:Stil S kk)(a:Int){i j:Int}(hi:0<=i/\i<=65535)(G:0<=j/\j<=65535)(y:Gu i j=AQ)(z:i≠0)(A:i≠65535){f:Nat}
 (F:(Dz O (64*kk):Int)<62*(kk:Int)-42) (K:f<64*kk) (o:G4 O (64*kk) (GZ (64*kk) a)=f) (v:CZ (f:Int)=AN):
 AH Aq 180 #[C (I ⟨bf,0,T⟩),J H a,BS #[J .u16 i,J .u16 j]] w fun e w'=>e=s (AT #[J H f,J H 0])/\∃ c,SInv w' c d p (OC X (f / 64) (FI (O.set f (i,j)) (f / 64)))/\Chg P c w w':=by
 have u:X.cur=X.call:=by unfold XSt.cur;rw[AG t]
 have m:Tab X.cur S N:=by rw[u];exact D
 refine(QK (R:=fun x E V w'=>x=(f:Int)/\E=0/\∃ c,SInv w' c d p (OC X (f / 64) (FI (O.set f (i,j)) (f / 64)))/\Chg P c V w') h hf m l.top (AP _ _) ?_ ?_).mono ?_
 . rintro x E V w' b L q ⟨_,_,c,_,k⟩
   exact(k.keep b q fun hp=>by have:=h.lt _ hp;omega).1
 . intro V n
   rw[l.s0,l.lim];refine Ad (Y0 (h.low n) t hp B r r.k1 (AE _) (AE _) a hi G y z A F K o v) ?_;rintro w' ⟨c,g,k⟩;exact⟨(f:Int),0,rfl,rfl,rfl,c,g,k⟩
 . rintro e w' ⟨x,E,V,rfl,n,rfl,rfl,c,g,k⟩
   exact⟨rfl,c,g,(Chg.of_below n).trans k⟩
def Vb(h:SInv w P d p X)(A:X.wi=AQ)(u:Has X.call O kk)(o:OOk O kk)(hf:FsAt w bf p)(v:Tab X.call S N)(k:Stil S kk)(a:Int){i j:Int}(hi:0<=i/\i<=65535)(z:0<=j/\j<=65535)(q:Gu i j=AQ)(r:i≠0)(t:i≠65535)
 (y:62*(kk:Int)-42<=(Dz O (64*kk):Int)):
 AH Aq 180 #[C (I ⟨bf,0,T⟩),J H a,BS #[J .u16 i,J .u16 j]] w fun e w'=>e=s (AT #[J H 0,J H 13])/\AB w.heap.size w w':=by
 have n:X.cur=X.call:=by unfold XSt.cur;rw[AG A]
 have l:Tab X.cur S N:=by rw[n];exact v
 have g:Has X.cur O kk:=by rw[n];exact u
 refine(QK (R:=fun x E V w'=>x=0/\E=13/\AB V.heap.size V w') h hf l k.top (AP _ _) ?_ ?_).mono ?_
 . rintro x E V w' b B m ⟨_,_,c⟩
   exact c.block b m
 . intro V f
   rw[k.s0,k.lim];refine Ad (VR (h.low f) g o o.k1 (AE _) (AE _) a hi z q r t y) ?_;rintro w' c;exact⟨0,13,rfl,rfl,rfl,c⟩
 . rintro e w' ⟨x,E,V,rfl,f,rfl,rfl,c⟩
   exact⟨rfl,f.trans (c.mono f.size)⟩
def UK{W:z}{d n:Nat}{x:Ab}{m:AA}(h:ChAt W d bf n x m)(p:n<48){b:Int}{a:Nat}(o:a<=65535){R:z->Prop}
 (j:∀ V,AB W.heap.size W V->AH Aq 180 #[C (I ⟨bf,0,T⟩),J H b,BS #[J .u16 n,J .u16 a]] V fun e w'=>e=s (AT #[J H 0,J H 13])/\AB V.heap.size V w'):
 AH Aq 142 #[C (I ⟨d,0,T⟩),J H b,J H a] W fun e w'=>e=s (AT #[J H 0,J H 13])/\AB W.heap.size W w':=by
 have l:=wN j;have t:IntKind.u16.wrap (n:Int)=(n:Int):=IntWalk.u16_in _ Aa;have u:IntKind.u16.wrap (a:Int)=(a:Int):=IntWalk.u16_in _ Aa;have i:Hid (∀ V,AB W.heap.size W V->V.cell? ⟨d,0,T⟩=I (C (I ⟨bf,0,T⟩))/\V.cell? ⟨d,1,T⟩=I (J H n)):=wN fun V k=>⟨(h.low k).c0,(h.low k).c1⟩
 have f:AB W.heap.size W W.drew:=(AP _ _).drew;have q:=i.out _ f;clear h p o j;go_enter func142,ntmps142;go_wp2
 go_region_held3 (fun V=>V.cell? ⟨d,0,T⟩=I (C (I ⟨bf,0,T⟩))/\V.cell? ⟨d,1,T⟩=I (J H n)) (first|exact q|exact r) (first|(go_at_call 180;(with_reducible refine Ad (l.out _ f) ?_);rintro v g;have c:=f.trans (g.mono f.size);have r:=i.out _ c))
 all_goals
  go_wp2;go_ret2;exact⟨rfl,c⟩
def Y8{W:z}{g n:Nat}{x:Ab}{fv:AA}(y:ChAt W g bf n x fv)(t:¬ P g)(hf:FsAt W bf p)(Y:¬ P bf)(hn:n<48){h:Int}{a:Nat}(ha:a<=65535){X1:XSt}{f:Nat}(D:∀ k,P k->k<W.heap.size)
 (L:∀ V,AB W.heap.size W V->AH Aq 180 #[C (I ⟨bf,0,T⟩),J H h,BS #[J .u16 n,J .u16 a]] V fun e w'=>e=s (AT #[J H f,J H 0])/\∃ c,SInv w' c d p X1/\Chg P c V w')
 (S:X1.wi=AQ) (hp:X1.put.length<37) (O:f<X1.is.length) (X:f<768) (Q:D7 f):
 AH Aq 142 #[C (I ⟨g,0,T⟩),J H h,J H a] W fun e w'=>e=s (AT #[J H f,J H 0])/\∃ c,SInv w' c d p (Rf X1 f z256)/\Chg P c W w':=by
 have KT:=wN L;have e1:IntKind.u16.wrap (n:Int)=(n:Int):=IntWalk.u16_in _ Aa;have e2:IntKind.u16.wrap (a:Int)=(a:Int):=IntWalk.u16_in _ Aa;have q:Hid (∀ V c,Chg P c W V->V.cell? ⟨g,0,T⟩=I (C (I ⟨bf,0,T⟩))/\V.cell? ⟨g,1,T⟩=I (J H n)/\V.cell? ⟨bf,0,T⟩=I p):=wN fun V c E=>⟨(y.chg E t).1.c0,(y.chg E t).1.c1,(hf.chg E Y).1.cell⟩
 have N:AB W.heap.size W W.drew:=(AP _ _).drew;have i:Chg P P W W.drew:=Chg.of_below N;have U:=q.out _ _ i;obtain⟨Z,w⟩:=nm (AW 256 (J .u8 0));have rY:=fun W=>YM W 256 Af 256 rfl
 have KP:Hid (∀ (V:z) (v:Nat->Prop),SInv V v d p X1->AH Aq 50 #[p,J H f,Aw (I ⟨V.heap.size,0,T⟩) 256 256] (V.alloc (Ay Z 5)).drew fun e w'=>e=s (J H 0)/\∃ c,SInv w' c d p (Rf X1 f z256)/\Chg v c V w'):=wN fun V v hi=>by
  have M:=AF V (Ay Z 5);have R:=AC V (Ay Z 5);rw[w] at M R |-
  have j:=M.drew;exact(Yz (hi.low j) S hp O X Q (l:=z256) Bg (Qi R)).mono fun e w' ⟨he,c,A,hg⟩=>⟨he,c,A,(Chg.of_below j).trans hg⟩
 rw[<- w] at rY;clear y hn ha L t hf Y D S hp O X Q w;go_enter func142,ntmps142;go_wp2
 go_region_held3 (fun V=>V.cell? ⟨g,0,T⟩=I (C (I ⟨bf,0,T⟩))/\V.cell? ⟨g,1,T⟩=I (J H n)/\V.cell? ⟨bf,0,T⟩=I p) (first|exact U|exact F) (first|(go_at_call 180;(with_reducible refine Ad (KT.out _ N) ?_);rintro r ⟨P2,o,m⟩;have b:=i.trans m;have F:=q.out _ _ b))
 all_goals
  have G:=wN b;have u:=wN (KP.out _ _ o);have s3:(r.drew).cell? ⟨g,0,T⟩=I (C (I ⟨bf,0,T⟩))/\(r.drew).cell? ⟨g,1,T⟩=I (J H n)/\(r.drew).cell? ⟨bf,0,T⟩=I p:=F;have s4:=q.out _ _ (b.trans (Chg.of_below (AF r (Ay Z 5)).drew));clear o m b i U F;go_wp2
  go_region_held3 (fun V=>V.cell? ⟨g,0,T⟩=I (C (I ⟨bf,0,T⟩))/\V.cell? ⟨g,1,T⟩=I (J H n)/\V.cell? ⟨bf,0,T⟩=I p) (first|exact s3|exact s4|exact s5) (first|(go_at_call 50;(with_reducible refine Ad u.out ?_);rintro w5 ⟨P5,B,K⟩;have s5:=q.out _ _ (G.out.trans K)))
  all_goals
   go_wp2;go_ret2;exact⟨rfl,P5,B,G.out.trans K⟩
end
end
section
open Go.RowKit
def Oc(O:Ag)(f:Nat)(o:Int × Int):∀ L,L<=f->Dz (O.set f o) L=Dz O L
 |0,_=>rfl
 |L+1,h=>by
  have a:=Oc O f o L Aa;have e:Df (O.set f o) L=Df O L:=by unfold Df;rw[Az,BB Aa,<- Az]
  unfold Dz;rw[a,e]
def ME{O:Ag}{f:Nat}{i j:Int}(b:f<O.length)(hf:Df O f=AQ)(d:CZ (f:Int)=AN)(c:i≠0):∀ L,f<L->Dz (O.set f (i,j)) L=Dz O L+1
 |0,h=>absurd h (Bm _)
 |L+1,h=>by
  by_cases e:L=f
  . subst e
    have g:=Oc O L (i,j) L (AE _);have a:Df (O.set L (i,j)) L=AN:=(by unfold Df;rw[BM.getD_set _ _ _ _ _ b,AG rfl];exact AM c);unfold Dz;rw[g,a,hf,d];simp
  . have k:=ME (j:=j) b hf d c L Aa
    have a:Df (O.set f (i,j)) L=Df O L:=(by unfold Df;rw[Az,BB Aa,<- Az]);unfold Dz;rw[k,a];omega
def m7:∀ kk,kk<5->1<=kk->Dz (Gv kk) (64*kk)=6:=by decide +kernel
end
section
open Go.RowKit BM
structure Pl (Ex:Nat->Nat->Prop) (G:Ae) (S:Ab) (N:Ae) (O:Ag) (kk:Nat) (F:Nat->Ab):Prop where
 has:Has G O kk
 ok:OOk O kk
 tab:Tab G S N
 fi:Fils Ex G S N O kk F
def fixB_lo:CZ 0=AQ/\CZ 63=AQ:=by unfold CZ;exact⟨AK Aa,AK Aa⟩
def Gq{f:Nat}(h:CZ (f:Int)=AN):f≠0/\f≠63:=by
 constructor
 . intro e;subst e;rw[show((0:Nat):Int)=0 from rfl,fixB_lo.1] at h;cases h
 . intro e;subst e;rw[show((63:Nat):Int)=63 from rfl,fixB_lo.2] at h;cases h
def T5{x F:Ab}(a:Ee x=AQ)(j:F.length=128/\FN F=AQ){i:Nat}(hi:i<139):0<=Ch x F i/\Ch x F i<=767:=by
 have f:0<=num zeroI 13/\∀ k,num zeroI k=0:=by
  refine⟨Af,fun k=>?_⟩;by_cases h:k<14
  . revert k;decide
  . unfold num zeroI
    rw[Az,Bf Ak];rfl
 have c:∀ k,k<128->0<=num F k/\num F k<=767:=fun k l=>inB_iff.1 ((E9 F).1 j.2 k Aa)
 unfold Ee at a;by_cases b:x.getD 0 0=0
 . rw[AG b] at a
   have e:=Ba a;unfold Ch;rw[e];split
   . rw[f.2];decide
   . split
     . rw[f.2];decide
     . exact c _ Aa
 . rw[AJ b] at a
   unfold Md at a;simp only[A0] at a;unfold Ch;split
   . next g=>
     by_cases d:i<((x.drop 3).take 10).length
     . have:=inB_iff.1 ((E9 _).1 a.2.2.2.1 i d)
       have e:((x.drop 3).take 10).getD i 0=num x (3+i):=by
        unfold num;rw[Az,Bb,AG g,Bv,Az]
       rw[e] at this;exact this
     . have:num x (3+i)=0:=by
        unfold num;rw[Az,Bf];· rfl
        rw[AV,By] at d;omega
       rw[this];decide
   . split
     . exact inB_iff.1 a.2.2.2.2
     . exact c _ Aa
def Wm{x:Ab}(o:x.length=14)(c:Ee x=AQ)(g:num x 0≠0){a:Nat}(n:3<=a)(l:a<14){v:Int}(hv:0<=v/\v<=767):Ee (x.set a v)=AQ:=by
 have f:∀ b,b≠a->(x.set a v).getD b 0=x.getD b 0:=fun b m=>by
  have:=Dg (x:=x) (a:=a) Aa v b;unfold num at this;rw[this,AJ m]
 unfold Ee at c |-
 unfold num at g;rw[AJ g] at c;rw[f 0 Aa,f 1 Aa,f 2 Aa,AJ g];unfold Md at c |-
 simp only[A0] at c |-
 have i:Ub ((x.set a v).getD 13 0)=AQ:=by
  by_cases e:a=13
  . subst e
    have:=Dg (x:=x) (a:=13) Aa v 13;unfold num at this;rw[this,AG rfl];exact inB_iff.2 hv
  . rw[f 13 (C0 e)];exact c.2.2.2.2
 refine⟨c.1,c.2.1,c.2.2.1,?_,i⟩;rw[E9];intro j d;have h:j<10:=by rw[AV] at d;omega
 have e:((x.set a v).drop 3 |>.take 10).getD j 0=num (x.set a v) (3+j):=by
  unfold num;rw[Az,Bb,AG h,Bv,Az]
 have k:((x.drop 3).take 10).getD j 0=num x (3+j):=by
  unfold num;rw[Az,Bb,AG h,Bv,Az]
 rw[e,Dg Aa];split
 . exact inB_iff.2 hv
 . rw[<- k]
   exact(E9 _).1 c.2.2.2.1 j (by rw[AV,By] at d |-;rw[AR] at d;exact d)
def kv{F:Ab}(h:FN F=AQ)(a:Nat){v:Int}(hv:0<=v/\v<=767):FN (F.set a v)=AQ:=by
 unfold FN at h |-
 rw[Dn] at h |-
 intro y c;rcases Ea c with b|b
 . exact h y b
 . rw[b];exact inB_iff.2 hv
section
variable {G:Ae}{S:Ab}{N:Ae}{O:Ag}{kk:Nat}{F:Nat->Ab}
def qS{O:Ag}{k:Nat}(h:OOk O k){v:Nat}(hv:(O.getD v (0,0)).1≠0):v<64*k:=by
 apply Classical.byContradiction;intro a;apply hv;rw[Az,Bf (by rw[h.len];omega)];rfl
def kh{O:Ag}{k:Nat}(h:OOk O k){v:Nat}(a:1<=(O.getD v (0,0)).1)(b:(O.getD v (0,0)).1<48):CZ (v:Int)=AN:=by
 rw[<- h.fx v (qS h Aa)];exact AM Aa
def nV(G:Ae){g:Nat}(b:g<12)(D:Ag){v:Nat}(hv:CZ (v:Int)=AN):(putG G g D).getD v []=G.getD v []:=by
 have a:=Mx b;unfold putG;rw[BQ _ _ _ fun e=>?_,BQ _ _ _ fun e=>?_]
 . rw[e,a.2.1] at hv;cases hv
 . rw[e,a.1] at hv;cases hv
def lm(G:Ae)(g:Nat)(D:Ag):(putG G g D).length=G.length:=by unfold putG;rw[AR,AR]
def OM(G:Ae)(O:Ag)(f:Nat)(q:Int × Int):Ae:=(putG G (f / 64) (FI (O.set f q) (f / 64))).set f z256
def Pl.take(h:Pl EZ G S N O kk F){f:Nat}(hf:Df O f=AQ)(m:CZ (f:Int)=AN)(d:f<64*kk){i j:Int}(hi:0<=i/\i<=65535)(z:0<=j/\j<=65535)(r:Gu i j=AQ)(u:i≠0)(x:i≠65535):
 Pl EZ (OM G O f (i,j)) S N (O.set f (i,j)) kk F/\OwAt (O.set f (i,j)) kk f (i,j)/\(OM G O f (i,j)).getD f []=z256/\Dz (O.set f (i,j)) (64*kk)=Dz O (64*kk)+1/\DataK O (O.set f (i,j)) G (OM G O f (i,j)):=by
 have g:=h.ok.k12;have k:f<O.length:=by rw[h.ok.len];exact d
 have l:=Gq m;have y:f<G.length:=by rw[h.has.len];exact d
 have q:=lm G (f / 64) (FI (O.set f (i,j)) (f / 64));refine⟨⟨(h.has.put d _).other g (A8 (A8 m)) _,h.ok.set d m hi z r x,?_,?_⟩,⟨Aa,m,by rw[Cf,getD_set _ _ _ _ _ k,AG rfl]⟩,?_,ME k hf m u _ d,fun v a b c e=>?_⟩
 . refine(h.tab.putG (show f / 64<12 from Aa) _).same (by unfold OM;rw[AR]) fun v D=>BQ _ _ _ ?_
   rcases D with rfl|rfl| ⟨t,C,rfl⟩
   . exact C0 l.1
   . exact C0 l.2
   . intro e
     have:=h.fi.tb t C;unfold Df at hf;rw[e] at this;rw[this] at hf;cases Ba hf
 . refine(h.fi.take hf d g _).data (fun n w p A e=>?_) _
   have B:=h.fi.map w p id A;have:=PY Aa B;rw[e,hf] at this;cases this
 . unfold OM
   rw[getD_set _ _ _ _ _ (by rw[q];exact y),AG rfl]
 . have o:v≠f:=fun s=>by
    rw[s] at e a;unfold Df at hf;rw[<- e,Ba hf] at a;cases a
   unfold OM;rw[BQ _ _ _ o,nV _ Aa _ (kh h.ok (v:=v) (by rw[e];exact a) (by rw[e];exact b))]
def OE(G:Ae)(S:Ab)(N:Ae)(n:Nat)(y:Ab):Ae:=G.set (C5 S (n / 8)) (Gw (Jv (N.set n y) (n / 8)))
def Pl.node{j:Nat->Nat->Prop}(h:Pl j G S N O kk F){n:Nat}(m:1<=n)(g:n<48){y:Ab}(p:y.length=14)(q:Ee y=AQ)(o:∀ a b,j a b->a=n)
 (k:num y 13=0->F n=AI 128 0) (f:num y 13≠0->G.getD (num y 13).toNat []=FT (F n))
 (r:∀ i,i<139->Ch y (F n) i≠0->OwAt O kk (Ch y (F n) i) ((n:Int),Jt i)):
 Pl EZ (OE G S N n y) S (N.set n y) O kk F/\DataK O O G (OE G S N n y):=by
 have d:=E6 h.tab.sf (show n / 8<6 from Aa);refine⟨⟨h.has.other h.ok.k12 (A8 (A8 d.2.2.2.1)) _,h.ok,h.tab.putI g p q,h.fi.node m g h.tab.n.len o k f r _⟩,fun v a b c e=>?_⟩;unfold OE;refine BQ _ _ _ fun l=>?_
 rw[l,h.fi.tb _ (show n / 8<6 from Aa)] at b;simp only at b;omega
def Pl.far{k:Nat->Nat->Prop}(h:Pl k G S N O kk F){n:Nat}(q:1<=n)(p:n<48){m:Nat}(o:num (N.getD n []) 13=(m:Int))(r:m≠0)(g:¬ k n 138){L:Ab}(y:L.length=128)(hf:FN L=AQ)(w:∀ a b,k a b->a=n)
 (B:∀ i,10<=i->i<138->num L (i-10)≠0->OwAt O kk (num L (i-10)) ((n:Int),Jt i)) (l:∀ i,i<10->¬ k n i):
 Pl EZ (G.set m (FT L)) S N O kk (setF F n L)/\DataK O O G (G.set m (FT L)):=by
 have d:=h.fi.map q p g (by rw[o];omega);rw[o] at d;have j:=Gq d.2.1;have x:m<G.length:=by rw[h.has.len];have:=d.1;omega
 refine⟨⟨h.has.other h.ok.k12 (A8 (A8 d.2.1)) _,h.ok,h.tab.same (by rw[AR]) fun v A=>BQ _ _ _ ?_,h.fi.far q p o r g x y hf w B l⟩,fun v a b c e=>?_⟩
 . rcases A with rfl|rfl| ⟨t,z,rfl⟩
   . exact C0 j.1
   . exact C0 j.2
   . intro e
     have u:=h.fi.tb t z;have f:=d.2.2;rw[Cf,<- e,u] at f;have:=(D4 f).1;omega
 . refine BQ _ _ _ fun s=>c ?_
   have f:=d.2.2;rw[Cf,<- s] at f;rw[f]
def PutS(X:XSt)(Q:Ab):Prop:=X.put.Nodup/\∀ a∈X.put,a∈Q
end
def QR:∀ (l Q:Ab),l.Nodup->(∀ a∈l,a∈Q)->l.length<=Q.length
 |[],_,_,_=>A7 _
 |a :: l,Q,hn,h=>by
  obtain⟨f,g⟩:=List.nodup_cons.1 hn;have c:=h a (CO);have:=QR l (Q.erase a) g fun b d=>(List.mem_erase_of_ne (by rintro rfl;exact f d)).2 (h b (B9 _ d))
  rw[List.length_erase_of_mem c] at this;have:=List.length_pos_of_mem c;simp only[BJ];omega
def PutS.le{X:XSt}{Q:Ab}(h:PutS X Q):X.put.length<=Q.length:=QR _ _ h.1 h.2
def Xd{l:Ab}(h:l.Nodup)(n:Int):(D9 l n).Nodup:=by
 unfold D9;split
 . exact h
 . next f=>exact List.nodup_append.2 ⟨h,Ai,fun a d c b e=>f (by simp at b;rw[<- b,<- e];exact d)⟩
def Yj{l:Ab}{n a:Int}(h:a∈D9 l n):a∈l\/a=n:=by
 unfold D9 at h;split at h
 . exact A4 h
 . rcases BU.1 h with h|h
   . exact A4 h
   . exact A8 (by simpa using h)
def PutS.add{X c:XSt}{Q:Ab}(h:PutS X Q){n:Int}(f:n∈Q)(e:c.put=D9 X.put n):PutS c Q:=
 ⟨by rw[e];exact Xd h.1 n,fun a d=>by
   rw[e] at d;rcases Yj d with b|b
   . exact h.2 a b
   . rw[b];exact f⟩
def PutS.wide{X:XSt}{Q b:Ab}(h:PutS X Q)(d:∀ a∈Q,a∈b):PutS X b:=⟨h.1,fun a c=>d a (h.2 a c)⟩
def Ku{n:Nat}(b:1<=n)(a:n<48){i:Nat}(hi:i<139):Gu (n:Int) (Jt i)=AQ:=by
 unfold Gu;rw[AJ Aa,AJ Aa,A0,Bool.or_eq_true,Bh,Bh,Bh];refine⟨Aa,?_⟩;unfold Jt;split
 . exact A8 rfl
 . exact A4 Aa
def R9{x F:Ab}(c:x.length=14){i:Nat}(hi:i<10)(v:Int)(b:Nat):Ch (x.set (3+i) v) F b=if b=i then v else Ch x F b:=by
 unfold Ch;by_cases a:b<10
 . rw[AG a,AG a,Dg Aa]
   by_cases e:b=i
   . rw[AG e,AG Aa]
   . rw[AJ e,AJ Aa]
 . have e:num (x.set (3+i) v) 13=num x 13:=by rw[Dg Aa,AJ Aa]
   rw[AJ a,AJ a,e,AJ (show ¬ b=i from Aa)]
def Rz{x F:Ab}(c:x.length=14)(v:Int)(b:Nat):Ch (x.set 13 v) F b=if b=138 then v else Ch x F b:=by
 unfold Ch;by_cases a:b<10
 . rw[AG a,AG a,Dg Aa,AJ Aa,AJ Aa]
 . rw[AJ a,AJ a,Dg Aa,AG rfl]
   split <;> rfl
def QB{x F:Ab}(f:F.length=128){i:Nat}(d:10<=i)(hi:i<138)(v:Int)(b:Nat):Ch x (F.set (i-10) v) b=if b=i then v else Ch x F b:=by
 unfold Ch;by_cases a:b<10
 . rw[AG a,AG a,AJ Aa]
 . rw[AJ a,AJ a]
   by_cases c:b=138
   . rw[AG c,AG c,AJ Aa]
   . rw[AJ c,AJ c,Dg Aa]
     by_cases e:b=i
     . rw[AG e,AG Aa]
     . rw[AJ e,AJ Aa]
def LQ{x y F c:Ab}{i:Nat}(hi:i<139)(d:Ch x F i=0){v:Int}(hv:v≠0)(h:∀ b,b<139->Ch y c b=if b=i then v else Ch x F b):Lq y c=Lq x F+1:=
 Lc d (by rw[h i hi,AG rfl];exact hv) 139 hi fun j f a=>by rw[h j f,AJ a]
structure Stp (S:Ab) (kk:Nat) (G N:Ae) (O:Ag) (F:Nat->Ab) (n:Nat) (G' N':Ae) (O':Ag) (F':Nat->Ab):Prop where
 pl:Pl EZ G' S N' O' kk F'
 hd:∀ j,j<3->num (N'.getD n []) j=num (N.getD n []) j
 oth:∀ m,m≠n->N'.getD m []=N.getD m []/\F' m=F m
 cnt:Dz O' (64*kk)+Lq (N.getD n []) (F n)=Dz O (64*kk)+Lq (N'.getD n []) (F' n)
 dat:DataK O O' G G'
 old:∀ u:Nat,(O.getD u (0,0)).1≠0->O'.getD u (0,0)=O.getD u (0,0)
section
variable {G:Ae}{S:Ab}{N:Ae}{O:Ag}{kk:Nat}{F:Nat->Ab}
def Stp.trans{n:Nat}{q s r t:Ae}{f l:Ag}{o p:Nat->Ab}(h:Stp S kk G N O F n q s f o)(k:Stp S kk q s f o n r t l p):Stp S kk G N O F n r t l p:=
 ⟨k.pl,fun j w=>(k.hd j w).trans (h.hd j w),fun m i=>⟨(k.oth m i).1.trans (h.oth m i).1,(k.oth m i).2.trans (h.oth m i).2⟩,by have:=h.cnt;have:=k.cnt;omega,
  fun v a b c e=>by
   have d:f.getD v (0,0)=O.getD v (0,0):=h.old v (by rw[e];omega);have g:f.getD v (0,0)=l.getD v (0,0):=d.trans e;rw[k.dat v a b c g,h.dat v (by rw[g];exact a) (by rw[g];exact b) (by rw[g];exact c) d.symm],
  fun u x=>by
   have d:=h.old u x;rw[k.old u (by rw[d];exact x),d]⟩
structure FreeB (O:Ag) (kk f:Nat):Prop where
 fr:Df O f=AQ
 fx:CZ (f:Int)=AN
 lt:f<64*kk
def Tq{f:Nat}(hf:Df O f=AQ)(a:f<O.length)(q:Int × Int)(u:Nat)(hu:(O.getD u (0,0)).1≠0):(O.set f q).getD u (0,0)=O.getD u (0,0):=by
 rw[getD_set _ _ _ _ _ a,AJ];intro e;subst e;unfold Df at hf;exact hu (Ba hf)
def Pl.mapNear(h:Pl EZ G S N O kk F){n i f:Nat}(d:1<=n)(c:n<48)(B:CE N n≠0)(hi:i<10)(x:Ch (N.getD n []) (F n) i=0)(hf:FreeB O kk f):
 Stp S kk G N O F n (OE (OM G O f (n,i)) S N n ((N.getD n []).set (3+i) f)) (N.set n ((N.getD n []).set (3+i) f)) (O.set f (n,i)) F/\Ee ((N.getD n []).set (3+i) f)=AQ/\
  (OE (OM G O f (n,i)) S N n ((N.getD n []).set (3+i) f)).getD f []=z256:=by
 have k:=h.tab.n.get c;have w:=h.tab.n.frm n c;have z:=h.ok.k12;have I:=hf.lt;have K:=(Gq hf.fx).1;have p:((i:Nat):Int)=Jt i:=by unfold Jt;rw[AJ Aa]
 obtain⟨o,u,D,E,H⟩:=h.take hf.fr hf.fx hf.lt (i:=(n:Int)) (j:=(i:Int)) Aa Aa (by rw[p];exact Ku d c Aa) Aa Aa;have s:=Wm k w B (a:=3+i) Aa Aa (v:=(f:Int)) Aa;have q:=fun b=>R9 (F:=F n) k hi (f:Int) b
 have g:num ((N.getD n []).set (3+i) (f:Int)) 13=num (N.getD n []) 13:=by rw[Dg Aa,AJ Aa]
 obtain⟨C,t⟩:=o.node d c (y:=(N.getD n []).set (3+i) (f:Int)) (by rw[AR];exact k) s (fun a b e=>e.elim)
  (by rw[g];exact h.fi.m0 n d c) (by rw[g];exact o.fi.m1 n d c) (fun b A l=>by
    rw[q] at l |-
    split
    . next e=>subst e;rw[<- p];exact u
    . next e=>rw[AJ e] at l;exact o.fi.ow n b d c A id l)
 have r:n<N.length:=by rw[h.tab.n.len];exact c
 refine⟨⟨C,fun j J=>?_,fun m g=>⟨BQ _ _ _ g,rfl⟩,?_,?_,Tq hf.fr (by rw[h.ok.len];exact hf.lt) _⟩,s,?_⟩
 . rw[Eb r,AG rfl,Dg Aa,AJ Aa]
 . rw[Eb r,AG rfl,E,LQ (i:=i) Aa x (v:=(f:Int)) Aa fun b _=>q b];omega
 . exact H.less t (Less.refl _)
 . have e:=u.2.2
   rw[Cf] at e;rw[t f (by rw[e];simp only;omega) (by rw[e];simp only;omega) (by rw[e];simp only;omega) rfl,D]
def Pl.mapFar(h:Pl EZ G S N O kk F){n i f m:Nat}(d:1<=n)(c:n<48)(u:10<=i)(hi:i<138)(y:Ch (N.getD n []) (F n) i=0)(hf:FreeB O kk f)(C:num (N.getD n []) 13=(m:Int))(w:m≠0):
 Stp S kk G N O F n ((OM G O f (n,i)).set m (FT ((F n).set (i-10) f))) N (O.set f (n,i)) (setF F n ((F n).set (i-10) f))/\FN ((F n).set (i-10) f)=AQ/\
  ((OM G O f (n,i)).set m (FT ((F n).set (i-10) f))).getD f []=z256:=by
 have z:=h.ok.k12;have J:=hf.lt;have M:=(Gq hf.fx).1;have l:((i:Nat):Int)=Jt i:=by unfold Jt;rw[AJ Aa]
 obtain⟨s,t,E,H,I⟩:=h.take hf.fr hf.fx hf.lt (i:=(n:Int)) (j:=(i:Int)) Aa Aa (by rw[l];exact Ku d c Aa) Aa Aa;have g:=h.fi.fl n;have o:=fun b=>QB (x:=N.getD n []) g.1 u hi (f:Int) b
 have p:=kv g.2 (i-10) (v:=(f:Int)) Aa;obtain⟨D,r⟩:=s.far d c C w id (L:=(F n).set (i-10) (f:Int)) (by rw[AR];exact g.1) p (fun a b e=>e.elim) (fun b q B k=>by
  have e:num ((F n).set (i-10) (f:Int)) (b-10)=Ch (N.getD n []) ((F n).set (i-10) (f:Int)) b:=by unfold Ch;rw[AJ Aa,AJ Aa]
  rw[e,o] at k |-
  split
  . next e=>subst e;rw[<- l];exact t
  . next e=>rw[AJ e] at k;exact s.fi.ow n b d c Aa id k) (fun b B=>id)
 refine⟨⟨D,fun j K=>rfl,fun a A=>⟨rfl,mE F A _⟩,?_,I.less r (Less.refl _),Tq hf.fr (by rw[h.ok.len];exact hf.lt) _⟩,p,?_⟩
 . rw[OT,H,LQ (i:=i) Aa y (v:=(f:Int)) Aa fun b _=>o b];omega
 . have e:=t.2.2
   rw[Cf] at e;rw[r f (by rw[e];simp only;omega) (by rw[e];simp only;omega) (by rw[e];simp only;omega) rfl,E]
def iQ:FT (AI 128 0)=z256:=Af
def Pl.addMap(h:Pl EZ G S N O kk F){n m:Nat}(d:1<=n)(c:n<48)(w:CE N n≠0)(o:num (N.getD n []) 13=0)(hf:FreeB O kk m):
 Stp S kk G N O F n (OE (OM G O m (n,65535)) S N n ((N.getD n []).set 13 m)) (N.set n ((N.getD n []).set 13 m)) (O.set m (n,65535)) F/\Ee ((N.getD n []).set 13 m)=AQ:=by
 have g:=h.tab.n.get c;have s:=h.tab.n.frm n c;have t:=h.ok.k12;have E:=hf.lt;have I:=(Gq hf.fx).1;obtain⟨r,A,B,C,D⟩:=h.take hf.fr hf.fx hf.lt (i:=(n:Int)) (j:=65535) Aa Aa (Ku d c (i:=138) Aa) Aa Aa;have q:=Wm g s w (a:=13) Aa Aa (v:=(m:Int)) Aa;have l:=fun b=>Rz (F:=F n) g (m:Int) b
 have f:num ((N.getD n []).set 13 (m:Int)) 13=(m:Int):=by rw[Dg Aa,AG rfl]
 obtain⟨x,z⟩:=r.node d c (y:=(N.getD n []).set 13 (m:Int)) (by rw[AR];exact g) q (fun a b e=>e.elim)
  (by rw[f];intro e;omega) (by rw[f,Cf,B,h.fi.m0 n d c o,iQ];exact fun _=>rfl) (fun b u k=>by
    rw[l] at k |-
    split
    . next e=>subst e;exact A
    . next e=>rw[AJ e] at k;exact r.fi.ow n b d c u id k)
 have p:n<N.length:=by rw[h.tab.n.len];exact c
 refine⟨⟨x,fun j H=>?_,fun m f=>⟨BQ _ _ _ f,rfl⟩,?_,D.less z (Less.refl _),Tq hf.fr (by rw[h.ok.len];exact hf.lt) _⟩,q⟩
 . rw[Eb p,AG rfl,Dg Aa,AJ Aa]
 . rw[Eb p,AG rfl,C,LQ (i:=138) Aa o (v:=(m:Int)) Aa fun b _=>l b];omega
end
section
variable {w:z}{P:Nat->Prop}{d p:AA}{X:XSt}{S:Ab}{N:Ae}{O:Ag}{kk:Nat}{bf:Nat}
def Q5{W:z}{a:Nat}(b:AH Aq 142 #[C (I ⟨a,0,T⟩),J H 0,J H 65535] W fun e w'=>e=s (AT #[J H 0,J H 13])/\AB W.heap.size W w'):
 AH Aq 141 #[C (I ⟨a,0,T⟩)] W fun e w'=>e=s (J H 13)/\AB W.heap.size W w':=by
 have K:=wN b;clear b;go_enter func141,ntmps141;go_wp2_with (go_at_call 142;refine Ad K.out ?_;rintro w' c)
 go_ret;exact⟨rfl,c⟩
def Tf{a m:Nat}(r:AH Aq 142 #[C (I ⟨a,0,T⟩),J H 0,J H 65535] w fun e w'=>e=s (AT #[J H m,J H 0])/\∃ b,SInv w' b d p X/\Chg P b w w')
 (hw:X.wi=AQ) (hp:X.put.length<37) (hf:FsAt w bf p) (vt:¬ P bf) (hT:Tab X.call S N) {n:Nat} (h1:1<=n) (U:n<48) {x:Ab} {q:AA} (t:ChAt w a bf n x q) (G:¬ P a) (L:Ee (x.set 13 m)=AQ):
 AH Aq 141 #[C (I ⟨a,0,T⟩)] w fun e w'=>e=s (J H 0)/\∃ b,SInv w' b d p (putI X S N n (x.set 13 m))/\ChAt w' a bf n (x.set 13 m) q/\Chg (PM P (·=a)) (PM b (·=a)) w w'/\¬ b a:=by
 have K:=wN r;have Z:Hid ((x.set 13 (m:Int)).length=14):=wN (by rw[AR];exact t.1);have u1:=underlying44;obtain⟨y,R⟩:=nm (x.set 13 (m:Int));rw[<- R] at L Z |-
 have Y:Hid (∀ V b,Chg P b w V->V.cell? ⟨a,15,T⟩=I (J H (num x 13))/\V.frozen? ⟨a,15,T⟩=AN):=wN fun V b o=>⟨(t.chg o G).1.cm,(t.chg o G).1.free 15⟩
 have HD:Hid (∀ V b,Chg P b w V->SInv V b d p X->ChAt (V.setCell ⟨a,15,T⟩ (J H m)).drew a bf n y q/\Chg (PM P (·=a)) (PM b (·=a)) w (V.setCell ⟨a,15,T⟩ (J H m)).drew/\
  AH Aq 26 #[C (I ⟨bf,0,T⟩),J H n,BS (iC y).toArray] (V.setCell ⟨a,15,T⟩ (J H m)).drew fun e w'=>e=s (J H 0)/\∃ g,SInv w' g d p (putI X S N n y)/\ChAt w' a bf n y q/\Chg b g (V.setCell ⟨a,15,T⟩ (J H m)).drew w'/\¬ g a):=wN fun V b o hi=>by
  obtain⟨u,L0⟩:=t.chg o G;obtain⟨A,a0⟩:=hf.chg o vt;have l:=Wrote.setCell V a 15 (J H (m:Int));have i:=u.setN (k:=13) Af (m:Int);rw[show 2+13=15 from Aj,<- R] at i;have z:=(AP (V.setCell ⟨a,15,T⟩ (J H (m:Int))).heap.size (V.setCell ⟨a,15,T⟩ (J H (m:Int)))).drew;have Q:FsAt (V.setCell ⟨a,15,T⟩ (J H (m:Int))) bf p:=(l.2.2.2.2 bf (A.ne_ch u)).trans A;exact⟨i.low z,(o.pm _).trans ((Chg.one (P:=b) l).trans (Chg.of_below z)),pY ((hi.wrote l L0).low z) hw hp (Q.low z) hT h1 U (i.low z) L0 L⟩
 obtain⟨m0,Ij⟩:=nm (num x 13);rw[<- Ij] at Y;clear r hw hp hf vt hT h1 U t G L R Ij;go_enter func141,ntmps141;go_upto_region 5 with(go_at_call 142;refine Ad K.out ?_;rintro w2 ⟨P2,E,j⟩;obtain⟨M,O⟩:=Y.out _ _ j)
 obtain⟨hS,B,F⟩:=HD.out _ _ j E;have HG:=wN B;have KP:=wN F;clear j E M O B F;refine wp_region_held_drew (S:=fun W=>ChAt W a bf n y q) Ac hS (fun c=>?_);clear c;refine tk 0 (C (I ⟨a,0,T⟩)) rfl Ac (fun _ _ _ h=>h) (A4 ⟨Aj,?_⟩) Ah ?_
 . intro W f;go_simp
 (try simp only[Act.put,q1,q2,q3,q4,q5])
 refine tk 1 (C (I ⟨a,0,T⟩)) rfl Ac (fun _ _ _ h=>h) (A4 ⟨Aj,?_⟩) Ah ?_
 . intro W f;go_simp
 (try simp only[Act.put,q1,q2,q3,q4,q5,q6])
 refine tk 2 (C (I ⟨a,0,T⟩)) rfl Ac (fun _ _ _ h=>h) (A4 ⟨Aj,?_⟩) Ah ?_
 . intro W f;go_simp
 (try simp only[Act.put,q1,q2,q3,q4,q5,q6])
 refine tk 3 (C (I ⟨bf,0,T⟩)) rfl Ac (fun _ _ _ h=>h) (A4 ⟨Aj,?_⟩) Ah ?_
 . intro W f;have f0:=f.c0;go_simp
 (try simp only[Act.put,q1,q2,q3,q4,q5,q6])
 refine tk 4 (C (I ⟨a,0,T⟩)) rfl Ac (fun _ _ _ h=>h) (A4 ⟨Aj,?_⟩) Ah ?_
 . intro W f;go_simp
 (try simp only[Act.put,q1,q2,q3,q4,q5,q6])
 refine tk 5 (C (I ⟨a,0,T⟩)) rfl Ac (fun _ _ _ h=>h) (A4 ⟨Aj,?_⟩) Ah ?_
 . intro W f;go_simp
 (try simp only[Act.put,q1,q2,q3,q4,q5,q6])
 refine tk 6 (C (I ⟨a,1,T⟩)) rfl Ac (fun _ _ _ h=>h) (A4 ⟨Aj,?_⟩) Ah ?_
 . intro W f;go_simp
 (try simp only[Act.put,q1,q2,q3,q4,q5,q6])
 refine tk 7 (J H n) rfl Ac (fun _ _ _ h=>h) (A4 ⟨Aj,?_⟩) Ah ?_
 . intro W f;have f1:=f.c1;go_simp
 (try simp only[Act.put,q1,q2,q3,q4,q5,q6])
 refine tk 8 (C (I ⟨a,0,T⟩)) rfl Ac (fun _ _ _ h=>h) (A4 ⟨Aj,?_⟩) Ah ?_
 . intro W f;go_simp
 (try simp only[Act.put,q1,q2,q3,q4,q5,q6])
 refine tk 9 (C (I ⟨a,0,T⟩)) rfl Ac (fun _ _ _ h=>h) (A4 ⟨Aj,?_⟩) Ah ?_
 . intro W f;go_simp
 (try simp only[Act.put,q1,q2,q3,q4,q5,q6])
 refine tk 10 (C (I ⟨a,2,T⟩)) rfl Ac (fun _ _ _ h=>h) (A4 ⟨Aj,?_⟩) Ah ?_
 . intro W f;go_simp
 (try simp only[Act.put,q1,q2,q3,q4,q5,q6])
 refine tk 11 (BS (iC y).toArray) rfl Ac (fun _ _ _ h=>h) (yieldsIf_load_mid rfl 44 (.tmp 28) rfl a 2 rfl (iC y) _ (fun W hW=>hW.rng) u1 rfl (by rw[Hs,CF,Z.out])) Ah ?_
 (try simp only[Act.put,q1,q2,q3,q4,q5,q6])
 refine wpAnyH_ready (rs:=[12]) Ac Ai (AllReadyH.cons rfl (fun K r=>?_) AllReadyH.nil)
 go_simp
 go_at_call 26
 refine Ad KP.out ?_;rintro w4 ⟨P4,lv,v,D⟩;refine r.out _ _ v (fun c=>?_);clear r K c
 (try simp only[Act.put,q1,q2,q3,q4,q5,q6])
 refine tk 13 (J H 0) rfl Ac (fun _ _ _ h=>h) (A4 ⟨Aj,?_⟩) Ah ?_
 . intro W f;go_simp
 (try simp only[Act.put,q1,q2,q3,q4,q5,q6])
 refine wpAnyH_done Ac ?_ _;go_wp2;go_ret;exact⟨rfl,P4,lv,v,HG.out.trans (D.1.pm _),D.2⟩
end
section
variable {w:z}{f:AA}{n i:Nat}{R0 R1 R2:Nat->z->Prop}{R3:z->Prop}
def sY{i:Int}(a:AH Aq 139 #[f,J H n,J H i] w fun e w'=>e=s (AT #[C T,J H 1])/\R3 w'):
 AH Aq 103 #[f,J H n,J H i] w fun e w'=>e=s (AT #[J H 0,J H 1])/\R3 w':=by
 have K:=wN a;clear a;go_enter func103,ntmps103;go_wp2_with (go_at_call 139;refine Ad K.out ?_;rintro c b)
 go_ret2;exact⟨rfl,b⟩
def br{v:Int}(hv:v≠0)(d:AH Aq 139 #[f,J H n,J H i] w fun e w'=>∃ a,e=s (AT #[C (I ⟨a,0,T⟩),J H 0])/\R0 a w')
 (c:∀ a V,R0 a V->AH Aq 140 #[C (I ⟨a,0,T⟩),J H i] V fun e w'=>e=s (J H v)/\V=w'):
 AH Aq 103 #[f,J H n,J H i] w fun e w'=>e=s (AT #[J H v,J H 0])/\∃ a,R0 a w':=by
 have K:=wN d;have g:=wN c;have h:(v != 0)=AQ:=by simpa using hv
 clear d c hv;go_enter func103,ntmps103
 go_wp2_with (first|(go_at_call 139;refine K.out.mono ?_;rintro e j ⟨a,rfl,b⟩)|(go_at_call 140;refine Ad (g.out _ _ b) ?_;rintro w' rfl))
 go_ret2;exact⟨rfl,a,b⟩
def Qh{mp g:Int}{E v:Int}(h:¬ ((10:Int)<=i/\mp=0))(u:AH Aq 139 #[f,J H n,J H i] w fun e w'=>∃ a,e=s (AT #[C (I ⟨a,0,T⟩),J H 0])/\R0 a w')
 (r:∀ a V,R0 a V->AH Aq 140 #[C (I ⟨a,0,T⟩),J H i] V fun e w'=>e=s (J H 0)/\V=w')
 (z:∀ a V,R0 a V->V.cell? ⟨a,15,T⟩=I (J H mp))
 (t:∀ a V,R0 a V->AH Aq 143 #[C (I ⟨a,0,T⟩),J H i] V fun e w'=>e=s (J H g)/\V=w')
 (y:∀ a V,R0 a V->AH Aq 142 #[C (I ⟨a,0,T⟩),J H g,J H i] V fun e w'=>e=s (AT #[J H v,J H E])/\R2 a w')
 (x:E=0->∀ a V,R2 a V->AH Aq 144 #[C (I ⟨a,0,T⟩),J H i,J H v] V fun e w'=>e=s (J H 0)/\R3 w'):
 AH Aq 103 #[f,J H n,J H i] w fun e w'=>(E=0/\e=s (AT #[J H v,J H 0])/\R3 w')\/(E≠0/\e=s (AT #[J H 0,J H E])/\∃ a,R2 a w'):=by
 have K:=wN u;have j:=wN r;have k:=wN z;have l:=wN t;have m:=wN y;by_cases o:E=0
 . subst o
   have F:=wN (x rfl);clear u r z t y x;by_cases p:(10:Int)<=i
   . have L:(mp==0)=AN:=by simpa using fun e=>h ⟨p,e⟩
     clear h;go_enter func103,ntmps103
     go_wp2_with (first|(go_at_call 139;refine K.out.mono ?_;rintro e A ⟨a,rfl,b⟩;have c:=k.out _ _ b)|(go_at_call 140;refine Ad (j.out _ _ b) ?_;rintro w' rfl)|(go_at_call 143;refine Ad (l.out _ _ b) ?_;rintro w' rfl)|(go_at_call 142;refine Ad (m.out _ _ b) ?_;rintro B d)|(go_at_call 144;refine Ad (F.out _ _ d) ?_;rintro M q))
     go_ret2;exact A4 ⟨by trivial,rfl,q⟩
   . clear h
     go_enter func103,ntmps103
     go_wp2_with (first|(go_at_call 139;refine K.out.mono ?_;rintro e A ⟨a,rfl,b⟩;have c:=k.out _ _ b)|(go_at_call 140;refine Ad (j.out _ _ b) ?_;rintro w' rfl)|(go_at_call 143;refine Ad (l.out _ _ b) ?_;rintro w' rfl)|(go_at_call 142;refine Ad (m.out _ _ b) ?_;rintro B d)|(go_at_call 144;refine Ad (F.out _ _ d) ?_;rintro M q))
     go_ret2;exact A4 ⟨by trivial,rfl,q⟩
 . have G:(E != 0)=AQ:=by simpa using o
   have D:=wN o;clear u r z t y x o;by_cases p:(10:Int)<=i
   . have L:(mp==0)=AN:=by simpa using fun e=>h ⟨p,e⟩
     clear h;go_enter func103,ntmps103
     go_wp2_with (first|(go_at_call 139;refine K.out.mono ?_;rintro e A ⟨a,rfl,b⟩;have c:=k.out _ _ b)|(go_at_call 140;refine Ad (j.out _ _ b) ?_;rintro w' rfl)|(go_at_call 143;refine Ad (l.out _ _ b) ?_;rintro w' rfl)|(go_at_call 142;refine Ad (m.out _ _ b) ?_;rintro B d))
     go_ret2;exact A8 ⟨D.out,rfl,a,d⟩
   . clear h
     go_enter func103,ntmps103
     go_wp2_with (first|(go_at_call 139;refine K.out.mono ?_;rintro e A ⟨a,rfl,b⟩;have c:=k.out _ _ b)|(go_at_call 140;refine Ad (j.out _ _ b) ?_;rintro w' rfl)|(go_at_call 143;refine Ad (l.out _ _ b) ?_;rintro w' rfl)|(go_at_call 142;refine Ad (m.out _ _ b) ?_;rintro B d))
     go_ret2;exact A8 ⟨D.out,rfl,a,d⟩
def Ni{g:Int}{M E v:Int}(R:(10:Int)<=i)(m:AH Aq 139 #[f,J H n,J H i] w fun e w'=>∃ a,e=s (AT #[C (I ⟨a,0,T⟩),J H 0])/\R0 a w')
 (h:∀ a V,R0 a V->AH Aq 140 #[C (I ⟨a,0,T⟩),J H i] V fun e w'=>e=s (J H 0)/\V=w')
 (q:∀ a V,R0 a V->V.cell? ⟨a,15,T⟩=I (J H 0))
 (l:∀ a V,R0 a V->AH Aq 141 #[C (I ⟨a,0,T⟩)] V fun e w'=>e=s (J H M)/\R1 a w')
 (k:M=0->∀ a V,R1 a V->AH Aq 143 #[C (I ⟨a,0,T⟩),J H i] V fun e w'=>e=s (J H g)/\V=w')
 (p:M=0->∀ a V,R1 a V->AH Aq 142 #[C (I ⟨a,0,T⟩),J H g,J H i] V fun e w'=>e=s (AT #[J H v,J H E])/\R2 a w')
 (o:M=0->E=0->∀ a V,R2 a V->AH Aq 144 #[C (I ⟨a,0,T⟩),J H i,J H v] V fun e w'=>e=s (J H 0)/\R3 w'):
 AH Aq 103 #[f,J H n,J H i] w fun e w'=>(M≠0/\e=s (AT #[J H 0,J H M])/\∃ a,R1 a w')\/(M=0/\E=0/\e=s (AT #[J H v,J H 0])/\R3 w')\/(M=0/\E≠0/\e=s (AT #[J H 0,J H E])/\∃ a,R2 a w'):=by
 have K:=wN m;have t:=wN h;have u:=wN q;have x:=wN l;by_cases r:M=0
 . subst r
   have z:=wN (k rfl);have A:=wN (p rfl);by_cases j:E=0
   . subst j
     have L:=wN (o rfl rfl);clear m h q l k p o;go_enter func103,ntmps103
     go_wp2_with (first|(go_at_call 139;refine K.out.mono ?_;rintro e B ⟨a,rfl,b⟩;have d:=u.out _ _ b)|(go_at_call 140;refine Ad (t.out _ _ b) ?_;rintro w' rfl)|(go_at_call 141;refine Ad (x.out _ _ b) ?_;rintro D c)|(go_at_call 143;refine Ad (z.out _ _ c) ?_;rintro w' rfl)|(go_at_call 142;refine Ad (A.out _ _ c) ?_;rintro Q y)|(go_at_call 144;refine Ad (L.out _ _ y) ?_;rintro S N))
     go_ret2;exact A8 (A4 ⟨by trivial,by trivial,rfl,N⟩)
   . have O:(E != 0)=AQ:=by simpa using j
     have F:=wN j;clear m h q l k p o j;go_enter func103,ntmps103
     go_wp2_with (first|(go_at_call 139;refine K.out.mono ?_;rintro e B ⟨a,rfl,b⟩;have d:=u.out _ _ b)|(go_at_call 140;refine Ad (t.out _ _ b) ?_;rintro w' rfl)|(go_at_call 141;refine Ad (x.out _ _ b) ?_;rintro D c)|(go_at_call 143;refine Ad (z.out _ _ c) ?_;rintro w' rfl)|(go_at_call 142;refine Ad (A.out _ _ c) ?_;rintro Q y))
     go_ret2;exact A8 (A8 ⟨by trivial,F.out,rfl,a,y⟩)
 . have P:(M != 0)=AQ:=by simpa using r
   have G:=wN r;clear m h q l k p o r;go_enter func103,ntmps103
   go_wp2_with (first|(go_at_call 139;refine K.out.mono ?_;rintro e B ⟨a,rfl,b⟩;have d:=u.out _ _ b)|(go_at_call 140;refine Ad (t.out _ _ b) ?_;rintro w' rfl)|(go_at_call 141;refine Ad (x.out _ _ b) ?_;rintro D c))
   go_ret2;exact A4 ⟨G.out,rfl,a,c⟩
end
structure Fmd (w:z) (P:Nat->Prop) (d p:AA) (X:XSt) (S:Ab) (N:Ae) (O:Ag) (kk:Nat) (F:Nat->Ab) (bf:Nat):Prop where
 inv:SInv w P d p X
 wi:X.wi=AQ
 pl:Pl EZ X.call S N O kk F
 st:Stil S kk
 fs:FsAt w bf p
 nb:¬ P bf
def Onw(X a:XSt):Prop:=a.is=X.is/\a.ds=X.ds
def Onw.trans{X Y Z:XSt}(h:Onw X Y)(k:Onw Y Z):Onw X Z:=⟨k.1.trans h.1,k.2.trans h.2⟩
def Onw.refl(X:XSt):Onw X X:=⟨rfl,rfl⟩
section
variable {w:z}{P:Nat->Prop}{d p:AA}{X:XSt}{S:Ab}{N:Ae}{O:Ag}{kk:Nat}{F:Nat->Ab}{bf:Nat}
def Fmd.cur(h:Fmd w P d p X S N O kk F bf):X.cur=X.call:=by unfold XSt.cur;rw[AG h.wi]
def Fmd.isl(h:Fmd w P d p X S N O kk F bf):X.is.length=64*kk:=by rw[<- h.inv.xok.curLen,h.cur];exact h.pl.has.len
def Fmd.low(h:Fmd w P d p X S N O kk F bf){w':z}(hb:AB w.heap.size w w'):Fmd w' P d p X S N O kk F bf:={ h with inv:=h.inv.low hb,fs:=h.fs.low hb }
end
structure Chs (w0:z) (P0:Nat->Prop) (w:z) (P:Nat->Prop) (d p:AA) (X:XSt) (S:Ab) (N:Ae) (O:Ag) (kk:Nat) (F:Nat->Ab) (bf n i bc:Nat) (fv:AA):Prop where
 md:Fmd w P d p X S N O kk F bf
 ch:ChAt w bc bf n (N.getD n []) fv
 nc:¬ P bc
 bb:w0.heap.size<=bc
 far:10<=i->∃ bg,FarA w w0.heap.size bc P fv (F n) bg
 cg:Chg P0 P w0 w
section
variable {w0 w:z}{P0 P:Nat->Prop}{d p:AA}{X:XSt}{S:Ab}{N:Ae}{O:Ag}{kk:Nat}{F:Nat->Ab}{bf n i bc:Nat}{fv:AA}
def Chs.open(h:Fmd w P d p X S N O kk F bf)(j:1<=n)(c:n<48)(k:CE N n≠0)(hi:i<138):
 AH Aq 139 #[C (I ⟨bf,0,T⟩),J H n,J H i] w fun e w'=>∃ bc,e=s (AT #[C (I ⟨bc,0,T⟩),J H 0])/\∃ fv,Chs w P w' P d p X S N O kk F bf n i bc fv:=by
 have a:=h.cur;refine(Mv (F:=F) h.inv h.fs (by rw[a];exact h.pl.tab) (by rw[a];exact h.pl.fi) h.pl.ok.k12 (by rw[a];exact h.pl.has.len) j c k hi (AP _ _)).mono ?_;rintro e w' ⟨bc,fv,he,f,g,m,b⟩;exact⟨bc,he,fv,h.low b,g,fun l=>by have:=h.inv.lt _ l;omega,f,m,Chg.of_below b⟩
def Chs.at(h:Chs w0 P0 w P d p X S N O kk F bf n i bc fv)(hi:i<138):AH Aq 140 #[C (I ⟨bc,0,T⟩),J H i] w fun e w'=>e=s (J H (Ch (N.getD n []) (F n) i))/\w=w':=SQ h.ch h.far hi
def Chs.goal(h:Chs w0 P0 w P d p X S N O kk F bf n i bc fv)(a:n<48)(hi:i<138):AH Aq 143 #[C (I ⟨bc,0,T⟩),J H i] w fun e w'=>e=s (J H (Ga (N.getD n []) (F n) i))/\w=w':=
 cZ h.ch h.far hi fun b=>T5 (h.md.pl.tab.n.frm n a) (h.md.pl.fi.fl n) Aa
def Hb(X:XSt)(O:Ag)(f:Nat)(q:Int × Int):XSt:=Rf (OC X (f / 64) (FI (O.set f q) (f / 64))) f z256
structure Base (Q:Ab) (S:Ab) (kk n:Nat) (mp:Int):Prop where
 g:∀ g,g<kk->(Cp g:Int)∈Q/\(Cp g:Int)+1∈Q
 t:((C5 S (n / 8):Nat):Int)∈Q
 m:mp≠0->mp∈Q
def PutS.adds{X c:XSt}{Q:Ab}(h:PutS X Q){a b:Int}(d:a∈Q)(hb:b∈Q)(e:c.put=D9 (D9 X.put a) b):PutS c Q:=
 PutS.add (X:={ X with put:=D9 X.put a }) (h.add d rfl) hb e
def PutS.tak{Q:Ab}(h:PutS X Q){f:Nat}{q:Int × Int}(c:(Cp (f / 64):Int)∈Q/\(Cp (f / 64):Int)+1∈Q):PutS (OC X (f / 64) (FI (O.set f q) (f / 64))) Q/\PutS (Hb X O f q) (Q ++ [(f:Int)]):=by
 have b:PutS (OC X (f / 64) (FI (O.set f q) (f / 64))) Q:=h.adds c.2 c.1 rfl;exact⟨b,(b.wide fun a d=>BA _ d).add (Cz _ (BN.2 rfl)) rfl⟩
def la{f:Nat}(hf:FreeB O kk f)(b:kk<=12):D7 f:=by
 have a:=hf.fx;have:=hf.lt;unfold CZ at a;have:=BL a;unfold D7;omega
def Chs.take(h:Chs w0 P0 w P d p X S N O kk F bf n i bc fv)(Z:1<=n)(y:n<48)(g:Int){a:Nat}(E:a<139){Q:Ab}(G:PutS X Q)(hQ:Q.length<=35)(hB:∀ g,g<kk->(Cp g:Int)∈Q/\(Cp g:Int)+1∈Q)(K:(Dz O (64*kk):Int)<62*(kk:Int)-42):
 ∃ f:Nat,FreeB O kk f/\G4 O (64*kk) (GZ (64*kk) g)=f/\PutS (Hb X O f (n,Jt a)) (Q ++ [(f:Int)])/\
   AH Aq 142 #[C (I ⟨bc,0,T⟩),J H g,J H (Jt a)] w fun e w'=>e=s (AT #[J H f,J H 0])/\∃ r,Chs w0 P0 w' r d p (Hb X O f (n,Jt a)) S N (O.set f (n,Jt a)) kk F bf n i bc fv/\Chg P r w w':=by
 have c:=h.md.pl.ok;have v:=c.k12;obtain⟨f,u,z,Y,B⟩:=Su c (m:=kk) (g:=GZ (64*kk) g) c.k1 (AE _) (by unfold GZ;have:=c.k1;split <;> omega) K;have k:FreeB O kk f:=⟨Y,B,u⟩;have b:=kt E;obtain⟨A,hA⟩:∃ A:Nat,Jt a=(A:Int):=⟨(Jt a).toNat,Aa⟩;have t:=Ku Z y E;obtain⟨L,p2⟩:=G.tak (O:=O) (f:=f) (q:=((n:Int),Jt a)) (hB (f / 64) Aa);refine⟨f,k,z,p2,?_⟩;have o:=(h.md.pl.take k.fr k.fx k.lt (i:=(n:Int)) (j:=Jt a) Aa b t Aa Aa).1;rw[hA] at b t o L |-
 refine(Y8 (X1:=OC X (f / 64) (FI (O.set f ((n:Int),(A:Int))) (f / 64))) (f:=f) (d:=d) h.ch h.nc h.md.fs h.md.nb y (a:=A) Aa h.md.inv.lt (fun V D=>YW (h.md.inv.low D) h.md.wi (by have:=G.le;omega) h.md.pl.has c (h.md.fs.low D) h.md.pl.tab h.md.st g Aa b t Aa Aa K u z B)
  h.md.wi (by have:=L.le;omega) (by show f<X.is.length;rw[h.md.isl];exact u) Aa (la k v)).mono ?_
 rintro e w' ⟨he,r,hi,l⟩;obtain⟨x,R⟩:=h.md.fs.chg l h.md.nb;obtain⟨W,U⟩:=h.ch.chg l h.nc;exact⟨he,r,⟨⟨hi,h.md.wi,o,h.md.st,x,R⟩,W,U,h.bb,fun M=>let ⟨bg,hbg⟩:=h.far M;⟨bg,hbg.chg l⟩,h.cg.trans l⟩,l⟩
def Chs.full(h:Chs w0 P0 w P d p X S N O kk F bf n i bc fv)(l:1<=n)(c:n<48)(g:Int){a:Nat}(k:a<139)(o:62*(kk:Int)-42<=(Dz O (64*kk):Int)):
 AH Aq 142 #[C (I ⟨bc,0,T⟩),J H g,J H (Jt a)] w fun e w'=>e=s (AT #[J H 0,J H 13])/\AB w.heap.size w w':=by
 have b:=kt k;obtain⟨A,m⟩:∃ A:Nat,Jt a=(A:Int):=⟨(Jt a).toNat,Aa⟩;have f:=Ku l c k;rw[m] at b f |-
 exact UK (R:=fun _=>True) h.ch c (a:=A) Aa fun V j=>Vb (h.md.inv.low j) h.md.wi h.md.pl.has h.md.pl.ok (h.md.fs.low j) h.md.pl.tab h.md.st g Aa b f Aa Aa o
def Chs.low(h:Chs w0 P0 w P d p X S N O kk F bf n i bc fv){w':z}(hb:AB w.heap.size w w'):Chs w0 P0 w' P d p X S N O kk F bf n i bc fv:=
 ⟨h.md.low hb,h.ch.low hb,h.nc,h.bb,fun a=>let ⟨bg,hbg⟩:=h.far a;⟨bg,hbg.low hb⟩,h.cg.trans (Chg.of_below hb)⟩
def Chs.near(h:Chs w0 P0 w P d p X S N O kk F bf n i bc fv)(E:1<=n)(l:n<48)(hp:X.put.length<37){b:Nat}(hb:b<10){v:Int}(x:Ee ((N.getD n []).set (3+b) v)=AQ)(g:Pl EZ (OE X.call S N n ((N.getD n []).set (3+b) v)) S (N.set n ((N.getD n []).set (3+b) v)) O kk F):
 AH Aq 144 #[C (I ⟨bc,0,T⟩),J H b,J H v] w fun e w'=>e=s (J H 0)/\∃ a,Chs w0 P0 w' a d p (putI X S N n ((N.getD n []).set (3+b) v)) S (N.set n ((N.getD n []).set (3+b) v)) O kk F bf n i bc fv:=by
 refine(XU h.md.inv h.md.wi hp h.md.fs h.md.pl.tab E l h.ch h.nc hb x).mono ?_;rintro e w' ⟨he,a,G,y,f,u⟩;obtain⟨c,t⟩:=h.md.fs.chg f (fun j=>j.elim h.md.nb fun e=>h.md.fs.ne_ch h.ch e);have L:(N.set n ((N.getD n []).set (3+b) v)).getD n []=(N.getD n []).set (3+b) v:=by rw[Eb (by rw[h.md.pl.tab.n.len];exact l),AG rfl]
 refine⟨he,a,⟨G,h.md.wi,g,h.md.st,c,fun e=>t (A4 e)⟩,by rw[L];exact y,u,h.bb,fun r=>?_,Chg.inner2 h.cg f fun k K=>by rw[K];exact h.bb⟩;obtain⟨m,z,A,o,B,D,q⟩:=h.far r;have:=f.keep m (Au.1 q).1 fun j=>j.elim B o
 exact⟨m,z,A,o,fun e=>this.2 (A4 e),D,this.1.trans q⟩
def Chs.setFar(h:Chs w0 P0 w P d p X S N O kk F bf n i bc fv)(M:1<=n)(z:n<48)(hp:X.put.length<37){b:Nat}(A:10<=b)(hb:b<138)(Y:∃ f,FarA w w0.heap.size bc P fv (F n) f){v:Int}(Q:FN ((F n).set (b-10) v)=AQ){m:Nat}(o:num (N.getD n []) 13=(m:Int))(Ij:m≠0)
 (a:Pl EZ (X.call.set m (FT ((F n).set (b-10) v))) S N O kk (setF F n ((F n).set (b-10) v))):
 AH Aq 144 #[C (I ⟨bc,0,T⟩),J H b,J H v] w fun e w'=>e=s (J H 0)/\∃ c,Chs w0 P0 w' c d p (Rf X m (FT ((F n).set (b-10) v))) S N O kk (setF F n ((F n).set (b-10) v)) bf n i bc fv:=by
 have q:=a.fi.map M z id (by rw[o];omega);rw[o] at q;have g:=a.ok.k12;have V:=q.1;have y:=q.outJ g;rw[Cf] at y;obtain⟨f,j⟩:=Y;obtain⟨r,t,G,K,L,u⟩:=j;refine(fa h.md.inv h.md.wi hp h.md.fs h.ch h.nc ⟨r,t,G,K,L,u⟩ A hb Q o (by rw[h.md.isl];omega) Aa y).mono ?_;rintro e w' ⟨he,c,R,E,Z,x,D⟩;obtain⟨l,B⟩:=h.md.fs.chg x (fun W=>W.elim h.md.nb fun e=>h.md.fs.ne_io u r e);exact⟨he,c,⟨R,h.md.wi,a,h.md.st,l,fun e=>B (A4 e)⟩,E,D,h.bb,fun _=>⟨f,by rw[OT];exact Z⟩,Chg.inner2 h.cg x fun k U=>by rw[U];exact t⟩
def Chs.addMap(h:Chs w0 P0 w P d p X S N O kk F bf n i bc fv)(t:1<=n)(b:n<48)(v:CE N n≠0)(Z:num (N.getD n []) 13=0){Q:Ab}(hq:PutS X Q)(hQ:Q.length<=35)(hB:∀ g,g<kk->(Cp g:Int)∈Q/\(Cp g:Int)+1∈Q)(hr:(Dz O (64*kk):Int)<62*(kk:Int)-42):
 ∃ m:Nat,FreeB O kk m/\G4 O (64*kk) (GZ (64*kk) 0)=m/\PutS (Hb X O m (n,65535)) (Q ++ [(m:Int)])/\
   AH Aq 141 #[C (I ⟨bc,0,T⟩)] w fun e w'=>e=s (J H 0)/\∃ c,Chs w0 P0 w' c d p (putI (Hb X O m (n,65535)) S N n ((N.getD n []).set 13 m)) S (N.set n ((N.getD n []).set 13 m)) (O.set m (n,65535)) kk F bf n i bc fv:=by
 obtain⟨m,o,x,z,E⟩:=h.take t b 0 (a:=138) Af hq hQ hB hr;have f:Jt 138=65535:=rfl;rw[f] at z E;obtain⟨y,M⟩:=h.md.pl.addMap t b v Z o;refine⟨m,o,x,z,?_⟩;have mg:=z.le;rw[AO,List.length_singleton] at mg;have q:=(h.md.pl.take o.fr o.fx o.lt (i:=(n:Int)) (j:=65535) Aa Aa (Ku t b (i:=138) Aa) Aa Aa).1.tab;refine(Tf (X:=Hb X O m (n,65535)) (E.mono fun e w' ⟨he,c,r,l⟩=>⟨he,c,r.md.inv,l⟩) h.md.wi Aa h.md.fs h.md.nb q t b h.ch h.nc M).mono ?_;rintro e w' ⟨he,c,hi,R,l,L⟩;obtain⟨u,K⟩:=h.md.fs.chg l (fun r=>r.elim h.md.nb fun e=>h.md.fs.ne_ch h.ch e);have hy:(N.set n ((N.getD n []).set 13 (m:Int))).getD n []=(N.getD n []).set 13 (m:Int):=by rw[Eb (by rw[h.md.pl.tab.n.len];exact b),AG rfl]
 refine⟨he,c,⟨hi,h.md.wi,y.pl,h.md.st,u,fun e=>K (A4 e)⟩,by rw[hy];exact R,L,h.bb,fun G=>?_,Chg.inner2 h.cg l fun k v=>by rw[v];exact h.bb⟩;obtain⟨A,U,V,B,W,Y,D⟩:=h.far G;have:=l.keep A (Au.1 D).1 fun r=>r.elim W B
 exact⟨A,U,V,B,fun e=>this.2 (A4 e),Y,this.1.trans D⟩
end
end
end Go.Proofs.YtfpdajplfmakhaaGreatDoor
