/- What the law rests on. -/
import Derived.Test.YtfpdajplfmakhaaGreatDoorQD7
open Go.Value renaming int->J,slice->Aw,pointer->Ax,tuple->AT,bool->AY,agg->BS
open Go.IntKind renaming i64->R
open Go.Proofs.Tryz renaming prog->Aq
open Option renaming none->U,some->V
open Go renaming World->I,Value->AA,Calls->AH,Oper->BK,wpList->Cj
open Go.Ending renaming returned->Av
open Go.Obj renaming cells->r
open Go.RowKit renaming Below->z
open List renaming replicate->AI,range->BE,length_cons->BJ
open Bool renaming false->AN,true->T
open Array renaming replicate->AW
open Or renaming inl->A4,inr->A8
open Int renaming toNat_natCast->Cf
open Go.Proofs.Tryz
namespace Go.Proofs.YtfpdajplfmakhaaGreatDoor
set_option linter.defProp false
set_option maxHeartbeats 12000000
set_option linter.unusedVariables false
set_option maxRecDepth 100000
theorem A5:type_of% @List.setIfInBounds_toArray:=@List.setIfInBounds_toArray
theorem DW:type_of% @Int.tmod_eq_emod_of_nonneg:=@Int.tmod_eq_emod_of_nonneg
section
open Go.RowKit BM
def Ch(x F:Ab)(i:Nat):Int:=if i<10 then num x (3+i) else if i=138 then num x 13 else num F (i-10)
def Jt(i:Nat):Int:=if i=138 then 65535 else (i:Int)
def kt{i:Nat}(h:i<139):0<=Jt i/\Jt i<=65535:=by unfold Jt;split <;> omega
def OwAt(O:Ag)(kk:Nat)(v:Int)(o:Int × Int):Prop:=(0<v/\v<64*(kk:Int))/\CZ v=AN/\O.getD v.toNat (0,0)=o
def OwAt.ne{O:Ag}{kk:Nat}{v u:Int}{o q:Int × Int}(h:OwAt O kk v o)(k:OwAt O kk u q)(a:o≠q):v≠u:=fun e=>a (by rw[<- h.2.2,<- k.2.2,e])
def OwAt.set{O:Ag}{kk:Nat}{v:Int}{o:Int × Int}(h:OwAt O kk v o){f:Nat}(q:Int × Int)(a:v.toNat≠f):OwAt (O.set f q) kk v o:=
 ⟨h.1,h.2.1,by rw[BQ _ _ _ a];exact h.2.2⟩
def Dg{x:Ab}{a:Nat}(c:a<x.length)(v:Int)(b:Nat):num (x.set a v) b=if b=a then v else num x b:=by
 unfold num;exact getD_set _ _ _ _ _ c
def FO(f:Nat->Int):Nat->Nat
 |0=>0
 |k+1=>FO f k+if f k≠0 then 1 else 0
def Hc{f g:Nat->Int}:∀ k,(∀ i,i<k->(f i≠0 ↔ g i≠0))->FO f k=FO g k
 |0,_=>rfl
 |k+1,h=>by
  rw[FO,FO,Hc k fun i hi=>h i Aa];have:=h k Aa;by_cases e:f k=0 <;> by_cases a:g k=0 <;> simp_all
def Lc{f g:Nat->Int}{i:Nat}(c:f i=0)(d:g i≠0):∀ k,i<k->(∀ j,j<k->j≠i->(f j≠0 ↔ g j≠0))->FO g k=FO f k+1
 |0,h,_=>absurd h (Bm _)
 |k+1,h,ho=>by
  rw[FO,FO];by_cases e:i=k
  . subst e
    rw[Hc (f:=g) (g:=f) i fun j m=>(ho j Aa Aa).symm,AG d,AJ (by simp[c])]
  . rw[Lc c d k Aa fun j m=>ho j Aa]
    have:=ho k Aa (fun l=>e l.symm);by_cases a:f k=0 <;> by_cases b:g k=0 <;> simp_all <;> omega
def Lq(x F:Ab):Nat:=FO (Ch x F) 139
structure Fils (Ex:Nat->Nat->Prop) (G:Ae) (S:Ab) (N:Ae) (O:Ag) (kk:Nat) (F:Nat->Ab):Prop where
 fl:∀ n,(F n).length=128/\FN (F n)=T
 m0:∀ n,1<=n->n<48->num (N.getD n []) 13=0->F n=AI 128 0
 m1:∀ n,1<=n->n<48->num (N.getD n []) 13≠0->G.getD (num (N.getD n []) 13).toNat []=FT (F n)
 ow:∀ n i,1<=n->n<48->i<139->¬ Ex n i->Ch (N.getD n []) (F n) i≠0->OwAt O kk (Ch (N.getD n []) (F n) i) ((n:Int),Jt i)
 tb:∀ t,t<6->O.getD (C5 S t) (0,0)=(65534,(t:Int))
def EZ:Nat->Nat->Prop:=fun _ _=>False
section
variable {Ex:Nat->Nat->Prop}{G:Ae}{S:Ab}{N:Ae}{O:Ag}{kk:Nat}{F:Nat->Ab}
def jS(x F:Ab):Ch x F 138=num x 13:=rfl
def Fils.map(h:Fils Ex G S N O kk F){n:Nat}(b:1<=n)(a:n<48)(c:¬ Ex n 138)(d:num (N.getD n []) 13≠0):OwAt O kk (num (N.getD n []) 13) ((n:Int),65535):=h.ow n 138 b a Af c d
def PY{i j:Int}(hi:i≠0){v:Int}(h:OwAt O kk v (i,j)):Df O v.toNat=AN:=by
 unfold Df;rw[h.2.2];exact AM hi
def Fils.take(h:Fils EZ G S N O kk F){f:Nat}(hf:Df O f=T)(y:f<64*kk)(s:kk<=12)(q:Int × Int):Fils EZ (putG G (f / 64) (FI (O.set f q) (f / 64))) S N (O.set f q) kk F:=by
 have g:∀ {i j v:Int},i≠0->OwAt O kk v (i,j)->v.toNat≠f:=fun d x e=>by
  have:=PY d x;rw[e,hf] at this;cases this
 refine⟨h.fl,h.m0,fun n c b l=>?_,fun n i c b d u w=>?_,fun t m=>?_⟩
 . have a:=h.map c b id l
   have o:=Mx (show f / 64<12 from Aa);have k:(((num (N.getD n []) 13).toNat:Nat):Int)=num (N.getD n []) 13:=(by have:=a.1;omega);have p:(num (N.getD n []) 13).toNat≠Cp (f / 64):=fun e=>by
    have:=a.2.1;rw[<- k,e,o.1] at this;cases this
   have r:(num (N.getD n []) 13).toNat≠Cp (f / 64)+1:=fun e=>by
    have:=a.2.1;rw[<- k,e,o.2.1] at this;cases this
   unfold Go.Proofs.YtfpdajplfmakhaaGreatDoor.putG;rw[BQ _ _ _ p,BQ _ _ _ r];exact h.m1 n c b l
 . have a:=h.ow n i c b d u w
   exact a.set q (g Aa a)
 . rw[BQ _ _ _ fun e=>?_]
   . exact h.tb t m
   . have:=h.tb t m
     rw[e] at this;unfold Df at hf;rw[this] at hf;cases Ba hf
def Fils.data(h:Fils Ex G S N O kk F){f:Nat}(hf:∀ n,1<=n->n<48->num (N.getD n []) 13≠0->(num (N.getD n []) 13).toNat≠f)(Z:Ab):Fils Ex (G.set f Z) S N O kk F:=
 ⟨h.fl,h.m0,fun n b a c=>by rw[BQ _ _ _ (hf n b a c)];exact h.m1 n b a c,h.ow,h.tb⟩
def Eb{N:Ae}{n:Nat}(a:n<N.length)(y:Ab)(m:Nat):(N.set n y).getD m []=if m=n then y else N.getD m []:=getD_set _ _ _ _ _ a
def Fils.node(h:Fils Ex G S N O kk F){n:Nat}(x:1<=n)(w:n<48)(z:N.length=48){y:Ab}(r:∀ a b,Ex a b->a=n)
 (t:num y 13=0->F n=AI 128 0) (l:num y 13≠0->G.getD (num y 13).toNat []=FT (F n))
 (s:∀ i,i<139->Ch y (F n) i≠0->OwAt O kk (Ch y (F n) i) ((n:Int),Jt i)) (E:Ab):Fils EZ (G.set (C5 S (n / 8)) E) S (N.set n y) O kk F:=by
 have o:n<N.length:=Aa;have p:=h.tb (n / 8) Aa;have f:∀ {v i j:Int},i<48->OwAt O kk v (i,j)->v.toNat≠C5 S (n / 8):=fun k u e=>by
  have:=u.2.2;rw[e,p] at this;have:=(D4 this).1;omega
 refine⟨h.fl,fun m d c=>?_,fun m d c=>?_,fun m i d c k _=>?_,h.tb⟩
 . rw[Eb o];split
   . next e=>rw[e];exact t
   . exact h.m0 m d c
 . rw[Eb o];split
   . next e=>rw[e];exact fun g=>by rw[BQ _ _ _ (show(num y 13).toNat≠C5 S (n / 8) from f Aa (s 138 Af g))];exact l g
   . next e=>exact fun g=>by rw[BQ _ _ _ (f Aa (h.map d c (fun q=>e (r _ _ q)) g))];exact h.m1 m d c g
 . rw[Eb o];split
   . next e=>rw[e];exact s i k
   . next e=>exact h.ow m i d c k fun q=>e (r _ _ q)
def setF(F:Nat->Ab)(n:Nat)(L:Ab):Nat->Ab:=fun a=>if a=n then L else F a
def OT(F:Nat->Ab)(n:Nat)(L:Ab):setF F n L n=L:=AG rfl
def mE(F:Nat->Ab){n m:Nat}(h:m≠n)(L:Ab):setF F n L m=F m:=AJ h
def Fils.far(h:Fils Ex G S N O kk F){n:Nat}(t:1<=n)(r:n<48){m:Nat}(o:num (N.getD n []) 13=(m:Int))(D:m≠0)(p:¬ Ex n 138)(A:m<G.length){L:Ab}(B:L.length=128)(hf:FN L=T)(u:∀ a b,Ex a b->a=n)
 (C:∀ i,10<=i->i<138->num L (i-10)≠0->OwAt O kk (num L (i-10)) ((n:Int),Jt i)) (l:∀ i,i<10->¬ Ex n i):Fils EZ (G.set m (FT L)) S N O kk (setF F n L):=by
 have y:num (N.getD n []) 13≠0:=by rw[o];omega
 have g:=h.map t r p y;refine⟨fun a=>?_,fun a f d=>?_,fun a f d=>?_,fun a i f d w _=>?_,h.tb⟩
 . unfold setF;split
   . exact⟨B,hf⟩
   . exact h.fl a
 . unfold setF;split
   . next e=>rw[e];exact fun h=>absurd h y
   . exact h.m0 a f d
 . unfold setF;split
   . next e=>rw[e,o,Cf];exact fun _=>by rw[getD_set _ _ _ _ _ A,AG rfl]
   . next e=>
      intro v;have x:=h.map f d (fun q=>e (u _ _ q)) v;rw[BQ _ _ _ fun E=>?_]
      . exact h.m1 a f d v
      . refine x.ne g (fun z=>?_) (by have:=x.1;rw[o];omega)
        have:=(D4 z).1;omega
 . unfold setF;split
   . next e=>
     rw[e];intro j;by_cases c:i<10
     . have k:Ch (N.getD n []) L i=Ch (N.getD n []) (F n) i:=by unfold Ch;rw[AG c,AG c]
       rw[k] at j |-
       exact h.ow n i t r w (l i c) j
     . by_cases s:i=138
       . subst s;exact g
       . have k:Ch (N.getD n []) L i=num L (i-10):=by unfold Ch;rw[AJ c,AJ s]
         rw[k] at j |-
         exact C i Aa Aa j
   . next e=>exact h.ow a i f d w fun q=>e (u _ _ q)
end
def DataK(O a:Ag)(G b:Ae):Prop:=∀ v:Nat,1<=(a.getD v (0,0)).1->(a.getD v (0,0)).1<48->(a.getD v (0,0)).2≠65535->O.getD v (0,0)=a.getD v (0,0)->b.getD v []=G.getD v []
def Less(O a:Ag):Prop:=∀ v:Nat,a.getD v (0,0)=O.getD v (0,0)\/a.getD v (0,0)=(0,0)
def Less.refl(O:Ag):Less O O:=fun _=>A4 rfl
def DataK.less{A B C:Ag}{G i d:Ae}(h:DataK A B G i)(k:DataK B C i d)(l:Less B C):DataK A C G d:=fun v a b c e=>by
 have f:B.getD v (0,0)=C.getD v (0,0):=by
  rcases l v with g|g
  . exact g.symm
  . rw[g] at a;cases a
 rw[k v a b c f,h v (by rw[f];exact a) (by rw[f];exact b) (by rw[f];exact c) (by rw[e,f])]
def Fz(M:Nat->Option Ab)(i:Nat):Ab:=(M i).getD z256
def EQ(M:Nat->Option Ab)(i:Nat)(l:Ab):Nat->Option Ab:=fun j=>if j=i then V l else M j
def wr1(M:Nat->Option Ab)(a:Nat)(v:Int):Nat->Option Ab:=EQ M (a / 256) ((Fz M (a / 256)).set (a%256) v)
def wrL:(Nat->Option Ab)->Nat->Ab->(Nat->Option Ab)
 |M,_,[]=>M
 |M,a,v :: l=>wrL (wr1 M a v) (a+1) l
def bZ(M:Nat->Option Ab)(j:Nat):Int:=(Fz M (j / 256)).getD (j%256) 0
def JI(M:Nat->Option Ab)(a n:Nat):Ab:=(BE n).map fun i=>bZ M (a+i)
structure OkB (M:Nat->Option Ab):Prop where
 len:∀ i l,M i=V l->l.length=256
 byt:∀ i l,M i=V l->Fv l
def Qo:z256.length=256:=Bg
def QI:Fv z256:=Db 256
section
variable {M:Nat->Option Ab}
def OkB.blk(h:OkB M)(i:Nat):(Fz M i).length=256/\Fv (Fz M i):=by
 unfold Fz;cases e:M i
 . exact⟨Qo,QI⟩
 . exact⟨h.len i _ e,h.byt i _ e⟩
def OkB.upd(h:OkB M)(i:Nat){l:Ab}(a:l.length=256)(hb:Fv l):OkB (EQ M i l):=by
 constructor
 . intro j m e
   unfold EQ at e;split at e
   . cases e;exact a
   . exact h.len j m e
 . intro j m e
   unfold EQ at e;split at e
   . cases e;exact hb
   . exact h.byt j m e
def Z4{l:Ab}(h:Fv l)(i:Nat){v:Int}(hv:0<=v/\v<=255):Fv (l.set i v):=CV fun x b=>by
 rcases Ea b with a|a
 . exact Da h x a
 . rw[a];exact hv
def OkB.wr1(h:OkB M)(a:Nat){v:Int}(hv:0<=v/\v<=255):OkB (wr1 M a v):=h.upd _ (by rw[AR];exact(h.blk _).1) (Z4 (h.blk _).2 _ hv)
def I4{v:Int}{l:Ab}(h:Fv (v :: l)):(0<=v/\v<=255)/\Fv l:=⟨Da h v CO,CV fun x a=>Da h x (B9 _ a)⟩
def OkB.wrL:∀ {M:Nat->Option Ab} (l:Ab) (a:Nat),OkB M->Fv l->OkB (wrL M a l)
 |_,[],_,h,_=>h
 |_,v :: l,a,h,hb=>OkB.wrL l (a+1) (h.wr1 a (I4 hb).1) (I4 hb).2
def Fj(M:Nat->Option Ab)(i:Nat)(l:Ab):EQ M i l i=V l:=AG rfl
def Ej(M:Nat->Option Ab){i j:Nat}(h:j≠i)(l:Ab):EQ M i l j=M j:=AJ h
def SJ(M:Nat->Option Ab)(i j:Nat)(l:Ab):Fz (EQ M i l) j=if j=i then l else Fz M j:=by
 unfold Fz EQ;by_cases e:j=i
 . rw[AG e,AG e];rfl
 . rw[AJ e,AJ e]
def Jh:∀ (l m:Ab) (M:Nat->Option Ab) (a:Nat),wrL M a (l ++ m)=wrL (wrL M a l) (a+l.length) m
 |[],m,M,a=>rfl
 |v :: l,m,M,a=>by
  show wrL (Go.Proofs.YtfpdajplfmakhaaGreatDoor.wr1 M a v) (a+1) (l ++ m)=_
  rw[Jh l m,BJ,show a+(l.length+1)=a+1+l.length from Aa];rfl
def Vs(M:Nat->Option Ab)(i:Nat)(l m:Ab):EQ (EQ M i l) i m=EQ M i m:=by
 funext j;unfold EQ;by_cases e:j=i
 . rw[AG e,AG e]
 . rw[AJ e,AJ e,AJ e]
def RW:∀ (l:Ab) (M:Nat->Option Ab) (a i o:Nat),0<l.length->a=256*i+o->o+l.length<=256->OkB M->Fv l->wrL M a l=EQ M i (splice (Fz M i) o l)
 |[],_,_,_,_,h,_,_,_,_=>absurd h (Nat.lt_irrefl 0)
 |v :: l,M,a,i,o,_,ha,ho,hk,hb=>by
  have hd:a / 256=i:=Aa;have g:a%256=o:=Aa;rw[BJ] at ho;have d:Go.Proofs.YtfpdajplfmakhaaGreatDoor.wr1 M a v=EQ M i ((Fz M i).set o v):=by unfold Go.Proofs.YtfpdajplfmakhaaGreatDoor.wr1;rw[hd,g]
  have c:=(hk.blk i).1;show wrL (Go.Proofs.YtfpdajplfmakhaaGreatDoor.wr1 M a v) (a+1) l=_
  have b:splice (Fz M i) o (v :: l)=splice ((Fz M i).set o v) (o+1) l:=by
   unfold splice;rw[BJ,List.take_set,List.drop_set_of_lt Aa,show o+(l.length+1)=o+1+l.length from Aa];have e:(Fz M i).take (o+1)=(Fz M i).take o ++ [(Fz M i)[o]'Aa]:=BI Aa;rw[e,List.set_append_right _ _ (by rw[AV];omega)];simp[FL (show o<=(Fz M i).length from Aa)]
  by_cases f:l.length=0
  . have:l=[]:=A3 f
    subst this;rw[d];show EQ M i _=_
    rw[b];congr 1;unfold splice;simp
  . rw[RW l _ (a+1) i (o+1) Aa Aa Aa (hk.wr1 a (I4 hb).1) (I4 hb).2,d,Vs,SJ,AG rfl,b]
def mW(h:OkB M)(a:Nat)(v:Int)(j:Nat):bZ (Go.Proofs.YtfpdajplfmakhaaGreatDoor.wr1 M a v) j=if j=a then v else bZ M j:=by
 unfold bZ Go.Proofs.YtfpdajplfmakhaaGreatDoor.wr1;rw[SJ];have c:=(h.blk (a / 256)).1;by_cases e:j=a
 . rw[AG e,e,AG rfl,getD_set _ _ _ _ _ Aa,AG rfl]
 . rw[AJ e]
   by_cases b:j / 256=a / 256
   . rw[AG b,getD_set _ _ _ _ _ Aa,AJ Aa,b]
   . rw[AJ b]
def ZV:∀ (l:Ab) (M:Nat->Option Ab) (a:Nat),OkB M->Fv l->∀ j,bZ (wrL M a l) j=if a<=j/\j<a+l.length then l.getD (j-a) 0 else bZ M j
 |[],M,a,_,_,j=>by rw[AJ Ai];rfl
 |v :: l,M,a,hk,hb,j=>by
  show bZ (wrL (Go.Proofs.YtfpdajplfmakhaaGreatDoor.wr1 M a v) (a+1) l) j=_
  rw[ZV l _ (a+1) (hk.wr1 a (I4 hb).1) (I4 hb).2,mW hk,BJ];by_cases e:j=a
  . subst e
    rw[AJ Aa,AG rfl,AG Aa,Nat.sub_self];rfl
  . by_cases c:a+1<=j/\j<a+1+l.length
    . rw[AG c,AG Aa,show j-a=j-(a+1)+1 from Aa];rfl
    . rw[AJ c,AJ e,AJ Aa]
def FJ(M:Nat->Option Ab)(a n:Nat):(JI M a n).length=n:=by unfold JI;rw[Bn,List.length_range]
def O4(M:Nat->Option Ab)(a:Nat){n i:Nat}(h:i<n):(JI M a n).getD i 0=bZ M (a+i):=by
 unfold JI;rw[Az,List.getElem?_map,List.getElem?_range h];rfl
def Uy(M:Nat->Option Ab)(a n m:Nat):JI M a (n+m)=JI M a n ++ JI M (a+n) m:=by
 unfold JI;rw[List.range_add,Cw,List.map_map];congr 1;apply Cr;intro i _;show bZ M (a+(n+i))=bZ M (a+n+i)
 rw[Dw]
def Rx(h:OkB M){a i o n:Nat}(g:a=256*i+o)(l:o+n<=256):JI M a n=((Fz M i).drop o).take n:=by
 have j:=(h.blk i).1;apply Bt
 . rw[FJ,AV,By];omega
 . intro k b f
   rw[FJ] at b;have c:=O4 M a b;rw[Az,AX (by rw[FJ];exact b)] at c;have d:(JI M a n)[k]'(by rw[FJ];exact b)=bZ M (a+k):=c;rw[d,Uo,List.getElem_drop];unfold bZ;rw[show(a+k) / 256=i from Aa,show(a+k)%256=o+k from Aa,Az,AX Aa];rfl
end
def Gx(M:Nat->Option Ab)(i:Nat):Int:=if (M i).isSome then 1 else 0
def Tz(M:Nat->Option Ab):Nat->Nat
 |0=>0
 |k+1=>if (M k).isSome/\10<=k then 1 else Tz M k
def Eu(M:Nat->Option Ab):Nat:=FO (Gx M) 138+Tz M 138
def keyB_ne{M:Nat->Option Ab}{i:Nat}:Gx M i≠0 ↔ (M i).isSome=T:=by
 unfold Gx;by_cases h:(M i).isSome=T
 . rw[AG h];exact⟨fun _=>h,fun _=>Af⟩
 . rw[AJ h];exact⟨fun e=>absurd rfl e,fun e=>absurd e h⟩
def Hv{M:Nat->Option Ab}:∀ k,(∃ b:Nat,10<=b/\b<k/\(M b).isSome=T)->Tz M k=1
 |0,⟨b,_,h,_⟩=>absurd h (Bm _)
 |k+1,⟨b,h1,h2,h3⟩=>by
  unfold Tz;split
  . rfl
  . next a=>
    refine Hv k ⟨b,h1,?_,h3⟩;have:b≠k:=fun e=>a ⟨e ▸ h3,e ▸ h1⟩
    omega
def GD{M:Nat->Option Ab}:∀ k,(¬ ∃ b:Nat,10<=b/\b<k/\(M b).isSome=T)->Tz M k=0
 |0,_=>rfl
 |k+1,h=>by
  unfold Tz;rw[AJ (fun e=>h ⟨k,e.2,Aa,e.1⟩)];exact GD k fun⟨b,a,d,c⟩=>h ⟨b,a,Aa,c⟩
def Sg{f g:Nat->Int}:∀ k,(∀ i,i<k->f i≠0->g i≠0)->FO f k<=FO g k
 |0,_=>AE _
 |k+1,h=>by
  have b:=Sg (f:=f) (g:=g) k fun i a=>h i Aa
  have:=h k Aa;unfold FO;by_cases e:f k=0
  . rw[AJ (by simp[e])];omega
  . rw[AG e,AG (this e)];omega
def LJ{M a:Nat->Option Ab}(h:∀ i,i<138->(M i).isSome=T->(a i).isSome=T):Eu M<=Eu a:=by
 unfold Eu;have l:=Sg (f:=Gx M) (g:=Gx a) 138 fun i k e=>keyB_ne.2 (h i k (keyB_ne.1 e))
 have m:Tz M 138<=Tz a 138:=by
  by_cases e:∃ b:Nat,10<=b/\b<138/\(M b).isSome=T
  . obtain⟨b,d,c,j⟩:=e
    rw[Hv 138 ⟨b,d,c,j⟩,Hv 138 ⟨b,d,c,h b c j⟩];exact AE _
  . rw[GD 138 e];exact A7 _
 omega
def UX{M b:Nat->Option Ab}(h:∀ i,i<138->((M i).isSome=T ↔ (b i).isSome=T)):Eu M=Eu b:=
 Nat.le_antisymm (LJ fun i a=>(h i a).1) (LJ fun i a=>(h i a).2)
def VI:∀ (l:Ab) (M:Nat->Option Ab) (a:Nat) (i:Nat),(M i).isSome=T->(wrL M a l i).isSome=T
 |[],_,_,_,h=>h
 |v :: l,M,a,i,h=>VI l _ (a+1) i (by
    unfold wr1 EQ;split
    . rfl
    . exact h)
section
variable {w:I}{P:Nat->Prop}{d p:AA}{X:XSt}{O D:Ag}{k:Nat}
def X7{g:Nat}(h:SInv w P d p X)(o:Has X.cur O k)(f:OOk O k)(i:g<k):
 AH Aq 239 #[p,J R g] w fun e w'=>∃ b cap cur,e=Av (AT #[Aw (V ⟨b,0,U⟩) 64 cap,J R 0])/\w.heap.size<=b/\w'.heap[b]? =V (r cur 200 (0,0))/\cur.toList.take ((FI O g).length*2)=Fx (FI O g)/\(FI O g).length*2<=cur.size/\64<=cap/\cap<=maxLen/\cur.size=cap*2/\z w.heap.size w w':=by
 refine(Sp h o f i).mono fun e w' ⟨b,cap,he,q,s,v,_,a⟩=>?_
 have A:=FP f.len i;rcases v.2.2 with⟨m,_⟩| ⟨y,c,cur,n,_,t,x,j,l,u⟩
 . cases m
 . injection n with e1 _ e3
   injection e1 with e1
   injection e1 with e1
   subst e1;subst e3;exact⟨b,cap,cur,he,q,t,u,Aa,Aa,j,l,a⟩
def jX{w:I}{b cap:Nat}{cur:Array AA}{D:Ag}(a:OwB D)(c:D.length=64)(d:w.heap[b]? =V (r cur 200 (0,0)))(h:cur.toList.take (D.length*2)=Fx D)(i:64<=cap)(f:cap<=maxLen)(g:cur.size=cap*2):OwSl w (Aw (V ⟨b,0,U⟩) 64 cap) D:=by
 have:OwR w 0 (Aw (V ⟨b,0,U⟩) 64 cap) D:=⟨a,by rw[DK],A8 ⟨b,cap,cur,by rw[c],A7 _,d,Aa,f,g,h⟩⟩;exact this.sl
def b8(h:SInv w P d p X)(hw:X.wi=T)(a0:X.put.length<=35)(hH:Has X.call O k)(H:OOk O k){n:Nat}(hn:n<64*k)(hx:CZ (n:Int)=AN){i j:Int}(hi:0<=i/\i<=65535)(hj:0<=j/\j<=65535)(hf:Gu i j=T)(A:i≠65535):
 AH Aq 218 #[p,J R n,BS #[J .u16 i,J .u16 j]] w fun e w'=>e=Av (J R 0)/\∃ E,SInv w' E d p (OC X (n / 64) (FI (O.set n (i,j)) (n / 64)))/\Chg P E w w':=by
 have G:=H.k12;have JG:X.cur=X.call:=by unfold XSt.cur;rw[AG hw]
 have x:Has X.cur O k:=by rw[JG];exact hH
 obtain⟨g,hg⟩:=nm (n / 64);obtain⟨t,ht⟩:=nm (n%64);have qq:g<k:=Aa;have a2:t<64:=Aa;have K:=H.set hn hx hi hj hf A;have eD:FI (O.set n (i,j)) (n / 64)=(FI O g).set t (i,j):=by rw[hg,ht];exact TI O n (i,j)
 obtain⟨D,hD⟩:=nm ((FI O g).set t (i,j));rw[eD,<- hD,<- hg];obtain⟨dB,dA,_⟩:=K.gr (g:=n / 64) Aa;rw[eD,<- hD] at dB dA;have gL:=FP H.len qq;have dL:D.length=64:=I2 dA;have u:X.is.length=64*k:=by
  obtain⟨_,_,_,_,_,_,_,_,_,_,_,_,_,b2,_⟩:=h;rw[<- b2.ok.curLen];exact x.len
 have KO:=wN (bX (n:Int) Aa T (by unfold PX;rw[AK Aa,hx];rfl));have KF:=wN (Hk i j hi hj T hf);have KG:=wN (fun(W:I)=>LC (n:Int) Aa W);have eg:IW (n:Int)=g:=by unfold IW;rw[AJ Aa];omega
 rw[eg] at KG;have y:=AF w (r #[J .u16 i,J .u16 j] 200);have s:=AC w (r #[J .u16 i,J .u16 j] 200);obtain⟨W1,o⟩:=nm (w.alloc (r #[J .u16 i,J .u16 j] 200));rw[<- o] at y s;have SC:w.heap.size<W1.heap.size:=by rw[o];simp
 have KR:Hid (∀ W,z w.heap.size w W->AH Aq 239 #[p,J R g] W _):=wN fun W L=>X7 (h.low L) x H qq
 have b0:=h.lt
 have C:Hid (∀ (W w':I) (b a:Nat) (m f:Array AA),z w.heap.size w W->w.heap.size<=b->Wrote W w' b->w'.heap[b]? =V (r f 200 (0,0))->f.size=m.size->f.toList.take ((FI O g).length*2)=Fx ((FI O g).set t (i,j))->64<=a->a<=maxLen->m.size=a*2->
  z w.heap.size w w'/\SInv w' P d p X/\OwSl w' (Aw (V ⟨b,0,U⟩) 64 a) D):=wN fun W w' b a m f L B b5 hh hs b4 OO Jp Jq=>by
  have Y:=L.trans (b5.below B);exact⟨Y,h.low Y,jX dB dL hh (by rw[dL,hD,<- b4,gL]) OO Jp Aa⟩
 have a6:Hid (∀ (W:I) (v:AA),SInv W P d p X->OwSl W v D->AH Aq 240 #[p,J R g,v] W fun e w'=>e=Av (J R 0)/\∃ E,SInv w' E d p (OC X g D)/\Chg P E W w'):=wN fun W v hi hs=>Yd hi hw a0 u G qq hs dA
 have H1:=wN o.symm;have b7:=wN s;have a4:=wN y;have b6:(n:Int).tmod 64=t:=by rw[DW Aa];omega
 have et:(t:Int)<64:=Aa;have HM:Hid (w.heap.size<W1.heap.size):=wN SC;have a5:Hid (t<(FI O g).length):=wN Aa;have r9:(i==65535)=AN:=by simpa using A
 have c:Hid (∀ W,z W1.heap.size W1 W->W.cell? ⟨w.heap.size,0,U⟩=V (J .u16 i)/\W.cell? ⟨w.heap.size,1,U⟩=V (J .u16 j)):=wN fun W L=>by
  have hr:=BD s L;exact⟨AD _ _ _ _ _ _ hr,AD _ _ _ _ _ _ hr⟩
 clear h hw a0 hH H hn hx hi hj hf A G JG x hg ht qq a2 K eD hD dB dA gL dL u eg o s y SC b0;go_enter func218,ntmps218
 go_wp2_with (first
  |(go_at_call 237;refine Ad (KO.out _) ?_;rintro w' rfl)|(go_at_call 214;rw[H1.out];refine Ad (KF.out _) ?_;rintro w2 q;obtain⟨b9,c0⟩:=c.out _ q;have l:=a4.out.trans (q.mono (Cy HM.out)))|(go_at_call 238;refine Ad (KG.out _) ?_;rintro w' rfl)|(go_at_call 239;refine(KR.out _ l).mono ?_;rintro e w3 ⟨b,a,m,rfl,a7,a8,qw,b3,OO,Jp,Jq,S⟩;have Q:=q.trans (S.mono q.size);obtain⟨c1,c2⟩:=c.out _ Q;have M:=l.trans (S.mono l.size);have B:=AU l.size a7)
  |(with_reducible refine IL rfl (.tmp 38) (.tmp 37) rfl b t (FI O g) m i j rfl rfl a8 qw b3 a5.out ?_;intro w4 F a3 Z a1 uU
    obtain⟨N,lv,b1⟩:=C.out w3 w4 b a m F M B a3 Z a1 uU OO Jp Jq;clear a3 Z a1 uU)|(go_at_call 240;refine Ad (a6.out _ _ lv b1) ?_;rintro w5 ⟨P5,a9,OP⟩))
 go_ret;exact⟨rfl,P5,a9,(Chg.of_below N).trans OP⟩
end
def UM{O:Ag}:∀ L,(∀ j,j<L->Df O j=AN)->Dz O L=JD L
 |0,_=>rfl
 |L+1,h=>by
  have b:=UM L fun j c=>h j Aa
  have a:=h L Aa;unfold Dz JD;rw[b,a];cases CZ (L:Int) <;> simp
def Wz(O:Ag)(L g:Nat):(∃ k,k<L/\Df O ((g+k)%L)=T/\G4 O L g=(((g+k)%L:Nat):Int))\/(∀ k,k<L->Df O ((g+k)%L)=AN):=by
 unfold G4;cases a:(BE L).find? (fun k=>Df O ((g+k)%L)) with
 |some k=>exact A4 ⟨k,Bq.1 (List.mem_of_find?_eq_some a),by simpa using List.find?_some a,rfl⟩
 |none=>
  refine A8 fun k b=>?_
  have:=List.find?_eq_none.1 a k (Bq.2 b)
  simpa using this
def Su{O:Ag}{k m g:Nat}(n:OOk O k)(d:1<=m)(x:m<=k)(v:g<64*m)(u:(Dz O (64*m):Int)<62*(m:Int)-42):∃ f:Nat,f<64*m/\G4 O (64*m) g=f/\Df O f=T/\CZ (f:Int)=AN:=by
 have q:=n.k12;have a:∀ f,f<64*k->Df O f=T->CZ (f:Int)=AN:=fun f r c=>by
  have h:=n.fx f r;have l:(O.getD f (0,0)).1=0:=Ba c;rw[l] at h;exact h.symm.trans Af
 rcases Wz O (64*m) g with⟨i,w,c,e⟩|p
 . have t:(g+i)%(64*m)<64*m:=JE _ Aa
   exact⟨_,t,e,c,a _ Aa c⟩
 . have b:∀ j,j<64*m->Df O j=AN:=fun j o=>by
    by_cases s:g<=j
    . have:=p (j-g) Aa
      rwa [show g+(j-g)=j from Aa,Gy o] at this
    . have:=p (64*m-g+j) Aa
      rwa [show g+(64*m-g+j)=j+64*m from Aa,Nat.add_mod_right,Gy o] at this
   have:=UM _ b;have l:=WC m d Aa;omega
end
section
open Go.RowKit
section
variable {P:Program}{ops:Array BK}{Q:Exit->Act->I->Prop}{md:Region.Mode}{S:I->Prop}{m:Nat}
def qN(m:Nat)(S:I->Prop)(L:Array Bool)(w:I):Prop:=L.getD m T=AN->S w
def GG(P:Program)(md:Region.Mode)(ops:Array BK)(Q:Exit->Act->I->Prop)(S:I->Prop)(m:Nat):Nat->Array Bool->Act->I->Prop
 |0,L,a,w=>Region.ready md ops L=[]/\Q .normal a w
 |n+1,L,a,w=>(Region.ready md ops L=[]->Q .normal a w)/\∀ i∈Region.ready md ops L,wpOp P ops Q i (fun a' w'=>qN m S (L.setIfInBounds i T) w'/\GG P md ops Q S m n (L.setIfInBounds i T) a' w') a w
def JQ:∀ (n:Nat) (L:Array Bool) (a:Act) (w:I),GG P md ops Q S m n L a w->wpAny P md ops Q n L a w
 |0,_,_,_,h=>h
 |n+1,_,_,_,h=>⟨h.1,fun i hi=>wpOp_mono (fun _ _ k=>JQ n _ _ _ k.2) (h.2 i hi)⟩
def ll{L:Array Bool}{i:Nat}(h:i∈Region.ready md ops L):L.getD i T=AN/\L.getD i AN=AN:=by
 have a:=(mem_ready.1 h).1;refine⟨a,?_⟩;rcases Nat.lt_or_ge i L.size with b|b
 . simp[b] at a |-;exact a
 . simp[Array.getElem?_eq_none b] at a
def Qx{i:Nat}{p U:BK}{v:AA}(hi:ops[i]? =V p)(E:ops[m]? =V U)(J:∃ e∈U.after,Region.binds md e=T/\e.on=i)
 (G:∀ (j:Nat) (o:BK) cs b,ops[j]? =V o->o.op≠.select cs b) (N:∀ c a w,Q (.panic c) (a.put p.dst v) w->Q (.panic c) a w):
 ∀ (n:Nat) (L:Array Bool) (a:Act) (w:I),(∀ j g,ops[j]? =V g->j≠i->L.getD j T=AN->(∀ e∈g.after,Region.binds md e=T->e.on≠i)->p.apart ops g=T)->
   i∈Region.ready md ops L->L.getD m T=AN->YieldsIf P ops S p v a->S w->
   GG P md ops Q S m n (L.setIfInBounds i T) (a.put p.dst v) w->GG P md ops Q S m (n+1) L a w
 |n,L,a,w,hfree,hr,hLm,hy,hS,H=>by
  refine⟨fun h=>(by rw[h] at hr;cases hr),fun j A=>?_⟩;by_cases l:j=i
  . subst l
    exact hy.wpOp hi hS ⟨fun _=>hS,H⟩
  . obtain⟨W,g,y,r⟩:=mem_ready.1 A
    have x:=(ll hr).2;have K:∀ e∈g.after,Region.binds md e=T->e.on≠i:=fun e he s Z=>by
     have d:=r e he s;rw[Z,x] at d;cases d
    have B:j≠m:=fun e=>by
     subst e;obtain⟨e,he,s,f⟩:=J;rw[E] at y;obtain rfl:=Bc y;exact K e he s f
    cases n with
    |zero=>
     have d:=ready_mono A l;rw[H.1] at d;cases d
    |succ n=>
     have h2:=wpOp_putIf y (hfree j g y l W K) (fun cs b=>G i p cs b hi) (fun cs b=>G j g cs b y) N hy (H.2 j (ready_mono A l));refine wpOp_mono (fun a' Y h3=>?_) h2;obtain⟨F,O,M⟩:=h3;have z:i≠m:=fun e=>by
      subst e;obtain⟨e,he,s,f⟩:=J;obtain⟨_,o,R,lF⟩:=mem_ready.1 hr;rw[E] at R;obtain rfl:=Bc R;have d:=lF e he s;rw[f,x] at d;cases d
     have X:(L.setIfInBounds j T).getD m T=AN:=(by rw[getD_set_ne T B];exact hLm);rw[Array.setIfInBounds_comm _ _ (C0 l)] at O M;have q:S Y:=O (by rw[getD_set_ne T z];exact X);refine⟨fun _=>q,Qx hi E J G N n _ a' Y (fun k ok hk C u D=>?_) (ready_mono hr (C0 l)) X F q M⟩;refine hfree k ok hk C ?_ D;by_cases t:j=k
     . subst t;exact W
     . rw[getD_set_ne T t] at u;exact u
def Nx{i:Nat}{b g:BK}{v:AA}{n:Nat}{L:Array Bool}{a:Act}{w:I}(hi:ops[i]? =V b)(l:ops[m]? =V g)(r:g.after.any (fun e=>Region.binds md e && e.on==i)=T)
 (p:Region.noSelect ops=T) (hf:Region.free md ops L i=T) (o:(Region.ready md ops L).contains i=T) (d:L.getD m T=AN)
 (j:∀ c a w,Q (.panic c) (a.put b.dst v) w->Q (.panic c) a w) (q:YieldsIf P ops S b v a) (k:S w)
 (h:GG P md ops Q S m n (L.setIfInBounds i T) (a.put b.dst v) w):GG P md ops Q S m (n+1) L a w:=
 Qx hi l (by
  obtain⟨e,he,f⟩:=Array.any_eq_true'.1 r;simp only[A0,beq_iff_eq] at f;exact⟨e,he,f.1,f.2⟩) (Region.noSelect_spec p) j n L a w (Region.free_spec hi hf) (by simpa using o) d q k h
def TillReady(P:Program)(md:Region.Mode)(ops:Array BK)(Q:Exit->Act->I->Prop)(S:I->Prop)(m n:Nat)(L:Array Bool)(a:Act)(w:I)(rs:List Nat):Prop:=
 ∀ i∈rs,wpOp P ops Q i (fun c b=>qN m S (L.setIfInBounds i T) b/\GG P md ops Q S m n (L.setIfInBounds i T) c b) a w
def TillReady.nil{n:Nat}{L:Array Bool}{a:Act}{w:I}:TillReady P md ops Q S m n L a w []:=fun _ h=>by cases h
def TillReady.cons{n:Nat}{L:Array Bool}{a:Act}{w:I}{i:Nat}{o:BK}{rs:List Nat}(g:ops[i]? =V o)
 (h:∀ K:Act->I->Prop,Hid (∀ a w,qN m S (L.setIfInBounds i T) w->GG P md ops Q S m n (L.setIfInBounds i T) a w->K a w)->if Region.wanted o (yielded ops a.tmps)=T then BK.wp P o a w K Q else K (a.put o.dst undef) w)
 (k:TillReady P md ops Q S m n L a w rs):TillReady P md ops Q S m n L a w (i :: rs):=fun j b=>by
 rcases Ez.1 b with rfl|b
 . exact wpOp_step g (fun K d=>h K (fun a w f c=>d a w ⟨f,c⟩))
 . exact k j b
def EJ{rs:List Nat}{n:Nat}{L:Array Bool}{a:Act}{w:I}(c:Region.ready md ops L=rs)(b:rs≠[])(h:TillReady P md ops Q S m n L a w rs):GG P md ops Q S m (n+1) L a w:=
 ⟨fun d=>absurd (c ▸ d) b,c ▸ h⟩
def RK{L:Array Bool}{a:Act}{w:I}(b:Region.ready md ops L=[])(h:Q .normal a w):∀ n,GG P md ops Q S m n L a w
 |0=>⟨b,h⟩
 |_+1=>⟨fun _=>h,by rw[b];simp⟩
end
def F8(k:Nat)(j:Nat):Int × Int:=if CZ (j:Int)=T then (65535,0) else if 43<=j/\j<49/\j<k then (65534,(j:Int)-43) else (0,0)
def FE(k L:Nat):Ag:=(BE L).map (F8 k)
def Gv(K:Nat):Ag:=FE (64*K) (64*K)
def CU(k L:Nat):(FE k L).length=L:=by simp[FE]
def FW(k L j:Nat)(h:j<L):(FE k L).getD j (0,0)=F8 k j:=by simp[FE,h]
def YN(g:Nat):FE 0 (64*(g+1))=FE 0 (64*g) ++ FS (g:Int) 64:=by
 apply Bt (by simp[FE,IF];omega);intro i a b;rw[CU] at a;rw[List.getElem_append];split
 . simp[FE]
 . next h=>
   rw[CU] at h;simp only[FE,FS,Cu,Co,Bn,List.length_range];unfold F8 LV;have e:64*(g:Int)+((i-64*g:Nat):Int)=(i:Int):=Aa;rw[e];cases CZ (i:Int) <;> simp
def MQ{j:Nat}:(j<43->CZ (j:Int)=T)/\(43<=j->j<49->CZ (j:Int)=AN):=by
 unfold CZ;exact⟨fun h=>AK Aa,fun a b=>AM Aa⟩
def jL(k L:Nat)(c:43<=k)(d:k<49):(FE k L).set k (65534,(k:Int)-43)=FE (k+1) L:=by
 apply Bt (by simp[FE]);intro i g h;simp only[FE,Eh,Cu,Co];unfold F8;have f:=(MQ (j:=k)).2 c d;by_cases e:k=i
 . subst e;rw[AG rfl,f];simp;omega
 . rw[AJ e]
   by_cases a:CZ (i:Int)=T
   . rw[AG a,AG a]
   . rw[AJ a,AJ a]
     by_cases b:43<=i/\i<49/\i<k
     . rw[AG b,AG Aa]
     . rw[AJ b,AJ Aa]
def RU(k L:Nat)(h:k<43\/49<=k):FE k L=FE (k+1) L:=by
 unfold FE;apply Cr;intro i _;unfold F8;by_cases a:CZ (i:Int)=T
 . rw[AG a,AG a]
 . rw[AJ a,AJ a]
   by_cases b:43<=i/\i<49/\i<k
   . rw[AG b,AG Aa]
   . rw[AJ b,AJ Aa]
def SL(k j:Nat):(0<=(F8 k j).1/\(F8 k j).1<=65535)/\(0<=(F8 k j).2/\(F8 k j).2<=65535):=by
 unfold F8;split
 . decide
 . split
   . next h=>simp only;omega
   . decide
def Z7{K:Nat}(b:1<=K)(c:K<=12):OOk (Gv K) K:=by
 refine⟨CU _ _,b,c,JO fun j a=>?_,fun j a=>?_,fun j a=>?_⟩
 . unfold Gv at a |-
   rw[CU] at a;rw[FW _ _ _ a];exact SL _ _
 . unfold Ns Gv
   rw[FW _ _ _ a];unfold F8;split
   . decide
   . split
     . next h=>
       obtain⟨m,d⟩:∃ m:Nat,m=j-43:=⟨_,rfl⟩;have e:(j:Int)-43=m:=Aa;have f:m<6:=Aa;simp only[e];clear d e h
       revert m;decide
     . decide
 . unfold Gv
   rw[FW _ _ _ a];unfold F8;split
   . next h=>rw[h];rfl
   . next h=>
     rw[Bool.not_eq_true] at h;rw[h];split <;> rfl
def OJ{y:Array BK}{o:BK}{a:Act}{w:I}{K:Act->I->Prop}{Q:Exit->Act->I->Prop}{E:Prop}(G:o.guard=U)(s x:Operand)
 (V:o.op=.call { callee:=.builtin .append,args:=#[s,x],argTypes:=#[146,146] }) (X:o.type=146)
 (B:Nat) (v:AA) (O:Ag) (W:a.eval s=v) (d:OwR w B v O) (hO:O.length<=1000000) (u:AA) (D:Ag) (Z:a.eval x=u) (F:OwSl w u D) (l:0<D.length/\D.length<=1000) (C:B<=w.heap.size)
 (h:∀ v' w',OwR w' B v' (O ++ D)->z B w w'->K (a.put o.dst v') w'):if Region.wanted o (yielded y a.tmps)=T then BK.wp Aq o a w K Q else E:=by
 obtain⟨t,J,L,M,N⟩:=Bs TG;obtain⟨b,r,n,rfl,hb,P⟩:=F.at l.1;refine step_append_lies w G s x 146 V B 200 t _ 2 4 underlying146 J L M N rfl Af v O.length (Fx O) W d.2 ⟨b,r,U⟩ D.length n (Fx D) Z (DK D) ?_ ?_ l.1 (by simp only[maxLen];omega) Aa C w.heap.size rfl ?_
 . intro j u c
   have H:j<D.length*2:=(by rw[<- DK];exact(Bo.1 c).1);obtain⟨i,R⟩:=nm (j / 2);obtain⟨p,q⟩:=L4 D i Aa;obtain⟨k1,k2⟩:=P i Aa;rw[Cd];rcases Fu j with e|e
   . obtain rfl:j=i*2:=by omega
     rw[p] at c;rw[k1,<- c]
   . obtain rfl:j=i*2+1:=by omega
     rw[q] at c;rw[<- Dw,k2,<- c]
 . intro u Y
   obtain⟨j,c⟩:=List.getElem?_of_mem Y;have H:j<D.length*2:=(by rw[<- DK];exact(Bo.1 c).1);obtain⟨i,R⟩:=nm (j / 2);obtain⟨p,q⟩:=L4 D i Aa;rcases Fu j with e|e
   . obtain rfl:j=i*2:=by omega
     rw[p] at c;obtain rfl:=Bc c;rfl
   . obtain rfl:j=i*2+1:=by omega
     rw[q] at c;obtain rfl:=Bc c;rfl
 . intro g A w' uY f _ _
   refine h _ w' ⟨JO fun m hm=>?_,?_⟩ ((AP _ _).grown f C fun k S=>(BY d.2 k S).1)
   . by_cases e:m<O.length
     . have:=d.1 m
       rw[Az,BT e,<- Az];exact this
     . have:=F.1 (m-O.length)
       rw[Az,B5 Aa,<- Az];exact this
   . rw[AO,Oj];exact uY
def NX(k:Nat)(a:1<=k)(b:k<=12)(w:I):AH Aq 67 #[J R (64*(k:Int))] w fun e w'=>e=Av (J R k)/\w=w':=by
 have:=Vn (64*(k:Int)) Aa w;rw[show MD (64*(k:Int))=k by unfold MD;rw[AG (TV k a b)];omega] at this;exact this
def NSp(w:I)(b:Nat)(n:Int)(O:Ag):Prop:=∃ v,w.heap[b]? =V (r #[J R n,v] 148 (0,0))/\OwR w (b+1) v O
def NSp.rsp{w:I}{b:Nat}{n:Int}{O:Ag}(h:NSp w b n O):∃ M,RSp w M (Ax (V ⟨b,0,U⟩)) n O/\∀ x,M x->b<=x:=by
 obtain⟨v,d,c⟩:=h;refine⟨fun x=>x=b\/v.ownBlock=V x,⟨b,v,rfl,d,c.more (A7 _),fun k=>Iff.rfl⟩,fun x a=>?_⟩;rcases a with rfl|a
 . exact AE _
 . have:=(BY c.2 x a).1;omega
def fK{w:I}{b:Nat}{n:Int}{O:Ag}{v v':AA}(hd:w.heap[b]? =V (r #[J R n,v] 148 (0,0)))(a:OwR w (b+1) v' O):
 NSp (w.setCell ⟨b,1,U⟩ v') b n O/\z b w (w.setCell ⟨b,1,U⟩ v'):=by
 have c:=Wrote.setCell w b 1 v';refine⟨⟨v',Bk w b 1 _ _ _ hd,a.1,Fo a.2 fun g d=>c.2.2.2.2 g fun e=>?_⟩,c.below (AE _)⟩;have:=(BY a.2 g d).1;omega
def RSp.all{w:I}{M:Nat->Prop}{b:Nat}{n:Int}{O:Ag}(h:RSp w M (Ax (V ⟨b,0,U⟩)) n O)(l:0<O.length):∃ g cap cur,w.heap[b]? =V (r #[J R n,Aw (V ⟨g,0,U⟩) O.length cap] 148 (0,0))/\w.heap[g]? =V (r cur 200 (0,0))/\cur.toList.take (O.length*2)=Fx O/\O.length<=cap/\cap<=maxLen/\cur.size=cap*2/\(∀ k,M k ↔ k=b\/k=g)/\
 (∀ j,j<O.length->w.cell? ⟨g,j*2,U⟩=V (J .u16 (O.getD j (0,0)).1)/\w.cell? ⟨g,j*2+1,U⟩=V (J .u16 (O.getD j (0,0)).2)):=by
 obtain⟨t,g,f,cap,u,C,c,y⟩:=h.cells l;obtain⟨s,i,a,cur,v,m,z,B,o,p,q,D,x⟩:=h.row l;obtain rfl:b=s:=by injection v with e;injection e with e;injection e with e
 obtain rfl:b=t:=by injection u with e;injection e with e;injection e with e
 have d:w.cell? ⟨b,1,U⟩=V (Aw (V ⟨i,0,U⟩) O.length a):=by rw[AD _ _ _ _ _ _ m];rfl
 obtain⟨rfl,rfl,rfl⟩:g=i/\f=0/\cap=a:=by
  rw[d] at c
  injection c with c
  injection c with a1 _ a3
  injection a1 with a1
  injection a1 with a1 a2
  exact⟨a1.symm,a2.symm,a3.symm⟩
 refine⟨g,cap,cur,m,z,B,o,p,q,x,fun j A=>?_⟩;have:=y j A
 rwa [BC] at this
def lV(k:Nat):Int:=if k<=43 then 0 else if k<49 then (k:Int)-43 else 6
def ra{k:Nat}(h:k<43):lV k=0/\lV (k+1)=0:=by unfold lV;rw[AG Aa,AG Aa];exact⟨rfl,rfl⟩
def qM{k:Nat}(h:49<=k):lV k=6/\lV (k+1)=6:=by unfold lV;rw[AJ Aa,AJ Aa,AJ Aa,AJ Aa];exact⟨rfl,rfl⟩
def nE{k:Nat}(h:43<=k)(a:k<49):lV k=(k:Int)-43/\lV (k+1)=(k:Int)-43+1:=by
 unfold lV;refine⟨?_,?_⟩
 . by_cases e:k=43
   . subst e;rfl
   . rw[AJ Aa,AG a]
 . rw[AJ Aa]
   by_cases e:k=48
   . subst e;rfl
   . rw[AG Aa];omega
def b6{kk:Nat}(h1:1<=kk)(h2:kk<=12)(w:I):AH Aq 66 #[J R (64*(kk:Int))] w fun e w'=>∃ p M,e=Av p/\RSp w' M p (64*(kk:Int)) (Gv kk)/\(∀ x,M x->w.heap.size<=x)/\z w.heap.size w w':=by
 have KG:=wN (fun(W:I)=>NX kk h1 h2 W);have a0:=AF w (r #[J R (64*(kk:Int)),Aw U 0 0] 148);have EO:=AC w (r #[J R (64*(kk:Int)),Aw U 0 0] 148);go_enter func66,ntmps66;go_upto_region 2 with(fail)
 generalize w.alloc (r #[J R (64*(kk:Int)),Aw U 0 0] 148)=B at a0 EO |-
 obtain⟨b,P⟩:=nm w.heap.size;rw[<- P] at EO |-
 have b0:Hid (NSp B b (64*(kk:Int)) (FE 0 (64*0))):=wN ⟨_,EO,af B (b+1)⟩;have c9:Hid (z b w B):=wN (by rw[P];exact a0);have a6:=wN P;have q:Hid (z b B B/\b<B.heap.size):=wN ⟨AP _ _,(Au.1 EO).1⟩;clear a0 EO P;go_wp2_with (go_at_call 67;refine Ad (KG.out _) ?_;rintro w' rfl)
 go_loopw [12] (fun i wr=>∃ g:Nat,g<=kk/\i=J R g/\Hid (NSp wr b (64*(kk:Int)) (FE 0 (64*g)))/\Hid (z b B wr/\b<wr.heap.size)) (fun i _=>kk-(intOf i).toNat)
 case atStart=>exact⟨0,Aa,rfl,b0,q⟩
 case round=>
  obtain⟨g,hg,rfl,HN,HB⟩:=hrel;clear b0 q;by_cases e6:g<kk
  . have eg:(g:Int)<12:=by omega
    have e2:(g:Int)<(kk:Int):=Aa;obtain⟨v,P,ho⟩:=HN.out;have c1:wr.drew.cell? ⟨b,1,U⟩=V v:=(by rw[AD _ _ _ _ _ _ (show wr.drew.heap[b]? =_ from P)];rfl);have KF:=wN (UL (g:Int) Aa Aa wr.drew);have HD:=wN (show wr.drew.heap[b]? =V (r #[J R (64*(kk:Int)),v] 148 (0,0)) from P);have HO:=wN (show OwR wr.drew (b+1) v (FE 0 (64*g)) from ho);have C:=wN (show z b B wr.drew/\b<wr.drew.heap.size from⟨HB.out.1.drew,HB.out.2⟩);have d6:=wN (CU 0 (64*g));have d0:=wN (YN g);clear P ho;go_wp2;refine wp_region_any Ac ?_
    (try simp only[Act.put,A5,List.set_cons_zero,List.set_cons_succ,List.getElem_toArray,List.getElem_cons_zero,List.getElem_cons_succ])
    refine wpAny_take (i:=0) (v:=(Ax (V ⟨b,0,U⟩))) rfl Ac Ac Ac (fun _ _ _ h=>h) (A4 ⟨Aj,?_⟩) ?_
    . intro W
      go_simp
    (try simp only[Act.put,A5,List.set_cons_zero,List.set_cons_succ,List.getElem_toArray,List.getElem_cons_zero])
    refine wpAny_take (i:=1) (v:=(Ax (V ⟨b,0,U⟩))) rfl Ac Ac Ac (fun _ _ _ h=>h) (A4 ⟨Aj,?_⟩) ?_
    . intro W
      go_simp
    (try simp only[Act.put,A5,List.set_cons_zero,List.set_cons_succ,List.getElem_toArray,List.getElem_cons_zero,List.getElem_cons_succ])
    refine wpAny_take (i:=2) (v:=(Ax (V ⟨b,0,U⟩))) rfl Ac Ac Ac (fun _ _ _ h=>h) (A4 ⟨Aj,?_⟩) ?_
    . intro W
      go_simp
    (try simp only[Act.put,A5,List.set_cons_zero,List.set_cons_succ,List.getElem_toArray,List.getElem_cons_zero,List.getElem_cons_succ])
    refine wpAny_take (i:=3) (v:=(Ax (V ⟨b,1,U⟩))) rfl Ac Ac Ac (fun _ _ _ h=>h) (A4 ⟨Aj,?_⟩) ?_
    . intro W
      go_simp
    (try simp only[Act.put,A5,List.set_cons_zero,List.set_cons_succ,List.getElem_toArray,List.getElem_cons_zero,List.getElem_cons_succ])
    refine wpAny_take (i:=5) (v:=(J R g)) rfl Ac Ac Ac (fun _ _ _ h=>h) (A4 ⟨Aj,?_⟩) ?_
    . intro W
      go_simp
    (try simp only[Act.put,A5,List.set_cons_zero,List.set_cons_succ,List.getElem_toArray,List.getElem_cons_zero,List.getElem_cons_succ])
    refine JQ (S:=fun W=>W.cell? ⟨b,1,U⟩=V v) (m:=10) _ _ _ _ ?_;refine Nx (i:=4) (v:=v) rfl rfl Ac Ac Ac Ac Ac (fun _ _ _ h=>h) (A4 ⟨Aj,?_⟩) c1 ?_
    . intro W hS
      go_simp
    (try simp only[Act.put,A5,List.set_cons_zero,List.set_cons_succ,List.getElem_toArray,List.getElem_cons_zero,List.getElem_cons_succ])
    refine EJ (rs:=[6]) Ac Ai (TillReady.cons rfl (fun K f=>?_) TillReady.nil)
    go_simp
    go_at_call 109
    refine KF.out.mono ?_;rintro e w3 ⟨u,rfl,hu,o⟩;have d3:=BD HD.out o;have c3:w3.cell? ⟨b,1,U⟩=V v:=by rw[AD _ _ _ _ _ _ d3];rfl
    have c7:=AL C.out.2 o.size;refine f.out _ _ (fun _=>c3) ?_;clear f K
    (try simp only[Act.put,A5,List.set_cons_zero,List.set_cons_succ,List.getElem_toArray,List.getElem_cons_zero,List.getElem_cons_succ])
    refine EJ (rs:=[7]) Ac Ai (TillReady.cons rfl (fun K f=>?_) TillReady.nil);refine OJ Aj (.tmp 19) (.tmp 21) Aj Aj (b+1) v (FE 0 (64*g)) Aj (HO.out.below o) (by rw[d6.out];omega) u (FS g 64) Aj hu.sl (by rw[IF];decide) c7 ?_;intro v' Q H F;obtain⟨a4,d,rfl⟩:=H.sl.shape;obtain⟨n4,c5⟩:=nm ((FE 0 (64*g) ++ FS (g:Int) 64).length);rw[<- c5] at H |-
    clear c5;have d4:=(F.block b Aa).trans d3;have c4:Q.cell? ⟨b,1,U⟩=V v:=(by rw[AD _ _ _ _ _ _ d4];rfl);refine f.out _ _ (fun _=>c4) ?_;clear f K
    (try simp only[Act.put,A5,List.set_cons_zero,List.set_cons_succ,List.getElem_toArray,List.getElem_cons_zero,List.getElem_cons_succ])
    refine EJ (rs:=[8]) Ac Ai (TillReady.cons rfl (fun K f=>?_) TillReady.nil)
    go_simp
    refine f.out _ _ (fun _=>c4) ?_;clear f K
    (try simp only[Act.put,A5,List.set_cons_zero,List.set_cons_succ,List.getElem_toArray,List.getElem_cons_zero,List.getElem_cons_succ])
    refine EJ (rs:=[9]) Ac Ai (TillReady.cons rfl (fun K f=>?_) TillReady.nil)
    go_simp
    refine f.out _ _ (fun _=>c4) ?_;clear f K
    (try simp only[Act.put,A5,List.set_cons_zero,List.set_cons_succ,List.getElem_toArray,List.getElem_cons_zero,List.getElem_cons_succ])
    have hf:=frozen_of_row Q b 1 _ _ d4;refine EJ (rs:=[10]) Ac Ai (TillReady.cons rfl (fun K f=>?_) TillReady.nil)
    go_simp
    obtain⟨r1,r2⟩:=fK d4 H;have b1:Hid (NSp (Q.setCell ⟨b,1,U⟩ (Aw a4 n4 d)) b (64*(kk:Int)) (FE 0 (64*(g+1)))):=wN (by rw[d0.out];exact r1);have a5:Hid (z b B (Q.setCell ⟨b,1,U⟩ (Aw a4 n4 d))/\b<(Q.setCell ⟨b,1,U⟩ (Aw a4 n4 d)).heap.size):=wN (by
     have b8:=(C.out.1.trans (o.mono (Cy C.out.2))).trans (F.mono (Nat.le_succ b));have gp:=b8.trans r2;refine⟨gp,AL ?_ r2.size⟩;have:=o.size;have:=F.size;have:=C.out.2;omega)
    clear r1 r2;generalize Q.setCell ⟨b,1,U⟩ (Aw a4 n4 d)=Y at b1 a5 |-
    refine f.out _ _ (fun h=>by cases h) ?_;clear f K
    (try simp only[Act.put,A5,List.set_cons_zero,List.set_cons_succ,List.getElem_toArray,List.getElem_cons_zero,List.getElem_cons_succ])
    clear hf c4 d4 F H o c3 d3 c7 hu;refine RK Ac ?_ _;go_wp2;go_roundw
    case rel=>exact⟨g+1,Aa,by go_num,b1,a5⟩
    case measure=>simp[intOf];omega
  . obtain rfl:g=kk:=by omega
    obtain⟨M,hM,b7⟩:=HN.out.rsp;have a9:=wN b7;obtain⟨L,hL⟩:=nm (64*g);have e4:64<=L:=Aa;have e5:L<=768:=Aa;rw[<- hL] at hM;have d2:=wN hL;have a8:Hid (RSp wr M (Ax (V ⟨b,0,U⟩)) (64*(g:Int)) (FE 0 L)):=wN hM;have q:Hid (z b B wr):=wN HB.out.1;obtain⟨g0,b2,e0,Z,_⟩:=hM.all (by rw[CU];omega);rw[CU] at Z;have c1:wr.cell? ⟨b,1,U⟩=V (Aw (V ⟨g0,0,U⟩) L b2):=(by rw[AD _ _ _ _ _ _ Z];rfl);clear hM b7 Z HB HN hL;go_wp2;clear c1;go_loopw [4,31] (fun d7 i wr=>∃ k:Nat,k<=L/\i=J R k/\d7=J R (lV k)/\Hid (RSp wr M (Ax (V ⟨b,0,U⟩)) (64*(g:Int)) (FE k L))/\Hid (z b B wr)) (fun _ i _=>L-(intOf i).toNat)
    case atStart=>exact⟨0,Aa,rfl,rfl,a8,q⟩
    case round=>
     obtain⟨k,hk,rfl,rfl,T,D⟩:=hrel;clear a8 q;by_cases c2:k<L
     . obtain⟨E,b3,y,n,A,si,pd,pf,pi,Sz,G⟩:=T.out.all (by rw[CU];omega)
       have a:=(G k (by rw[CU];omega)).1;rw[FW _ _ _ c2] at a;have e3:(k:Int)<(L:Int):=Aa;have c1:wr.cell? ⟨b,1,U⟩=V (Aw (V ⟨E,0,U⟩) L b3):=(by rw[CU] at n;rw[AD _ _ _ _ _ _ n];rfl);by_cases b5:49<=k
       . obtain⟨N,O⟩:=qM b5
         have c:=T.out;rw[RU k L (A8 b5)] at c;have X:=wN c;have l:=wN O;rw[N];clear n A si pd pf pi Sz G a c N O T;go_wp2;go_roundw
         case rel=>exact⟨k+1,Aa,by go_num,by rw[l.out],X,D⟩
         case measure=>simp[intOf];omega
       . by_cases ZF:k<43
         . obtain⟨N,O⟩:=ra ZF
           have c:=T.out;rw[RU k L (A4 ZF)] at c;have X:=wN c;have l:=wN O;rw[N];unfold F8 at a;rw[(MQ (j:=k)).1 ZF] at a;have b9:wr.cell? ⟨E,k*2,U⟩=V (J .u16 65535):=a;clear n A si pd pf pi Sz G a c N O T;go_wp2;go_roundw
           case rel=>exact⟨k+1,Aa,by go_num,by rw[l.out],X,D⟩
           case measure=>simp[intOf];omega
         . obtain⟨N,O⟩:=nE (show 43<=k from Aa) (show k<49 from Aa)
           have l:=wN O;rw[N];obtain⟨t,ht⟩:∃ t:Nat,t=k-43:=⟨_,rfl⟩;have et:(k:Int)-43=(t:Int):=Aa;have e7:t<6:=Aa;have e1:(t:Int)<6:=Aa;have e8:IntKind.u16.wrap (t:Int)=t:=(by rw[IntKind.wrap_u16];omega);unfold F8 at a;rw[(MQ (j:=k)).2 Aa Aa,AJ Af,AJ Aa] at a;have b9:wr.cell? ⟨E,k*2,U⟩=V (J .u16 0):=a;have a7:=wN (fun(w':I) (s:Array AA) (hw:Wrote wr w' E) (d8:w'.heap[E]? =V (r s 200 (0,0))) (hs:s.size=y.size) (d9:s.toList.take ((FE k L).length*2)=Fx ((FE k L).set k (65534,(t:Int))))=>RSp.stored n A pd pf (JO fun j hj=>by rw[CU] at hj;rw[FW _ _ _ hj];exact SL _ _) Sz hw d8 (hs.trans pi) d9 ⟨⟨Af,Af⟩,⟨Aa,Aa⟩⟩);have d5:Hid ((FE k L).set k (65534,(t:Int))=FE (k+1) L):=wN (by rw[<- et];exact jL k L Aa Aa);have HG:=wN A;have HT:=wN si;have HS:Hid ((FE k L).length*2<=y.size):=wN Aa;have HK:Hid (k<(FE k L).length):=wN (by rw[CU];exact c2);have d1:Hid (b<=E):=wN (a9.out E ((Sz E).2 (A8 rfl)));rw[et] at l |-
           clear n A si pd pf pi Sz G a N O T ht et;go_wp2_with (with_reducible refine IL rfl (.tmp 55) (.tmp 54) rfl E k (FE k L) y 65534 t rfl rfl HG.out HT.out HS.out HK.out ?_;intro Q b4 a3 c0 c6 uU;have HE:=wN (a7.out Q b4 a3 c0 c6 uU);have c8:=wN (D.out.trans (a3.below d1.out));clear a3 c0 c6 uU)
           go_roundw
           case rel=>exact⟨k+1,Aa,by go_num,by rw[l.out],wN (by rw[<- d5.out];exact HE.out.1),c8⟩
           case measure=>simp[intOf];omega
     . obtain rfl:k=L:=by omega
       have c:=T.out;go_wp2;go_ret;refine⟨_,M,rfl,?_,fun x hx=>by have:=a9.out x hx;rw[a6.out] at this;exact this,?_⟩
       . unfold Gv;rw[<- d2.out];exact c
       . have:=c9.out.trans D.out
         rw[a6.out] at this;exact this
def ir{L:Ab}(j:Nat)(c:j<12)(b:j≠1)(x:Int)(f:x=num L j)(a:0<=x/\x<65536)(W:I)(u:AA)(d:BSl W u (GT L j)):
 AH Aq 112 #[u,J .u64 x,J R 2] W (J8 W (GT L (j+1))):=iZ j c x f a 2 (AJ b).symm W u d
def fM{L:Ab}(x:Int)(a:x=num L 1)(b:0<=x/\x<256):GT L 1 ++ [x]=GT L 2:=by
 rw[show GT L 2=GT L 1 ++ B8 (num L 1) (Ig 1) from rfl,<- a,show Ig 1=1 from rfl,Hl,Hn];simp;omega
def ia(b st tg H O G t0 t1 t2 t3 t4 t5:Int)(L:Ab)(t:L=[b,st,tg,H,O,G,t0,t1,t2,t3,t4,t5])(hf:DU L=T)(w:I)
 (hF:∀ w,AH Aq 117 #[BS #[J R b,J R st,J R tg,J R H,J R O,J R G,J R t0,J R t1,J R t2,J R t3,J R t4,J R t5]] w fun e w'=>e=Av (AY T)/\z w.heap.size w w'):
 AH Aq 75 #[BS #[J R b,J R st,J R tg,J R H,J R O,J R G,J R t0,J R t1,J R t2,J R t3,J R t4,J R t5]] w fun e w'=>∃ v,e=Av (AT #[v,J R 0])/\OB w' w.heap.size v (Gh L)/\z w.heap.size w w':=by
 have B:=AF w (Cm L 156);have hh:=AC w (Cm L 156);obtain⟨W1,y⟩:=nm (w.alloc (Cm L 156));rw[<- y] at B hh;have Km:w.alloc (r #[J R b,J R st,J R tg,J R H,J R O,J R G,J R t0,J R t1,J R t2,J R t3,J R t4,J R t5] 156)=W1:=by rw[y,t];rfl
 have M:L.length=12:=by rw[t];rfl
 have Ef:w.heap.size<W1.heap.size:=by rw[y];simp
 have kc:=fun(w:I) (C:Array AA) (n c:Nat)=>E4 (P:=Aq) w 77 5 C n c underlying77 underlying5
 have e0:b=num L 0:=by rw[t];rfl
 have e1:st=num L 1:=by rw[t];rfl
 have e2:tg=num L 2:=by rw[t];rfl
 have e3:H=num L 3:=by rw[t];rfl
 have e4:O=num L 4:=by rw[t];rfl
 have e5:G=num L 5:=by rw[t];rfl
 have f0:=O0 hf 0 Af;have f1:0<=num L 1/\num L 1<256:=T8 hf 1 Af;rw[<- e0] at f0;rw[<- e1] at f1;have H2:=wN Km;have HH:=wN hh;have b5:=wN M;have a4:=wN hf;have K0:=wN hF;have E0:=wN e0;have E1:=wN e1;have b2:=wN (And.intro e2 (And.intro e3 (And.intro e4 e5)));have hc:=fun(W:I) (h:W.heap[w.heap.size]? =V (Cm L 156))=>by rw[t] at h;exact IQ h
 have X:=wN hc;clear hF hh y Km t M hf e0 e1 e2 e3 e4 e5 hc;go_enter func75,ntmps75
 go_wp2_with (first
  |(go_at_call 117;rw[H2.out];refine Ad (K0.out _) ?_;rintro s A;have a1:z w.heap.size w s:=B.trans (A.mono B.size)
    have F:w.heap.size<s.heap.size:=AL Ef A.size;have D:s.heap[w.heap.size]? =V (Cm L 156):=(A.block _ Ef).trans HH.out;have b8:=X.out _ D)
  |(go_at_call 112
    have a2:=Rt s;have m:=AF s (r #[J .u8 97,J .u8 115,J .u8 104,J .u8 108,J .u8 97,J .u8 114,J .u8 32,J .u8 49] 5 (8,9));generalize s.alloc (r #[J .u8 97,J .u8 115,J .u8 104,J .u8 108,J .u8 97,J .u8 114,J .u8 32,J .u8 49] 5 (8,9))=w3 at a2 m |-
    refine(ir 0 Af Af b E0.out f0 _ _ a2).mono ?_;rintro e w4 ⟨v4,rfl,N,Z⟩;have l:z s.heap.size s w4:=m.trans (Z.mono m.size);have a9:w4.heap[w.heap.size]? =V (Cm L 156):=(l.block _ F).trans D;have b9:=X.out _ a9)
  |(at_builtin
    refine FM w4 st rfl (.tmp 17) (.tmp 21) rfl w3.heap.size _ (GT L 1) rfl N ⟨f1.1,Aa⟩ rfl (by rw[EF];decide) Z.size ?_;intro v5 Q o a5;rw[fM st E1.out f1] at o;have K:z s.heap.size w4 Q:=a5.mono m.size;have f:z s.heap.size s Q:=l.trans K;have Du:Q.heap[w.heap.size]? =V (Cm L 156):=(f.block _ F).trans D;have OP:=X.out _ Du))
 have g:=AF Q (r #[J R tg,J R H,J R O,J R G] 3);have uZ:=AC Q (r #[J R tg,J R H,J R O,J R G] 3);generalize Q.alloc (r #[J R tg,J R H,J R O,J R G] 3)=S at g uZ |-
 obtain⟨gi,a6⟩:=nm Q.heap.size;rw[<- a6] at uZ |-
 have ZI:w.heap.size<Q.heap.size:=AL F f.size;have b0:S.heap[w.heap.size]? =V (Cm L 156):=(g.block _ ZI).trans Du;have MW:gi<S.heap.size:=(Au.1 uZ).1;have Uj:∀ j,j<4->S.cell? ⟨gi,j,U⟩=V (J R (num L (2+j))):=fun j hj=>by
  have:=b2.out;rw[AD _ _ _ _ _ _ uZ];have h4:j=0\/j=1\/j=2\/j=3:=Aa;rcases h4 with rfl|rfl|rfl|rfl
  . rw[<- this.1];rfl
  . rw[<- this.2.1];rfl
  . rw[<- this.2.2.1];rfl
  . rw[<- this.2.2.2];rfl
 have MV:=fun k hk=>Ib b0 k hk
 rw[b5.out] at MV;have b3:=wN Uj;have b4:=wN MV;have a3:=wN ((a1.trans (f.mono a1.size)).trans (g.mono (Cy ZI)));have c0:w.heap.size<S.heap.size:=AL ZI g.size;have HM:=wN (o.bsl.below g);clear g uZ a6 b0 Uj MV o a5 K f Du OP ZI b9 a9 l Z N m a2 b8 D F a1 A B Ef kc;go_loopw [4,34] (fun u i wr=>∃ j:Nat,j<=4/\i=J R j/\Hid (BSl wr u (GT L (2+j)))/\Hid (z S.heap.size S wr)) (fun _ i _=>4-(intOf i).toNat)
 case atStart=>exact⟨0,Aa,rfl,HM,AP _ _⟩
 case round=>
  obtain⟨j,hj,rfl,d,a⟩:=hrel;clear HM;by_cases a7:j<4
  . have q:=O0 a4.out (2+j) Aa
    obtain⟨x,E⟩:=nm (num L (2+j));have MV:wr.cell? ⟨gi,j,U⟩=V (J R x):=(by rw[a.out.cell MW,E];exact b3.out j a7);rw[<- E] at q;have Y:=wN (ir (L:=L) (2+j) Aa Aa x E q);have ej:(j:Int)<4:=Aa;clear E;go_wp2_with (go_at_call 112;refine(Y.out _ _ d.out).mono ?_;rintro e w7 ⟨v7,rfl,p,a0⟩)
    go_roundw
    case rel=>exact⟨j+1,Aa,by go_num,p.bsl,a.out.trans (a0.mono a.out.size)⟩
    case measure=>simp[intOf];omega
  . obtain rfl:j=4:=by omega
    go_wp2;obtain⟨w8,b1⟩:=nm wr;rw[<- b1] at d a |-
    clear b1;go_loopw [4,45] (fun u i wr=>∃ j:Nat,j<=6/\i=J R j/\Hid (BSl wr u (GT L (6+j)))/\Hid (z S.heap.size S wr)) (fun _ i _=>6-(intOf i).toNat)
    case atStart=>exact⟨0,Aa,rfl,d,a⟩
    case round=>
     clear d a;obtain⟨j,hj,rfl,d,a⟩:=hrel;by_cases a7:j<6
     . have q:=O0 a4.out (6+j) Aa
       obtain⟨x,E⟩:=nm (num L (6+j));have MV:wr.cell? ⟨w.heap.size,6+j,U⟩=V (J R x):=(by rw[a.out.cell c0,E];exact b4.out (6+j) Aa);rw[<- E] at q;have Y:=wN (ir (L:=L) (6+j) Aa Aa x E q);have ej:(j:Int)<6:=Aa;clear E;go_wp2_with (go_at_call 112;refine(Y.out _ _ d.out).mono ?_;rintro e w7 ⟨v7,rfl,p,a0⟩)
       go_roundw
       case rel=>
        refine⟨_,_,_,_,_,_,_,_,_,_,_,_,_,?_,rfl⟩;exact⟨j+1,Aa,by go_num,p.bsl,a.out.trans (a0.mono a.out.size)⟩
       case measure=>simp[intOf];omega
     . obtain rfl:j=6:=by omega
       have b6:=wN (Sk d.out (by rw[EF];decide));go_wp2_with (go_at_call 114;refine b6.out.mono ?_;rintro e w9 ⟨v9,rfl,a8,b7⟩)
       go_ret2;have hB:=a3.out.trans (a.out.mono a3.out.size);exact⟨v9,rfl,a8.more hB.size,hB.trans (b7.mono hB.size)⟩
def oV{L:Ab}(k:L.length=12)(l:RP L)(w:I):AH Aq 75 #[Gp L] w (TA L w):=by
 have a:DU L=AN\/DU L=T:=by cases DU L <;> simp
 have f:∀ B,DU L=B->_:=fun B h=>dP k l B h
 have d:=AF w (Cm L 156);obtain⟨o,c⟩:=nm (w.alloc (Cm L 156));rw[<- c] at d
 match L,k with
 |[b,st,tg,cu,io,ba,t0,t1,t2,t3,t4,t5],_=>
  have j:w.alloc (r #[J R b,J R st,J R tg,J R cu,J R io,J R ba,J R t0,J R t1,J R t2,J R t3,J R t4,J R t5] 156)=o:=by rw[c];rfl
  have m:=wN j;show AH Aq 75 #[BS #[J R b,J R st,J R tg,J R cu,J R io,J R ba,J R t0,J R t1,J R t2,J R t3,J R t4,J R t5]] w (TA _ w)
  rcases a with a|a
  . refine AH.mono ?_ fun e i h=>A8 ⟨a,h⟩
    have n:Hid (∀ w,AH Aq 117 #[BS #[J R b,J R st,J R tg,J R cu,J R io,J R ba,J R t0,J R t1,J R t2,J R t3,J R t4,J R t5]] w fun e i=>e=Av (AY AN)/\z w.heap.size w i):=wN (f _ a);clear f a c j l;go_enter func75,ntmps75;go_wp2_with (first|(go_at_call 117;rw[m.out];refine Ad (n.out _) ?_;rintro p g))
    go_ret2;exact⟨rfl,d.trans (g.mono d.size)⟩
  . refine AH.mono ?_ fun e i h=>A4 ⟨a,h⟩
    exact ia b st tg cu io ba t0 t1 t2 t3 t4 t5 _ rfl a w (f _ a)
def YA(k:Nat):Ab:=(BE 6).map fun i=>if 43+i<k then ((43+i:Nat):Int) else 0
def GS(n:Int)(k:Nat):Ab:=[n,0,0,0,0,0] ++ YA k
def GL(n:Int)(k:Nat):(GS n k).length=12:=by simp[GS,YA]
def kf(n:Int){k t:Nat}(h:k=43+t)(d:t<6):(GS n k).set (6+t) (k:Int)=GS n (k+1):=by
 unfold GS;rw[List.set_append_right _ _ Ai];congr 1;apply Bt (by simp[YA]);intro i b c;simp only[YA,Eh,Cu,Co,BJ,List.length_nil];by_cases e:6+t-6=i
 . rw[AG Aa,AG Aa,h];omega
 . rw[AJ Aa]
   by_cases a:43+i<k
   . rw[AG a,AG Aa]
   . rw[AJ a,AJ Aa]
def cJ(n:Int){k:Nat}(h:k<43\/49<=k):GS n k=GS n (k+1):=by
 unfold GS YA;congr 1;apply Cr;intro i b;have:=Bq.1 b;by_cases a:43+i<k
 . rw[AG a,AG Aa]
 . rw[AJ a,AJ Aa]
def Wrote.none'(w:I)(b:Nat):Wrote w w b:=⟨rfl,rfl,rfl,rfl,fun _ _=>rfl⟩
def Wrote.on{a b c:I}{g:Nat}(h:Wrote a b g)(k:Wrote b c g):Wrote a c g:=⟨k.1.trans h.1,k.2.1.trans h.2.1,k.2.2.1.trans h.2.2.1,k.2.2.2.1.trans h.2.2.2.1,fun x d=>(k.2.2.2.2 x d).trans (h.2.2.2.2 x d)⟩
def ol(L:Ab):(L.map (J R)).toArray.all (·.oneCell')=T:=by
 rw[Array.all_eq_true'];intro v a;simp at a;obtain⟨x,_,rfl⟩:=a;rfl
def T9:(Aq.info? 156).map (·.size)=V 12:=Ac
def RM{kk:Nat}(m:1<=kk)(n:kk<=12)(w:I):AH Aq 66 #[J R (64*(kk:Int))] w fun e w'=>∃ b g cap M,e=Av (Ax (V ⟨b,0,U⟩))/\RSp w' M (Ax (V ⟨b,0,U⟩)) (64*(kk:Int)) (Gv kk)/\w'.cell? ⟨b,1,U⟩=V (Aw (V ⟨g,0,U⟩) (64*kk) cap)/\w.heap.size<=b/\w.heap.size<=g/\(∀ x,M x->w.heap.size<=x)/\b<w'.heap.size/\g<w'.heap.size/\64*kk<=cap/\
 (∀ j,j<64*kk->w'.cell? ⟨g,j*2,U⟩=V (J .u16 (F8 (64*kk) j).1)/\w'.cell? ⟨g,j*2+1,U⟩=V (J .u16 (F8 (64*kk) j).2))/\z w.heap.size w w':=by
 refine(b6 m n w).mono fun e w' ⟨p,M,he,c,a,o⟩=>?_
 have f:(Gv kk).length=64*kk:=CU _ _;have d:=c;obtain⟨b,v,rfl,_⟩:=d;obtain⟨g,cap,l,i,q,s,t,u,y,k,r⟩:=c.all (by rw[f];omega);refine⟨b,g,cap,M,he,c,by rw[AD _ _ _ _ _ _ i,f];rfl,a b ((k b).2 (A4 rfl)),a g ((k g).2 (A8 rfl)),a,(Au.1 i).1,(Au.1 q).1,Aa,fun j h=>?_,o⟩;have:=r j (by rw[f];exact h)
 rwa [show(Gv kk).getD j (0,0)=F8 (64*kk) j from FW _ _ _ h] at this
def bL{kk:Nat}(h1:1<=kk)(h2:kk<=12)(w:I):AH Aq 73 #[J R (64*(kk:Int))] w fun e w'=>e=Av (Gp (GS (64*(kk:Int)) (64*kk)))/\z w.heap.size w w':=by
 have KN:=wN (fun(W:I)=>RM h1 h2 W);go_enter func73,ntmps73;go_upto_region 2 with(fail)
 obtain⟨a,Q⟩:=nm w.heap.size;have d:=(AF w (Cm (AI 12 0) 156)).trans ((AF (w.alloc (Cm (AI 12 0) 156)) (Cm (GS (64*(kk:Int)) 0) 156)).mono (AF w (Cm (AI 12 0) 156)).size);have o:((w.alloc (Cm (AI 12 0) 156)).alloc (Cm (GS (64*(kk:Int)) 0) 156)).heap[w.heap.size]? =V (Cm (AI 12 0) 156):=BD (AC w _) (AF _ _);have c:((w.alloc (Cm (AI 12 0) 156)).alloc (Cm (GS (64*(kk:Int)) 0) 156)).heap[w.heap.size+1]? =V (Cm (GS (64*(kk:Int)) 0) 156):=by
  have:=AC (w.alloc (Cm (AI 12 0) 156)) (Cm (GS (64*(kk:Int)) 0) 156)
  simpa using this
 obtain⟨W1,p⟩:=nm ((w.alloc (Cm (AI 12 0) 156)).alloc (Cm (GS (64*(kk:Int)) 0) 156));rw[<- p] at d o c;rw[show(w.alloc (Obj.cells #[J R 0,J R 0,J R 0,J R 0,J R 0,J R 0,J R 0,J R 0,J R 0,J R 0,J R 0,J R 0] 156)).alloc (Obj.cells #[J R (64*(kk:Int)),J R 0,J R 0,J R 0,J R 0,J R 0,J R 0,J R 0,J R 0,J R 0,J R 0,J R 0] 156)=W1 from p.symm];rw[<- Q] at d o c |-
 have Ef:a+1<W1.heap.size:=(Au.1 c).1;obtain⟨L,O⟩:=nm (64*kk);have P:L<=768:=Aa;have a3:64<=L:=Aa;have HL:=wN O;have HA:=wN Q;rw[<- O] at KN;have s:=wN o;have u:=wN c;have q:=wN d;clear o c d p Q O;go_wp2_with (go_at_call 66;refine(KN.out _).mono ?_;rintro e C ⟨b,g,a4,M,rfl,hR,N,S,T,hM,X,MW,CD,A,f⟩)
 have v:Hid (C.heap[a]? =V (Cm (AI 12 0) 156)):=wN (BD s.out f);have h:Hid (C.heap[a+1]? =V (Cm (GS (64*(kk:Int)) 0) 156)):=wN (BD u.out f);have F:Hid (z a w C):=wN (q.out.trans (f.mono Aa));have H:=wN A;have a7:a+1<g:=Aa;clear hR N hM A f S T X s u q Ef;go_loopw [15] (fun i wr=>∃ k:Nat,k<=L/\i=J R k/\Hid (wr.heap[a+1]? =V (Cm (GS (64*(kk:Int)) k) 156))/\Hid (Wrote C wr (a+1))) (fun i _=>L-(intOf i).toNat)
 case atStart=>exact⟨0,Aa,rfl,h,wN (Wrote.none' _ _)⟩
 case round=>
  obtain⟨k,hk,rfl,m,n⟩:=hrel;clear h;by_cases Z:k<L
  . obtain⟨k0,k1⟩:=H.out k Z
    have a5:(k:Int)<(L:Int):=Aa;have c0:=(Bi (a:=⟨g,k*2,U⟩) (n.out.2.2.2.2 g Aa)).trans k0;have N:=(Bi (a:=⟨g,k*2+1,U⟩) (n.out.2.2.2.2 g Aa)).trans k1;by_cases E:43<=k/\k<49
    . obtain⟨t,ht⟩:∃ t:Nat,t=k-43:=⟨_,rfl⟩
      have u_:k=43+t:=Aa;have a0:t<6:=Aa;have a6:(t:Int)<6:=Aa;have eT:F8 L k=(65534,(t:Int)):=by
       unfold F8;rw[(MQ (j:=k)).2 E.1 E.2,AJ Af,AG Aa];congr 1;omega
      rw[eT] at c0 N;have l:=kf (64*(kk:Int)) u_ a0;have hf:=frozen_of_row wr (a+1) (6+t) _ _ m.out;have Jq:=Ib m.out (6+t) (by rw[GL];omega);have y:(wr.setCell ⟨a+1,6+t,U⟩ (J R k)).heap[a+1]? =_:=Bk wr (a+1) (6+t) _ _ _ m.out;have D:Hid ((wr.setCell ⟨a+1,6+t,U⟩ (J R k)).heap[a+1]? =V (Cm (GS (64*(kk:Int)) (k+1)) 156)):=wN (by
       rw[y,<- l];unfold Cm;rw[A5,List.map_set])
      have HY:Hid (Wrote C (wr.setCell ⟨a+1,6+t,U⟩ (J R k)) (a+1)):=wN (n.out.on (Wrote.setCell wr (a+1) (6+t) _));clear k0 k1 eT l y ht E u_;go_wp2;generalize wr.setCell ⟨a+1,6+t,U⟩ (J R k)=Y at D HY |-
      go_roundw
      case rel=>exact⟨k+1,Aa,by go_num,D,HY⟩
      case measure=>simp[intOf];omega
    . have B:(F8 L k).1≠65534:=by
       unfold F8;split
       . decide
       . rw[AJ Aa];decide
      have a2:((F8 L k).1==65534)=AN:=by simpa using B
      have D:Hid (wr.heap[a+1]? =V (Cm (GS (64*(kk:Int)) (k+1)) 156)):=wN (by rw[<- cJ _ (show k<43\/49<=k from Aa)];exact m.out);obtain⟨x,hx⟩:=nm ((F8 L k).1);rw[<- hx] at c0 a2;clear k0 k1 B E hx m;go_wp2;go_roundw
      case rel=>exact⟨k+1,Aa,by go_num,D,n⟩
      case measure=>simp[intOf];omega
  . obtain rfl:k=L:=by omega
    have hs:wr.heap[a+1]? =V (r ((GS (64*(kk:Int)) k).map (J R)).toArray 156 (0,0)):=m.out;have hb:z a w wr:=F.out.trans (n.out.below Aa);have o:wr.heap[a]? =V (r ((AI 12 (0:Int)).map (J R)).toArray 156 (0,0)):=(by rw[n.out.2.2.2.2 a Aa];exact v.out);have G:=wN hb;have K:Hid (k=64*kk):=HL;clear hb m n
    go_wp2_with (first|(with_reducible refine wpList_load_row rfl 156 (.tmp 3) rfl (a+1) rfl 156 _ (0,0) _ hs underlying156 rfl (by rw[T9];simp[GL]) ?_)|(with_reducible refine C8 rfl 156 (.tmp 2) (.tmp 33) rfl a ((GS (64*(kk:Int)) k).map (J R)).toArray rfl rfl 156 _ o (by rw[T9];simp[GL]) (by simp[GL]) (ol _) ?_))
    have a1:=Wrote.setRow wr a ((GS (64*(kk:Int)) k).map (J R)).toArray;have Du:(wr.setRow a ((GS (64*(kk:Int)) k).map (J R)).toArray).heap[a]? =_:=CJ _ _ _ _ _ _ o;refine A9 (results_cell_row rfl _ _ a 156 _ (0,0) _ rfl Du underlying156 rfl (by rw[T9];simp[GL])) rfl ⟨?_,?_⟩
    . rw[<- K.out];rfl
    . have:=G.out.trans (a1.below (AE _))
      rw[<- HA.out];exact this
end
section
open Go.RowKit BM
def qc{w:I}{v:AA}{l:Ab}(b:BSl w v l)(d:l.length<=1000)(x:Int)(a:0<=x)(c:x<=65535):AH Aq 112 #[v,J .u64 x,J R 2] w (J8 w (l ++ B8 x 2)):=
 Iw b Aa x 2 2 Aa Aa rfl a Aa
def cr{w:I}{v:AA}{L:List Bool}(G:KSl w v L)(g:Int)(h1:0<=g)(h2:g<12)(F:L.length=64):
 AH Aq 70 #[BS #[J R g,v]] w fun e w'=>∃ v,e=Av (AT #[v,J R 0])/\OB w' w.heap.size v (Gz g L)/\z w.heap.size w w':=by
 obtain⟨j,a,rfl⟩:=G.shape;rw[F] at G |-
 have h:z w.heap.size w ((w.alloc (r #[J R g,Aw j 64 a] 152)).alloc (r #[Aw j 64 a] 206)):=((AP _ _).alloc (AE _) _).alloc Ai _;have s:=heap_alloc2_old w (r #[J R g,Aw j 64 a] 152) (r #[Aw j 64 a] 206);have H:=heap_alloc2_new w (r #[J R g,Aw j 64 a] 152) (r #[Aw j 64 a] 206);obtain⟨f,t⟩:=nm ((w.alloc (r #[J R g,Aw j 64 a] 152)).alloc (r #[Aw j 64 a] 206));rw[<- t] at h s H;have Q:=wN t;have HK:=wN (G.below h);have aY:=Kv L;obtain⟨C,S⟩:=nm (Ec L);rw[<- S,F] at aY;have HC:=wN S;have E:=wN F;have k:w.heap.size+1<f.heap.size:=(Au.1 H).1;have c0:f.cell? ⟨w.heap.size,0,U⟩=V (J R g):=by rw[AD _ _ _ _ _ _ s];rfl
 have N:=wN (show f.cell? ⟨w.heap.size+1,0,U⟩=V (Aw j 64 a) by rw[AD _ _ _ _ _ _ H];rfl);have kc:=fun(w:I) (C:Array AA) (n c:Nat)=>E4 (P:=Aq) w 77 5 C n c underlying77 underlying5
 have g0:¬ g<0:=Aa;have g1:¬ 11<g:=Aa;clear G S F s H t;go_enter func70,ntmps70;go_upto_region 4 with(fail)
 rw[<- Q.out];obtain⟨q,D⟩:=nm (w.heap.size+1);rw[<- D] at N k |-
 have a1:w.heap.size<f.heap.size:=Aa;clear D;go_wp2_with fail
 have o:=WF f;have m:=AF f (r #[J .u8 100,J .u8 101,J .u8 115,J .u8 99] 5 (4,5));generalize f.alloc (r #[J .u8 100,J .u8 101,J .u8 115,J .u8 99] 5 (4,5))=w2 at o m |-
 have K:=wN (qc o Af g h1 Aa);clear o kc
 go_wp2_with (first
  |(go_at_call 112;(with_reducible refine K.out.mono ?_);rintro e w4 ⟨v4,rfl,x,T⟩
    have b:z f.heap.size f w4:=m.trans (T.mono m.size);have Z:=(b.cell (p:=⟨q,0,U⟩) k).trans N.out)
  |(go_at_call 113;refine(jk Z (HK.out.below b) (by rw[E.out];decide)).mono ?_;rw[<- HC.out];rintro e w5 ⟨rfl,rfl⟩
    have M:=wN (qc x.bsl (by rw[AO,Bp];decide) (C:Int) Aa Aa))
  |(go_at_call 112;(with_reducible refine M.out.mono ?_);rintro e w6 ⟨v6,rfl,y,W⟩
    have d:z f.heap.size f w6:=b.trans (W.mono b.size);have qs:=(d.cell (p:=⟨q,0,U⟩) k).trans N.out)
  |(go_at_call 115;refine(kM qs (AL k d.size) (HK.out.below d) (by rw[E.out];decide) (IC L) (Qu L)).mono ?_;rintro e w7 ⟨v7,rfl,a0,u⟩
    have l:z f.heap.size f w7:=d.trans (u.mono d.size))
  |(at_builtin
    refine B0 w7 rfl (.tmp 35) (.tmp 37) rfl f.heap.size _ ([100,101,115,99] ++ B8 g 2 ++ B8 (C:Int) 2) rfl ((y.below u).more b.size) w7 v7 (IC L) rfl a0 (fun _ _=>rfl) (by rw[ET,E.out];simp[Bp]) l.size ?_;intro v8 w8 A X _;have i:z f.heap.size f w8:=l.trans X;have O:Hid (AH Aq 114 #[v8] w8 (O5 (O7 g L) w8)):=wN (by rw[O7,<- HC.out];exact Sk A.bsl (by rw[AO,ET,E.out];simp[Bp])))|(go_at_call 114;refine O.out.mono ?_;rintro e w9 ⟨v9,rfl,B,Y⟩))
 go_ret2;exact⟨v9,rfl,B.more (AU h.size i.size),(h.trans (i.mono h.size)).trans (Y.mono (AU h.size i.size))⟩
end
section
open Go.RowKit
def iW(kd ln sz mp:Int)(D:Ab):Md kd ln sz mp D=T ↔ (1<=kd/\kd<=3)/\(0<=ln/\ln<=200)/\(0<=sz/\sz<=35328/\(kd=3->sz<=200))/\FN D=T/\Ub mp=T:=by
 unfold Md eu;simp only[A0,Bh];by_cases h:kd=3
 . rw[AG h]
   constructor
   . rintro⟨b,c,a,d,f⟩;exact⟨b,c,⟨a.1,Aa,fun _=>a.2⟩,d,f⟩
   . rintro⟨b,c,a,d,f⟩;exact⟨b,c,⟨a.1,a.2.2 h⟩,d,f⟩
 . rw[AJ h]
   constructor
   . rintro⟨b,c,a,d,f⟩;exact⟨b,c,⟨a.1,a.2,fun e=>absurd e h⟩,d,f⟩
   . rintro⟨b,c,a,d,f⟩;exact⟨b,c,⟨a.1,a.2.1⟩,d,f⟩
def Xp(kd ln sz a b c d f g i j k l mp:Int)(h:kd=0)(w:I):AH Aq 116 #[BS #[J R kd,J R ln,J R sz,J R a,J R b,J R c,J R d,J R f,J R g,J R i,J R j,J R k,J R l,J R mp]] w fun e w'=>e=Av (AY (decide ([kd,ln,sz,a,b,c,d,f,g,i,j,k,l,mp]=zeroI)))/\z w.heap.size w w':=by
 have p:=AF w (r #[J R kd,J R ln,J R sz,J R a,J R b,J R c,J R d,J R f,J R g,J R i,J R j,J R k,J R l,J R mp] 159);have o:=AC w (r #[J R kd,J R ln,J R sz,J R a,J R b,J R c,J R d,J R f,J R g,J R i,J R j,J R k,J R l,J R mp] 159);have n:(w.alloc (r #[J R kd,J R ln,J R sz,J R a,J R b,J R c,J R d,J R f,J R g,J R i,J R j,J R k,J R l,J R mp] 159)).rangeAt w.heap.size 0 (iC [kd,ln,sz,a,b,c,d,f,g,i,j,k,l,mp]):=Gf o;have m:=wN n;have u1:=underlying159;clear o n;have q:(kd==0)=T:=by simp[h]
 clear h;go_enter func116,ntmps116
 go_wp2_with (first|(with_reducible refine BG rfl 159 (.tmp 1) rfl w.heap.size 0 rfl [kd,ln,sz,a,b,c,d,f,g,i,j,k,l,mp] _ m.out u1 rfl rfl ?_)|(with_reducible refine Re rfl (.tmp 7) (.tmp 8) rfl [kd,ln,sz,a,b,c,d,f,g,i,j,k,l,mp] zeroI rfl rfl rfl rfl ?_))
 go_ret;exact⟨rfl,p⟩
def oR(kd ln sz f g m n o p q s t u mp:Int)(h0:kd≠0)(B:Bool)(hB:B=Md kd ln sz mp [f,g,m,n,o,p,q,s,t,u])(w:I):AH Aq 116 #[BS #[J R kd,J R ln,J R sz,J R f,J R g,J R m,J R n,J R o,J R p,J R q,J R s,J R t,J R u,J R mp]] w fun e w'=>e=Av (AY B)/\z w.heap.size w w':=by
 have G:=AF w (r #[J R kd,J R ln,J R sz,J R f,J R g,J R m,J R n,J R o,J R p,J R q,J R s,J R t,J R u,J R mp] 159);have hr:(w.alloc (r #[J R kd,J R ln,J R sz,J R f,J R g,J R m,J R n,J R o,J R p,J R q,J R s,J R t,J R u,J R mp] 159)).heap[w.heap.size]? =V (iO [kd,ln,sz,f,g,m,n,o,p,q,s,t,u,mp] 159):=AC w _;obtain⟨W1,K⟩:=nm (w.alloc (r #[J R kd,J R ln,J R sz,J R f,J R g,J R m,J R n,J R o,J R p,J R q,J R s,J R t,J R u,J R mp] 159));have L:z w.heap.size w W1:=by rw[K];exact G
 rw[<- K] at hr;have H2:=wN K.symm;have hk:(kd==0)=AN:=by simp[h0]
 have HD:Hid (∀ j,j<10->W1.cell? ⟨w.heap.size,3+j,U⟩=V (J R ([f,g,m,n,o,p,q,s,t,u].getD j 0))):=fun j hj=>by
  rw[Gd hr (3+j) Ak,show 3+j=j+3 from Aa];have:j=0\/j=1\/j=2\/j=3\/j=4\/j=5\/j=6\/j=7\/j=8\/j=9:=Aa;rcases this with rfl|rfl|rfl|rfl|rfl|rfl|rfl|rfl|rfl|rfl <;> rfl
 have a:=iW kd ln sz mp [f,g,m,n,o,p,q,s,t,u];rw[<- hB] at a;have Z:∀ {P:Prop},(B=T->P)->¬ P->B=AN:=fun h hn=>by
  cases hB:B
  . rfl
  . exact absurd (h hB) hn
 have c:Hid (¬ ((1<=kd/\kd<=3)/\(0<=ln/\ln<=200)/\(0<=sz/\sz<=35328/\(kd=3->sz<=200)))->B=AN):=fun hn=>Z (fun h=>⟨(a.1 h).1,(a.1 h).2.1,(a.1 h).2.2.1⟩) hn
 have C:Hid ((1<=kd/\kd<=3/\(0<=ln/\ln<=200)/\(0<=sz/\sz<=35328)/\(kd=3->sz<=200))->Ub mp=T->FN [f,g,m,n,o,p,q,s,t,u]=T->B=T):=fun N h2 h3=>a.2 ⟨⟨N.1,N.2.1⟩,N.2.2.1,⟨N.2.2.2.1.1,N.2.2.2.1.2,N.2.2.2.2⟩,h3,h2⟩
 obtain⟨Y,h4⟩:∃ b,Ub mp=b:=⟨_,rfl⟩;have H:Hid (Y=AN->B=AN):=fun h=>Z (fun hh=>(a.1 hh).2.2.2.2) (by rw[h4,h];decide)
 have S:Hid (∀ j,j<10->Ub ([f,g,m,n,o,p,q,s,t,u].getD j 0)=AN->B=AN):=fun j hj h=>Z (fun hh=>(a.1 hh).2.2.2.1) (by rw[aw (l:=[f,g,m,n,o,p,q,s,t,u]) (k:=j) (by simpa using hj) h];decide)
 rw[h4] at C;have E:=wN (Nz mp Y h4);clear a Z K hr hB h4;by_cases a1:0<=kd
 case neg=>
  obtain rfl:B=AN:=c.out Aa;go_enter func116,ntmps116;go_wp2_with (go_at_call 156;with_reducible refine Ad (E.out _) ?_;rintro w' rfl)
  go_ret;exact⟨rfl,G⟩
 by_cases a2:kd<=3
 case neg=>
  obtain rfl:B=AN:=c.out Aa;go_enter func116,ntmps116;go_wp2_with (go_at_call 156;with_reducible refine Ad (E.out _) ?_;rintro w' rfl)
  go_ret;exact⟨rfl,G⟩
 by_cases a3:0<=ln
 case neg=>
  obtain rfl:B=AN:=c.out Aa;go_enter func116,ntmps116;go_wp2_with (go_at_call 156;with_reducible refine Ad (E.out _) ?_;rintro w' rfl)
  go_ret;exact⟨rfl,G⟩
 by_cases a4:ln<=200
 case neg=>
  obtain rfl:B=AN:=c.out Aa;go_enter func116,ntmps116;go_wp2_with (go_at_call 156;with_reducible refine Ad (E.out _) ?_;rintro w' rfl)
  go_ret;exact⟨rfl,G⟩
 by_cases a5:0<=sz
 case neg=>
  obtain rfl:B=AN:=c.out Aa;go_enter func116,ntmps116;go_wp2_with (go_at_call 156;with_reducible refine Ad (E.out _) ?_;rintro w' rfl)
  go_ret;exact⟨rfl,G⟩
 by_cases a6:sz<=35328
 case neg=>
  obtain rfl:B=AN:=c.out Aa;go_enter func116,ntmps116;go_wp2_with (go_at_call 156;with_reducible refine Ad (E.out _) ?_;rintro w' rfl)
  go_ret;exact⟨rfl,G⟩
 by_cases h3:kd=3
 case pos=>
  subst h3;clear a1 a2 hk;by_cases a7:sz<=200
  case neg=>
   obtain rfl:B=AN:=c.out Aa;go_enter func116,ntmps116;go_wp2_with (go_at_call 156;with_reducible refine Ad (E.out _) ?_;rintro w' rfl)
   go_ret;exact⟨rfl,G⟩
  cases Y
  case false=>
   obtain rfl:B=AN:=H.out rfl;go_enter func116,ntmps116;go_wp2_with (go_at_call 156;with_reducible refine Ad (E.out _) ?_;rintro w' rfl)
   go_ret;exact⟨rfl,G⟩
  case true=>
   have d:=C.out ⟨Aa,Aa,Aa,Aa,Aa⟩ rfl;have D:=wN d;clear d C c H;go_enter func116,ntmps116;go_wp2_with (go_at_call 156;with_reducible refine Ad (E.out _) ?_;rintro w' rfl)
   rw[H2.out]
   go_loop [54] (fun i=>∃ j:Nat,j<=10/\i=J R j/\Hid (∀ i,i<j->Ub ([f,g,m,n,o,p,q,s,t,u].getD i 0)=T)) (fun i=>10-(intOf i).toNat)
   case atStart=>exact⟨0,Aa,rfl,fun i X=>absurd X (Bm _)⟩
   case round=>
    obtain⟨j,hj,rfl,Q⟩:=hrel;by_cases F:j<10
    . have MV:=HD.out j F
      have y:=S.out j F;obtain⟨x,M⟩:=nm ([f,g,m,n,o,p,q,s,t,u].getD j 0);rw[<- M] at MV y;have HX:=wN M;have ej:(j:Int)<10:=Aa;obtain⟨O,v⟩:∃ b,Ub x=b:=⟨_,rfl⟩;have W:=wN (Nz x O v);have A:=wN v;clear M v;cases O
      . obtain rfl:B=AN:=y A.out
        go_wp2_with (go_at_call 156;with_reducible refine Ad (W.out _) ?_;rintro w' rfl)
        go_ret;exact⟨rfl,L⟩
      . clear y
        go_wp2_with (go_at_call 156;with_reducible refine Ad (W.out _) ?_;rintro w' rfl)
        go_round
        case rel=>
         refine⟨j+1,Aa,by go_num,fun i X=>?_⟩;by_cases e:i=j
         . subst e;rw[<- HX.out];exact A.out
         . exact Q.out i Aa
        case measure=>simp[intOf];omega
    . obtain rfl:j=10:=by omega
      obtain rfl:B=T:=D.out ((E9 _).2 Q.out);go_wp2;go_ret;exact⟨rfl,L⟩
 case neg=>
  have a0:(kd==3)=AN:=by simp[h3]
  cases Y
  case false=>
   obtain rfl:B=AN:=H.out rfl;go_enter func116,ntmps116;go_wp2_with (go_at_call 156;with_reducible refine Ad (E.out _) ?_;rintro w' rfl)
   go_ret;exact⟨rfl,G⟩
  case true=>
   have d:=C.out ⟨Aa,Aa,Aa,Aa,Aa⟩ rfl;have D:=wN d;clear d C c H;go_enter func116,ntmps116;go_wp2_with (go_at_call 156;with_reducible refine Ad (E.out _) ?_;rintro w' rfl)
   rw[H2.out]
   go_loop [54] (fun i=>∃ j:Nat,j<=10/\i=J R j/\Hid (∀ i,i<j->Ub ([f,g,m,n,o,p,q,s,t,u].getD i 0)=T)) (fun i=>10-(intOf i).toNat)
   case atStart=>exact⟨0,Aa,rfl,fun i X=>absurd X (Bm _)⟩
   case round=>
    obtain⟨j,hj,rfl,Q⟩:=hrel;by_cases F:j<10
    . have MV:=HD.out j F
      have y:=S.out j F;obtain⟨x,M⟩:=nm ([f,g,m,n,o,p,q,s,t,u].getD j 0);rw[<- M] at MV y;have HX:=wN M;have ej:(j:Int)<10:=Aa;obtain⟨O,v⟩:∃ b,Ub x=b:=⟨_,rfl⟩;have W:=wN (Nz x O v);have A:=wN v;clear M v;cases O
      . obtain rfl:B=AN:=y A.out
        go_wp2_with (go_at_call 156;with_reducible refine Ad (W.out _) ?_;rintro w' rfl)
        go_ret;exact⟨rfl,L⟩
      . clear y
        go_wp2_with (go_at_call 156;with_reducible refine Ad (W.out _) ?_;rintro w' rfl)
        go_round
        case rel=>
         refine⟨j+1,Aa,by go_num,fun i X=>?_⟩;by_cases e:i=j
         . subst e;rw[<- HX.out];exact A.out
         . exact Q.out i Aa
        case measure=>simp[intOf];omega
    . obtain rfl:j=10:=by omega
      obtain rfl:B=T:=D.out ((E9 _).2 Q.out);go_wp2;go_ret;exact⟨rfl,L⟩
def jZ{L:Ab}(b:L.length=14)(w:I):AH Aq 116 #[BS (iC L).toArray] w fun e w'=>e=Av (AY (Ee L))/\z w.heap.size w w':=by
 match L,b with
 |[kd,ln,sz,d0,d1,d2,d3,d4,d5,d6,d7,d8,d9,mp],_=>
  show AH Aq 116 #[BS #[J R kd,J R ln,J R sz,J R d0,J R d1,J R d2,J R d3,J R d4,J R d5,J R d6,J R d7,J R d8,J R d9,J R mp]] w fun e w'=>e=Av (AY (if kd=0 then decide ([kd,ln,sz,d0,d1,d2,d3,d4,d5,d6,d7,d8,d9,mp]=zeroI) else Md kd ln sz mp [d0,d1,d2,d3,d4,d5,d6,d7,d8,d9]))/\z w.heap.size w w'
  by_cases a:kd=0
  . rw[AG a];exact Xp kd ln sz d0 d1 d2 d3 d4 d5 d6 d7 d8 d9 mp a w
  . rw[AJ a];exact oR kd ln sz d0 d1 d2 d3 d4 d5 d6 d7 d8 d9 mp a _ rfl w
def gY{L:Ab}(a:L.length=14)(B:Bool)(h:Ee L=B)(w:I):AH Aq 116 #[BS (iC L).toArray] w fun e w'=>e=Av (AY B)/\z w.heap.size w w':=by
 rw[<- h];exact jZ a w
def RO(w:I)(l:Ab)(c:Fv l)(C:Array AA)(a:C=(l.map (J .u8)).toArray)(n:Nat)(d:l.length=n):BSl (w.alloc (r C 5)) (Aw (V ⟨w.heap.size,0,U⟩) n n) l:=by
 subst a d;refine⟨c,A8 ⟨⟨w.heap.size,0,U⟩,l.length,rfl,AE _,fun j b=>⟨Ai,rfl,?_⟩⟩⟩;show(w.alloc _).cell? ⟨w.heap.size,0+j,U⟩=_
 rw[BC,AD _ _ _ _ _ _ (AC w _)];simp[b]
def aQ(n:Int)(h:0<=n/\n<=255):B8 n 1=[n]:=by
 rw[Hl,Hn,List.nil_append];simp only[Nat.mul_zero,Int.pow_zero,Int.ediv_one];rw[DV h.1 Aa]
def lg(x:Ab)(a:0<=x.getD 0 0/\x.getD 0 0<=255)(b:0<=x.getD 1 0/\x.getD 1 0<=255):Gl x 2=[x.getD 0 0,x.getD 1 0]:=by
 show([] ++ B8 (x.getD 0 0) 1) ++ B8 (x.getD 1 0) 1=_
 rw[aQ _ a,aQ _ b];rfl
def du{w w':I}{row:Option Nat}(h:w.grownBy w' row)(b:Nat)(hb:b<w.heap.size)(a:∀ k,row=V k->k≠b):w'.heap[b]? =w.heap[b]? :=
 h.block b hb (fun e=>a b e.symm rfl)
def rv:(Aq.info? 159).map (·.size)=V 14:=Ac
def gh{w:I}(a:Option Addr)(len cap:Nat)(h:len≠8):AH Aq 74 #[Aw a len cap] w fun e w'=>e=Av (AT #[Aw U 0 0,J R 1])/\w=w':=by
 have b:((len:Int) != 8)=T:=Ak;go_enter func74,ntmps74;go_wp2;go_ret2;exact⟨rfl,rfl⟩
def oH{w:I}{v:AA}{O:Ae}(hs:NSl w v O)(h8:O.length=8):AH Aq 74 #[v] w (Z0 O w):=by
 obtain⟨b,c6,e9,rfl,hb,hc⟩:=hs.at Aa;have c9:=wN hs.1;have d7:=wN (QF h8);have d5:=wN (fun k hk h=>aH (k:=k) h8 hk h);have H8:=wN h8;rw[h8] at hc |-
 have HC:=wN hc;clear hs hc h8;go_enter func74,ntmps74;go_wp2;go_loopw [4,13] (fun u i wr=>∃ k:Nat,k<=8/\i=J R k/\Hid (OB wr w.heap.size u (EP O k))/\Hid (∀ j,j<k->Ee (O.getD j [])=T)/\z w.heap.size w wr) (fun _ i _=>8-(intOf i).toNat)
 case atStart=>exact⟨0,Aa,rfl,⟨EX,Dt w _ _ _⟩,fun j hj=>absurd hj (Bm _),AP _ _⟩
 case round=>
  obtain⟨k,hk,rfl,a4,HK,f⟩:=hrel;by_cases a8:k<8
  . have NQ:=Nc (HC.out k a8) f hb
    have C3:=d5.out k a8;have n:=Hh c9.out k (by rw[H8.out];exact a8);have lJ:EP O (k+1)=EP O k ++ Mb (O.getD k []):=rfl;obtain⟨x,hx⟩:=nm (O.getD k []);rw[<- hx] at NQ lJ C3 n;have ek:(k:Int)<8:=Aa;have HX:=wN hx;have d6:=wN lJ;have HL:=wN (Fk O k);have d4:=wN C3;have b6:=wN NQ;have Q:Hid (zeroI.length=x.length):=wN n.symm;have c:=wN n;have a:Hid ((Aq.info? 159).map (·.size)=V x.length):=wN (by rw[rv,n]);have hz:(wr.alloc (r #[J R 0,J R 0,J R 0,J R 0,J R 0,J R 0,J R 0,J R 0,J R 0,J R 0,J R 0,J R 0,J R 0,J R 0] 159)).heap[wr.heap.size]? =V (iO zeroI 159):=AC wr _;have c3:=AF wr (r #[J R 0,J R 0,J R 0,J R 0,J R 0,J R 0,J R 0,J R 0,J R 0,J R 0,J R 0,J R 0,J R 0,J R 0] 159);have HZ:=wN hz;have a3:=wN c3;have u1:=underlying159;obtain⟨B,hf⟩:∃ B,Ee x=B:=⟨_,rfl⟩;have HF:=wN hf;have KF:=wN (gY n B hf);clear hx lJ C3 NQ n hz c3 hf;cases B
    . go_wp2_with (first
       |(with_reducible refine BG rfl 159 (.tmp 18) rfl b (c6+k*14) rfl x _ b6.out u1 rfl a.out ?_)
       |(with_reducible refine D8 rfl 159 (.tmp 6) (.tmp 19) rfl wr.heap.size rfl x zeroI rfl Q.out a.out _ HZ.out ?_
         intro w4 K p;have NT:=Gf p;have o:=a3.out.trans (K.below (AE _)))|(with_reducible refine BG rfl 159 (.tmp 6) rfl wr.heap.size 0 rfl x _ NT u1 rfl a.out ?_)|(go_at_call 116;refine Ad (KF.out _) ?_;rintro w5 s))
      go_ret2;exact A8 ⟨d4.out HF.out,rfl,(f.trans (o.mono f.size)).trans (s.mono (AU f.size o.size))⟩
    . have n0:=Hz c.out HF.out 0 Af
      have n1:=Hz c.out HF.out 1 Af;have n2:=Hz c.out HF.out 2 Af;have a9:=Hz c.out HF.out 13 Af;rw[show w7 0=1 from rfl,show(256:Int) ^ 1=256 from rfl] at n0;rw[show w7 1=1 from rfl,show(256:Int) ^ 1=256 from rfl] at n1;rw[show w7 2=4 from rfl,show(256:Int) ^ 4=4294967296 from rfl] at n2;rw[show w7 13=2 from rfl,show(256:Int) ^ 2=65536 from rfl] at a9;have bh:=lg x Aa Aa;have lL:Gl x 3=Gl x 2 ++ B8 (x.getD 2 0) 4:=rfl;have ZN:Gl x 14=Gl x 13 ++ B8 (x.getD 13 0) 2:=rfl;have HD:=wN (fun j (hj:j<10)=>Hz c.out HF.out (3+j) Aa);have m:=wN (fun(W:I) (h:W.heap[wr.heap.size]? =V (iO x 159)) j (hj:j<14)=>Gd h j (by rw[c.out];exact hj));obtain⟨a0,e0⟩:=nm (x.getD 0 0);obtain⟨a1,e1⟩:=nm (x.getD 1 0);obtain⟨a2,e2⟩:=nm (x.getD 2 0);obtain⟨d9,a6⟩:=nm (x.getD 13 0);rw[<- e0] at n0 bh;rw[<- e1] at n1 bh;rw[<- e2] at n2 lL;rw[<- a6] at a9 ZN;have E0:=wN e0;have E1:=wN e1;have E2:=wN e2;have c8:=wN a6;have d1:=wN bh;have d2:=wN lL;have b2:=wN ZN;have d0:Hid (Fv [a0,a1]):=wN (CV fun y hy=>by simp at hy;omega);obtain⟨f0,f1⟩:=n0;obtain⟨f2,f3⟩:=n1;obtain⟨e5,f4⟩:=n2;obtain⟨e6,f5⟩:=a9;clear e0 e1 e2 a6 bh lL ZN
      go_wp2_with (first
       |(with_reducible refine BG rfl 159 (.tmp 18) rfl b (c6+k*14) rfl x _ b6.out u1 rfl a.out ?_)
       |(with_reducible refine D8 rfl 159 (.tmp 6) (.tmp 19) rfl wr.heap.size rfl x zeroI rfl Q.out a.out _ HZ.out ?_
         intro w4 K p;have NT:=Gf p;have o:=a3.out.trans (K.below (AE _)))|(with_reducible refine BG rfl 159 (.tmp 6) rfl wr.heap.size 0 rfl x _ NT u1 rfl a.out ?_)
       |(go_at_call 116;refine Ad (KF.out _) ?_;rintro w5 s
         have Du:=(s.block _ (Au.1 p).1).trans p;have SA:wr.heap.size<w5.heap.size:=(Au.1 Du).1;have c0:=m.out _ Du 0 Af;have c1:=m.out _ Du 1 Af;rw[<- E0.out] at c0;rw[<- E1.out] at c1;have b3:=wN Du;have Z:=wN (o.trans (s.mono o.size));clear NT o s K p Du)
       |(at_builtin
         have d:=AF w5 (r #[J .u8 a0,J .u8 a1] 5);have lM:=RO w5 [a0,a1] d0.out #[J .u8 a0,J .u8 a1] rfl 2 rfl;generalize w5.alloc (r #[J .u8 a0,J .u8 a1] 5)=w6 at d lM |-
         have Y:=a4.out.2.lt;have E:=Z.out.trans (d.mono Z.out.size);refine B0 w6 rfl _ _ rfl w.heap.size _ (EP O k) rfl (a4.out.below E) w6 _ [a0,a1] rfl lM (fun _ _=>rfl) (by rw[HL.out];simp;omega) (AU f.size E.size) ?_;intro v7 e8 X b9 tj;have NS:=(du tj wr.heap.size (AL SA d.size) (fun k hk e=>by have:=Y k hk;omega)).trans ((d.block _ SA).trans b3.out);have c2:=m.out _ NS 2 Af;rw[<- E2.out] at c2;have va:wr.heap.size<e8.heap.size:=(Au.1 NS).1;have b4:=wN NS;have C:=wN ((f.trans (E.mono f.size)).trans b9);clear d lM Y E b9 tj NS c0 c1)|(go_at_call 112;refine(Iw X.bsl (by rw[AO,HL.out];simp;omega) a2 4 4 Aa Aa rfl e5 Aa).mono ?_;rintro e w8 ⟨v8,rfl,A,a7⟩))
      have gn:=(a7.block _ va).trans b4.out;have c4:wr.heap.size<w8.heap.size:=(Au.1 gn).1;have b7:z w.heap.size w w8:=C.out.trans (a7.mono C.out.size);have qu:(EP O k ++ [a0,a1]) ++ B8 a2 4=EP O k ++ Gl x 3:=(by rw[d2.out,d1.out,Bj]);rw[qu] at A;have P:=wN (A.more C.out.size);have b5:=wN gn;have b1:=wN b7;obtain⟨g,hg⟩:=nm wr.heap.size;rw[<- hg] at m b5 c4 |-
      have d8:Hid (Fv [0,0,0,0]):=wN (Db 4);clear gn b7 qu A a7 c2 X b4 C b3 Z HZ a3 SA va hg;have ve:z w8.heap.size w8 w8:=AP _ _;go_loopw [4,37] (fun u i wi=>∃ j:Nat,j<=10/\i=J R j/\Hid (OB wi w.heap.size u (EP O k ++ Gl x (3+j)))/\z w8.heap.size w8 wi) (fun _ i _=>10-(intOf i).toNat)
      case atStart=>exact⟨0,Aa,rfl,P,ve⟩
      case round=>
       obtain⟨j,hj,rfl,a5,F⟩:=hrel;clear P ve;have H:=(F.block _ c4).trans b5.out;have L:=b1.out.trans (F.mono b1.out.size);by_cases uS:j<10
       . have cj:=m.out _ H (3+j) Aa
         have nj:=HD.out j uS;have rX:Gl x (3+j+1)=Gl x (3+j) ++ B8 (x.getD (3+j) 0) (w7 (3+j)):=rfl;rw[NA,show(256:Int) ^ 2=65536 from rfl] at nj;rw[NA] at rX;have l:(EP O k ++ Gl x (3+j)).length<=140737488355300:=(by rw[AO,HL.out,EG,Xk];omega);obtain⟨y,hy⟩:=nm (x.getD (3+j) 0);rw[<- hy] at cj nj rX;obtain⟨e7,f6⟩:=nj;have d3:=wN rX;have D:=wN l;have q:=wN L;have ej:(j:Int)<10:=Aa;clear hy rX l H L;go_wp2_with (go_at_call 112;refine(Iw a5.out.bsl D.out y 2 2 Aa Aa rfl e7 Aa).mono ?_;rintro e w9 ⟨v9,rfl,c5,e4⟩)
         go_roundw
         case rel=>
          refine⟨j+1,Aa,by go_num,?_,F.trans (e4.mono F.size)⟩;show OB _ _ _ (EP O k ++ Gl x (3+j+1))
          rw[d3.out,<- Bj];exact c5.more q.out.size
         case measure=>simp[intOf];omega
       . obtain rfl:j=10:=by omega
         have e3:=m.out _ H 13 Af;rw[<- c8.out] at e3;have N:=a5;change Hid (OB _ _ _ (EP O k ++ Gl x 13)) at N;have l:(EP O k ++ Gl x 13).length<=140737488355300:=(by rw[AO,HL.out,EG];have:p7 13=26:=rfl;omega);have D:=wN l;have q:=wN L;clear l H L a5
         go_wp2_with (first
          |(go_at_call 112;refine(Iw N.out.bsl D.out d9 2 2 Aa Aa rfl e6 Aa).mono ?_;rintro e b0 ⟨f7,rfl,t,U⟩
            have M:=wN (q.out.trans (U.mono q.out.size));have G:=t.more q.out.size;clear U t)
          |(at_builtin
            have d:=AF b0 (r #[J .u8 0,J .u8 0,J .u8 0,J .u8 0] 5);have lM:=RO b0 [0,0,0,0] d8.out #[J .u8 0,J .u8 0,J .u8 0,J .u8 0] rfl 4 rfl;generalize b0.alloc (r #[J .u8 0,J .u8 0,J .u8 0,J .u8 0] 5)=c7 at d lM |-
            have S:=M.out.trans (d.mono M.out.size);refine B0 c7 rfl _ _ rfl w.heap.size _ _ rfl (G.below d) c7 _ [0,0,0,0] rfl lM (fun _ _=>rfl) (by rw[AO,Bp];have:=D.out;simp only[BJ,List.length_nil];omega) S.size ?_;intro f8 f9 vf b8 _))
         go_roundw
         case rel=>
          refine⟨k+1,Aa,by go_num,?_,fun j hj=>?_,S.trans b8⟩
          . show OB _ _ _ (EP O (k+1))
            rw[d6.out,Mb,b2.out,<- Bj,<- Bj];exact vf
          . by_cases e:j=k
            . subst e;rw[<- HX.out];exact HF.out
            . exact HK.out j Aa
         case measure=>simp[intOf];omega
  . obtain rfl:k=8:=by omega
    go_wp2;go_ret2;exact A4 ⟨d7.out HK.out,_,rfl,a4.out,f⟩
def cG{w:I}{v:AA}{O:Ae}(b:NSl w v O):AH Aq 74 #[v] w (Z0 O w):=by
 by_cases h:O.length=8
 . exact oH b h
 . obtain⟨c,a,rfl⟩:=b.shape
   refine(gh c _ a h).mono fun e f ⟨he,d⟩=>A8 ⟨?_,he,by rw[<- d];exact AP _ _⟩
   unfold G7;rw[AM h];rfl
def Sn{w:I}{v:AA}{O:Ae}(c:NSl w v O)(h:G7 O=T):AH Aq 74 #[v] w fun e w'=>∃ u,e=Av (AT #[u,J R 0])/\OB w' w.heap.size u (Gw O)/\z w.heap.size w w':=
 (cG c).mono fun e w' b=>b.elim (fun a=>a.2) fun a=>by rw[h] at a;cases a.1
def fg{w:I}{B g:Nat}(a:w.heap[g]? =V (r (AW 256 (J .u8 0)) 5 (0,0))):BElt w B (Aw (V ⟨g,0,U⟩) 256 256) zb:=by
 refine⟨Qi a,fun _=>⟨g,0,256,by rw[NI],(Au.1 a).1,A8 ⟨_,a⟩⟩⟩
def D3{f:Array BK}{rest:List BK}{op:BK}{a:Act}{w:I}{Q:Exit->Act->I->Prop}(m:op.guard=U)(x y:Operand)(s:op.op=.store 77 x y)
 (B g n cap k:Nat) (L:Ae) (l:Ab) (u:AA) (v:a.eval x=Ax (V ⟨g,k,U⟩)) (A:a.eval y=u) (b:BBR w B (Aw (V ⟨g,0,U⟩) n cap) L) (r:k<L.length) (hu:BElt w B u l)
 (h:∀ w',BBR w' B (Aw (V ⟨g,0,U⟩) n cap) (L.set k l)->z B w w'->Wrote w w' g->Cj Aq f Q rest (a.put op.dst undef) w'):Cj Aq f Q (op :: rest) a w:=by
 obtain⟨o,c,rfl,_⟩:=hu.1.shape;obtain⟨d,i,C,p⟩:=b.row;have E:=frozen_of_row w g k _ _ i;have D:w.cell? ⟨g,k,U⟩=V (d[k]'Aa):=by rw[AD _ _ _ _ _ _ i];simp[show k<d.size from Aa]
 have t:=b.set r hu;have j:=Wrote.setCell w g k (Aw o l.length c);refine CH m fun K q=>?_
 unfold BK.wp execOp;simp only[s,v,A]
 go_simp
 exact q _ _ (h _ t (j.below p) j)
def ZT{a w:I}{B:Nat}{u:AA}{l:Ab}(g:BSl a u l)(f:B<=a.heap.size)(h:l.length<=1000)(x:Int)(d:0<=x)(i:x<=65535)(hb:z a.heap.size a w):
 AH Aq 112 #[u,J .u64 x,J R 2] w fun e w'=>∃ v,e=Av v/\OB w' B v (l ++ B8 x 2)/\z a.heap.size a w':=
 (Iw (g.below hb) Aa x 2 2 Aa Aa rfl d Aa).mono fun e w' ⟨v,he,c,b⟩=>⟨v,he,c.more (AU f hb.size),hb.trans (b.mono hb.size)⟩
def Ze{w:I}{b off cap:Nat}{O:Ag}(L:O.length=64)(hB:OwB O)(hb:b<w.heap.size)
 (hc:∀ j,j<O.length->w.cell? ⟨b,off+j*2,U⟩=V (J .u16 (O.getD j (0,0)).1)/\w.cell? ⟨b,off+j*2+1,U⟩=V (J .u16 (O.getD j (0,0)).2))
 (l:Jk O 64=T):AH Aq 68 #[Aw (V ⟨b,off,U⟩) 64 cap] w fun e w'=>∃ v,e=Av (AT #[v,J R 0])/\OB w' w.heap.size v (DO O)/\z w.heap.size w w':=by
 have HC:=wN hc;have HO:=wN L;have s:=wN hB;have r:=wN ((MR O 64).1 l);have qh:DO O=Em O 64:=by unfold DO;rw[L]
 have G:=wN qh;clear hc L hB l qh;go_enter func68,ntmps68;go_wp2;go_loopw [4,11] (fun u i wr=>∃ k:Nat,k<=64/\i=J R k/\Hid (OB wr w.heap.size u (Em O k))/\z w.heap.size w wr) (fun _ i _=>64-(intOf i).toNat)
 case atStart=>exact⟨0,Aa,rfl,(⟨EX,Dt _ _ _ _⟩:OB _ _ _ []),AP _ _⟩
 case round=>
  obtain⟨k,hk,rfl,Z,c⟩:=hrel;by_cases o:k<64
  . have g:=HC.out k (by rw[HO.out];exact o)
    have a:=s.out k;have M:Ns O k=Gu (O.getD k (0,0)).1 (O.getD k (0,0)).2:=rfl;obtain⟨x,S⟩:=nm ((O.getD k (0,0)).1);obtain⟨y,X⟩:=nm ((O.getD k (0,0)).2);rw[<- S,<- X] at g a M;have H:=(c.cell (p:=⟨b,off+k*2,U⟩) hb).trans g.1;have K:=(c.cell (p:=⟨b,off+k*2+1,U⟩) hb).trans g.2;have ek:(k:Int)<64:=Aa;have F:=wN (J1 O k x y S X);have N:=Fh O k;have A:Hid ((Em O k).length<=1000):=wN Aa;have C:Hid ((Em O k ++ B8 x 2).length<=1000):=wN (by rw[AO,Bp];omega);clear S X g N;have Y:=r.out k o;rw[M] at Y;have HF:=wN Y;clear Y M;go_wp2_with (go_at_call 111;refine Ad (ND x y a.1 a.2 T HF.out _) ?_;rintro q m)
    have b0:b<wr.heap.size:=AL hb c.size;have b2:b<q.drew.heap.size:=AL b0 m.size;have f:z wr.heap.size wr q.drew:=m.drew;have d1:q.drew.cell? ⟨b,off+k*2,U⟩=V (J .u16 x):=(f.cell (p:=⟨b,off+k*2,U⟩) b0).trans H;have d2:q.drew.cell? ⟨b,off+k*2+1,U⟩=V (J .u16 y):=(f.cell (p:=⟨b,off+k*2+1,U⟩) b0).trans K;have t:=wN (fun W (h:z wr.heap.size wr W)=>(c.trans (h.mono c.size)));have HX:=wN (fun W (h:z wr.heap.size wr W)=>And.intro ((h.cell (p:=⟨b,off+k*2,U⟩) b0).trans H) ((h.cell (p:=⟨b,off+k*2+1,U⟩) b0).trans K));have D:=wN (fun W (h:z wr.heap.size wr W)=>ZT (B:=w.heap.size) Z.out.bsl c.size A.out x a.1.1 a.1.2 h);have sZ:IntKind.u64.wrap x=x:=u64_in x a.1.1 Aa;have a0:IntKind.u64.wrap y=y:=u64_in y a.2.1 Aa;clear H K m b2
    go_region_held3 (fun W=>W.cell? ⟨b,off+k*2,U⟩=V (J .u16 x)/\W.cell? ⟨b,off+k*2+1,U⟩=V (J .u16 y)) (first|exact⟨f1,f2⟩|exact⟨e1,e2⟩|exact⟨d1,d2⟩) (first
     |(go_at_call 112;(with_reducible refine(D.out _ f).mono ?_);rintro e w3 ⟨v3,rfl,P,d⟩
       obtain⟨e1,e2⟩:=HX.out _ d;have E:=wN (fun W (h:z w3.heap.size w3 W)=>ZT (B:=w.heap.size) P.bsl (AU c.size d.size) C.out y a.2.1 a.2.2 h))
     |(go_at_call 112;(with_reducible refine(E.out _ (AP _ _)).mono ?_);rintro e w4 ⟨v4,rfl,Q,n⟩
       obtain⟨f1,f2⟩:=HX.out _ (d.trans (n.mono d.size))))
    go_wp2_with fail
    go_roundw
    case rel=>exact⟨k+1,Aa,by go_num,by show OB _ _ _ (Em O (k+1));rw[F.out];exact Q,t.out _ (d.trans (n.mono d.size))⟩
    case measure=>simp[intOf];omega
  . obtain rfl:k=64:=by omega
    go_wp2;go_ret2;exact⟨_,rfl,by rw[G.out];exact Z.out,c⟩
def Zx{w:I}{v:AA}{O:Ag}(c:OwSl w v O)(h:FQ O=T):AH Aq 68 #[v] w fun e w'=>∃ v,e=Av (AT #[v,J R 0])/\OB w' w.heap.size v (DO O)/\z w.heap.size w w':=by
 have a:=I2 h;obtain⟨b,i,d,rfl,f,g⟩:=c.at Aa;rw[a];refine Ze a c.1 f g ?_;rw[FQ,a] at h
 simpa using h
structure P2 (G:Ae) (O:Ag) (kk g:Nat):Prop where
 len:G.length=64*kk
 ds:∀ h,h<g->G.getD (Cp h) []=Gz (h:Int) (CY (FI O h) 64)/\G.getD (Cp h+1) []=DO (FI O h)
 jr:∀ i,3<=i->i<43->G.getD i []=zb
def P2.zero(O:Ag){kk:Nat}(h:1<=kk):P2 (AI (64*kk) zb) O kk 0:=
 ⟨Bg,fun h a=>absurd a (Bm _),fun i b c=>by rw[Az,CA,AG Aa];rfl⟩
def P2.group{G:Ae}{O:Ag}{kk g:Nat}(h:P2 G O kk g)(j:g<kk):P2 ((G.set (Cp g) (Gz (g:Int) (CY (FI O g) 64))).set (Cp g+1) (DO (FI O g))) O kk (g+1):=by
 have l:=h.len;have k:=Jl j;have e:∀ m,((G.set (Cp g) (Gz (g:Int) (CY (FI O g) 64))).set (Cp g+1) (DO (FI O g))).getD m []=if m=Cp g+1 then DO (FI O g) else if m=Cp g then Gz (g:Int) (CY (FI O g) 64) else G.getD m []:=fun m=>by
  rw[BM.getD_set _ _ _ _ _ (by rw[AR];omega),BM.getD_set _ _ _ _ _ Aa]
 refine⟨by rw[AR,AR];exact l,fun x n=>?_,fun i d f=>?_⟩
 . by_cases he:x=g
   . subst he
     exact⟨by rw[e,AJ Aa,AG rfl],by rw[e,AG rfl]⟩
   . have c:=TQ he
     obtain⟨a,b⟩:=h.ds x Aa;exact⟨by rw[e,AJ c.2.2,AJ c.1];exact a,by rw[e,AJ Aa,AJ c.2.1];exact b⟩
 . rw[e,AJ (by unfold Cp;split <;> omega),AJ (by unfold Cp;split <;> omega)];exact h.jr i d f
def P2.other{G:Ae}{O:Ag}{kk g:Nat}(h:P2 G O kk g){i:Nat}(hi:i=0\/(43<=i/\i<64))(x:Ab):P2 (G.set i x) O kk g:=by
 have f:=h.len;have e:∀ m,m≠i->(G.set i x).getD m []=G.getD m []:=fun m k=>by rw[Az,BB (C0 k),<- Az]
 refine⟨by rw[AR];exact f,fun y l=>?_,fun j c d=>?_⟩
 . obtain⟨a,b⟩:=h.ds y l
   have c:Cp y≠i/\Cp y+1≠i:=by unfold Cp;split <;> omega
   exact⟨by rw[e _ c.1];exact a,by rw[e _ c.2];exact b⟩
 . rw[e _ Aa];exact h.jr j c d
def S8(w:I)(b off n cap l h:Nat)(m:l<=h)(o:h<=cap)(p:l<cap):
 (Instr.sliceAt 146 (Aw (V ⟨b,off,U⟩) n cap) (V (J R (l:Int))) (V (J R (h:Int))) U).run Aq w=.ok (Aw (V ⟨b,off+l*2,U⟩) (h-l) (cap-l)) w:=by
 obtain⟨i,d,j,f,k⟩:=Bs TG;have c:cap≠l:=Aa;have a:Aq.elem 146=200:=Ac;have g:(sizeOf 200).run Aq w=.ok 2 w:=by simp[sizeOf,typeInfo,d,f]
 rw[run_sliceAt_slice w 146 _ _ _ _ (by rw[a];exact underlying146),run_slice_lh w 146 _ n cap (by rw[a];exact underlying146) R R (l:Int) (h:Int) Aa Aa Aa,a,g];simp[sliced,c,Cd]
def Nw{w:I}{c:Array BK}{rest:List BK}{o:BK}{a:Act}{Q:Exit->Act->I->Prop}(g:o.guard=U)(x lo hi:Operand)(v:o.op=.slice 146 x (V lo) (V hi) U)
 (b off n cap:Nat) (y:a.eval x=Aw (V ⟨b,off,U⟩) n cap) (L H:Int) (t:a.eval lo=J R L) (s:a.eval hi=J R H) (l h m:Nat) (u:h-l=m) (r:L=l) (p:H=h) (i:l<=h) (j:h<=cap) (k:l<cap) (of:Nat) (f:off+l*2=of)
 (q:Cj Aq c Q rest (a.put o.dst (Aw (V ⟨b,of,U⟩) m (cap-l))) w):Cj Aq c Q (o :: rest) a w:=by
 subst r p u f;refine CH g fun K d=>?_
 unfold BK.wp execOp;simp only[v,y,t,s,Option.map_some,Option.map_none,S8 w b off n cap l h i j k,Dm,Sem.run_pure,Result.andThen_ok];exact d _ _ q
def mw:(Aq.info? 159).map (fun i=>(i.zero,i.size,i.bytes))=V (V (BS #[J R 0,J R 0,J R 0,J R 0,J R 0,J R 0,J R 0,J R 0,J R 0,J R 0,J R 0,J R 0,J R 0,J R 0]),14,112):=Ac
def IP(w:I){b:Array BK}{rest:List BK}{o:BK}{a:Act}{Q:Exit->Act->I->Prop}
 (t:o.guard=U) (l c:Operand) (g:o.op=Op.makeSlice 158 l c) (C:Int) (n:Nat) (u:a.eval l=J R C) (s:a.eval c=J R C) (p:C=n) (v:n<=1000000)
 (q:Cj Aq b Q rest (a.put o.dst (Aw (V ⟨w.heap.size,0,U⟩) n n)) (w.alloc (r (nC (AI n zeroI)).toArray 159))):
 Cj Aq b Q (o :: rest) a w:=by
 refine CH t fun K d=>?_
 obtain⟨i,h,j,k,m⟩:=Bs mw;subst p;have f:=run_make (P:=Aq) w 158 159 i (BS #[J R 0,J R 0,J R 0,J R 0,J R 0,J R 0,J R 0,J R 0,J R 0,J R 0,J R 0,J R 0,J R 0,J R 0]) underlying158 h j R R n n Aa Aa (by rw[m];omega) Aa;unfold BK.wp;simp only[Cf,k,Vj] at f;simp[execOp,g,u,s,f,Result.andThen];exact d _ _ q
def cD{w:I}{go:Nat}{kk g cap:Nat}(d:go<w.heap.size)(i:g<kk)(h:∀ j,j<64*kk->w.cell? ⟨go,j*2,U⟩=V (J .u16 (F8 (64*kk) j).1)/\w.cell? ⟨go,j*2+1,U⟩=V (J .u16 (F8 (64*kk) j).2)):
 OwSl w (Aw (V ⟨go,64*g*2,U⟩) 64 cap) (FI (Gv kk) g):=by
 have f:(FI (Gv kk) g).length=64:=FP (CU _ _) i;have e:∀ j,j<64->(FI (Gv kk) g).getD j (0,0)=F8 (64*kk) (64*g+j):=fun j c=>by
  rw[Kb _ _ c];exact FW _ _ _ Aa
 refine⟨JO fun j c=>?_,A8 ⟨⟨go,64*g*2,U⟩,cap,by rw[f],fun j c=>?_⟩⟩
 . rw[e j Aa];exact SL _ _
 . rw[f] at c
   obtain⟨a,b⟩:=h (64*g+j) Aa;refine⟨d,rfl,?_,?_⟩
   . rw[e j c]
     show w.cell? ⟨go,64*g*2+j*2,U⟩=_
     rw[show 64*g*2+j*2=(64*g+j)*2 from Aa];exact a
   . rw[e j c]
     show w.cell? ⟨go,64*g*2+j*2+1,U⟩=_
     rw[show 64*g*2+j*2+1=(64*g+j)*2+1 from Aa];exact b
def BB2.low{w w':I}{B E:Nat}{v:AA}{G:Ae}(h:BB2 w B E v G)(hb:z w.heap.size w w'):BB2 w' B E v G:=by
 obtain⟨i,d,f,a⟩:=h;exact⟨i,d,fun j c=>(f j c).below hb,Fo a fun g b=>hb.block g (BY a g b).2⟩
def BB2.shape0{w:I}{B E:Nat}{v:AA}{G:Ae}(h:BB2 w B E v G)(i:0<G.length):∃ g cap,v=Aw (V ⟨g,0,U⟩) G.length cap/\B<=g/\g<w.heap.size:=by
 obtain⟨l,j,k,d⟩:=h;rcases d.2 with⟨_,f⟩| ⟨g,cap,a,rfl,b,c,_⟩
 . omega
 . exact⟨g,cap,rfl,b,(Au.1 c).1⟩
end
end Go.Proofs.YtfpdajplfmakhaaGreatDoor
