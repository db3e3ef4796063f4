/- What the law rests on. -/
import Derived.Test.YtdefiimcmecnnaaGreatQC13
open Go.Value renaming int->G,bool->A1
open Go.IntKind renaming i64->R
open Go.Proofs.Tryz renaming prog->J
open Option renaming none->Af,some->Y
open Go.Ending renaming returned->Ag
open Go renaming World->K,Value->Q,Calls->AA
open List renaming getElem_cons_zero->Ao,getElem_cons_succ->Ap,range->Co
open Go.RowKit renaming Below->At
open Bool renaming false->AI,true->AL
open Or renaming inr->Ba
namespace Go.Proofs.YtdefiimcmecnnaaGreat
set_option maxHeartbeats 12000000
set_option linter.unusedVariables false
set_option maxRecDepth 100000
section
open Go.RowKit BM
section
variable {w0 w:K}{P:Nat->Prop}{d p:Q}{X:XSt}{S:List Int}{N:List (List Int)}{O:List (Int × Int)}{kk:Nat}{F:Nat->List Int}{bf:Nat}
theorem Fsd.low(h:Fsd w0 w P d p X S N O kk F bf){w':K}(hb:At w.heap.size w w'):Fsd w0 w' P d p X S N O kk F bf:=
 { h with inv:=h.inv.low hb,fs:=h.fs.low hb,be:=h.be.trans (hb.mono h.be.size) }
theorem Fsd.far(h:Fsd w0 w P d p X S N O kk F bf){M M':Nat->Prop}{w':K}(hc:Chg M M' w w')(hM:∀ x,M x->w0.heap.size<=x)(hP:∀ x,P x->¬ M x)(hf:¬ M bf):Fsd w0 w' P d p X S N O kk F bf:=
 { h with inv:=h.inv.keep hc.size fun x hx=>(hc.keep x (h.inv.lt x hx) (hP x hx)).1,fs:=((hc.keep bf (Al.1 h.fs).1 hf).1).trans h.fs,
          be:=h.be.trans (hc.below fun x hx=>⟨AH hx h.be.size,fun hm=>by have:=hM x hm;omega⟩) }
theorem Fsm.keep(h:Fsm w0 w P d p X S N O kk F bf){N2:List (List Int)}{O2:List (Int × Int)}{F2:Nat->List Int}(hm:Fmd w P d p X S N2 O2 kk F2 bf):
 AA J 18 #[p,A1 AL] w fun e w'=>e=Ag (G R 0)/\∃ P' X',Fsd w0 w' P' d p X' S N2 O2 kk F2 bf/\X'.is=X.call/\Chg P P' w w':=by
 refine(landed.endKeep h.inv h.wi).mono fun e w' he=>?_
 rcases he with⟨B,dt,ds',_,Mc,he,P',hi,hc⟩| ⟨hf,_⟩
 . obtain⟨hf,hn⟩:=h.fs.chg hc h.nb
   obtain⟨hb,hp⟩:=Jv h.be h.pN hc;exact⟨he,P',_,⟨hi,rfl,by show ds'.fu=AI;rw[Mc];exact h.fu,hm.pl,h.st,hf,hn,h.bN,hp,hb⟩,rfl,hc⟩
 . rw[h.fu] at hf;cases hf
theorem Fsm.undo(h:Fsm w0 w P d p X S N O kk F bf):AA J 18 #[p,A1 AI] w fun e w'=>e=Ag (G R 0)/\∃ P' X',Fsd w0 w' P' d p X' S N O kk F bf/\X'.is=X.is/\Chg P P' w w':=by
 refine(landed.endUndo h.inv h.wi).mono fun e w' ⟨he,P',hi,hc⟩=>?_
 obtain⟨hf,hn⟩:=h.fs.chg hc h.nb;obtain⟨hb,hp⟩:=Jv h.be h.pN hc;exact⟨he,P',_,⟨hi,rfl,h.fu,h.pl,h.st,hf,hn,h.bN,hp,hb⟩,rfl,hc⟩
theorem Fsd.rd(h:Fsd w0 w P d p X S N O kk F bf):Frd w P d p X S N O kk F bf:=by
 have hc:X.cur=X.is:=by unfold XSt.cur;rw[h.wi];rfl
 exact⟨h.inv,h.fs,by rw[hc];exact h.pl.tab,by rw[hc];exact h.pl.fi,h.pl.ok.k12,by rw[hc];exact h.pl.has.len⟩
end
section
variable {w0 w:K}{d p:Q}{kk bf n sz m sm:Nat}{M Mm:Nat->Option (List Int)}{P:Nat->Prop}
structure FarF (w0:K) (P:Nat->Prop) (bf:Nat) (Z:Nat->Prop):Prop where
 hi:∀ x,Z x->w0.heap.size<=x
 ap:∀ x,P x->¬ Z x
 nf:¬ Z bf
end
def EV(n:ByteArray):List BC->Nat
 |[]=>0
 |x :: l=>if JK x.2 n then EV n l+1 else 0
def JE(e:BC)(l:List BC):List BC:=l.take (EV e.2 l) ++ e :: l.drop (EV e.2 l)
def Hr:List BC->List BC->List BC
 |out,[]=>out
 |out,e :: l=>Hr (JE e out) l
def Jb(l:List BC):Prop:=l.Pairwise fun x y=>JK x.2 y.2
theorem LS(n:ByteArray):∀ (l:List BC) (i:Nat) (h:i<l.length),i<EV n l->JK (l[i]).2 n
 |[],i,h,_=>absurd h (A8 i)
 |x :: l,i,h,hp=>by
  unfold EV at hp;split at hp
  . next hx=>
    cases i with
    |zero=>exact hx
    |succ i=>exact LS n l i (by simpa using h) (by omega)
  . omega
theorem L3(n:ByteArray):∀ (l:List BC) (h:EV n l<l.length),¬ JK (l[EV n l]).2 n
 |[],h=>absurd h (A8 _)
 |x :: l,h=>by
  by_cases hx:JK x.2 n
  . have e:EV n (x :: l)=EV n l+1:=by show(if JK x.2 n then EV n l+1 else 0)=_;rw[AC hx]
    have h':EV n l<l.length:=by rw[e] at h;simpa using h
    have:=L3 n l h';simp only[e,Ap];exact this
  . have e:EV n (x :: l)=0:=by show(if JK x.2 n then EV n l+1 else 0)=_;rw[AE hx]
    simp only[e,Ao];exact hx
theorem Jw(e:BC)(l:List BC):(JE e l).Perm (e :: l):=by
 unfold JE;refine List.perm_middle.trans ?_;rw[Be]
theorem Ll{l:List BC}(h:Jb l){e:BC}(hn:∀ x∈l,x.2≠e.2):Jb (JE e l):=by
 have h1:∀ x∈l.take (EV e.2 l),JK x.2 e.2:=fun x hx=>by
  obtain⟨i,hi,rfl⟩:=BW hx;rw[AK] at hi;rw[C7];exact LS _ l i (by omega) (by omega)
 have h2:∀ x∈l.drop (EV e.2 l),JK e.2 x.2:=fun x hx=>by
  obtain⟨i,hi,rfl⟩:=BW hx;rw[AU] at hi;rw[List.getElem_drop];have hp:EV e.2 l<l.length:=by omega
  have h3:JK e.2 (l[EV e.2 l]).2:=(Rn (hn _ (Bf hp))).resolve_left (L3 e.2 l hp);by_cases c:i=0
  . subst c;exact h3
  . exact Ib h3 (Em.1 h _ _ hp (by omega) (by omega))
 unfold JE Jb;rw[List.pairwise_append];refine⟨h.sublist (List.take_sublist _ _),Cl.2 ⟨h2,h.sublist (List.drop_sublist _ _)⟩,fun x hx y hy=>?_⟩;rcases Cy.1 hy with rfl|hy
 . exact h1 x hx
 . exact Ib (h1 x hx) (h2 y hy)
theorem Gj:∀ (l out:List BC),(Hr out l).Perm (out ++ l)
 |[],out=>by rw[BB];exact List.Perm.refl _
 |e :: l,out=>by
  refine(Gj l (JE e out)).trans ?_;refine((Jw e out).append_right l).trans ?_;exact List.perm_middle.symm
theorem Fm:∀ (l out:List BC),Jb out->(out ++ l).Pairwise (fun x y=>x.2≠y.2)->Jb (Hr out l)
 |[],out,h,_=>h
 |e :: l,out,h,hn=>by
  refine Fm l (JE e out) (Ll h fun x hx=>?_) ?_
  . exact(List.pairwise_append.1 hn).2.2 x hx e B7
  . refine((Jw e out).append_right l).symm.pairwise ?_ fun h k=>h k.symm
    exact List.perm_middle.pairwise hn fun h k=>h k.symm
theorem Ni:∀ {l m:List BC},l.Perm m->Jb l->Jb m->l=m
 |[],m,hp,_,_=>(List.nil_perm.1 hp).symm ▸ rfl
 |x :: l,[],hp,_,_=>absurd hp.length_eq (by simp)
 |x :: l,y :: m,hp,hl,hm=>by
  have e:x=y:=by
   have hx:x∈y :: m:=hp.subset B7;have hy:y∈x :: l:=hp.symm.subset B7;rcases Cy.1 hx with e|hx
   . exact e
   . rcases Cy.1 hy with e|hy
     . exact e.symm
     . exact absurd ((Cl.1 hl).1 y hy) (L4 ((Cl.1 hm).1 x hx))
  subst e;rw[Ni (List.Perm.cons_inv hp) (Cl.1 hl).2 (Cl.1 hm).2]
theorem Ord.srt{l:List BC}(h:Ord l)(hn:l.Pairwise fun x y=>x.2≠y.2):Jb l:=
 (h.and hn).imp fun⟨a,b⟩=>(Rn b).resolve_right a
end
section
open Go.RowKit Go.ChangeShapes Go.WideShapes
theorem Ox:J.cellsOf 30=2:=by kernel_rfl
theorem LI:J.cellsOf 3=1:=by kernel_rfl
theorem Ot:J.cellsOf 9=1:=by kernel_rfl
section
variable {H:Type}{enc:TypeId × Q->H}{W:K}{base:Nat}{spare:Nat->Bool}{JJ:Bool}
theorem d_{a:Addr}{i m:Nat}{y:DataW H × List MemPlace}{cs:List Q}(hc:W.cells? base (a.add (i*2)) 2=Y cs)(ht:DataW.trod enc J W base spare JJ m 30 cs=Y y):
 ∃ t:Int × ByteArray,W.cell? (a.add (i*2))=Y (.int R t.1)/\W.cell? (a.add (i*2+1))=Y (.string t.2):=by
 obtain⟨xs,n,_,_,hlen,hxs,hf⟩:=DataW.trod_struct Tryz.underlying30 ht;obtain⟨_,hcl,Ha⟩:=K.cells?_some hc
 match cs,hcl with
 |[c0,c1],_=>
  match xs,hxs with
  |[y0,y1],_=>
   have g0:DataW.trod enc J W base spare JJ n 3 [c0]=Y y0:=by
    have h0:DataW.trod enc J W base spare JJ n 3 (List.take (J.cellsOf 3) (List.drop 0 [c0,c1]))=Y y0:=hf 0 _ rfl;rw[LI] at h0;exact h0
   have g1:DataW.trod enc J W base spare JJ n 9 [c1]=Y y1:=by
    have h0:DataW.trod enc J W base spare JJ n 9 (List.take (J.cellsOf 9) (List.drop 1 [c0,c1]))=Y y1:=hf 1 _ rfl;rw[Ot] at h0;exact h0
   obtain⟨k,e0,_,_⟩:=DataW.trod_int Tryz.underlying3 g0;obtain⟨b,e1,_,_⟩:=DataW.trod_string Tryz.underlying9 g1;simp only[List.cons.injEq,and_true] at e0 e1;have a0:=Ha 0 (by omega);have a1:=Ha 1 (by omega);simp only[Go.Deep.add_add,List.getElem?_cons_zero,List.getElem?_cons_succ,e0,e1,Nat.add_zero] at a0 a1;exact⟨(k,b),a0,a1⟩
theorem esl_of{v:Q}{d:DataW H}{p:List MemPlace}{r:Reach}{b0:Nat}(hv:Q.okWide J W r b0 28 v)(h:DataW.Trod enc J W base spare JJ 28 v d p):∃ O,ESl W v O:=by
 obtain⟨a0,len0,cap0,rfl⟩:=okWide_slice Tryz.underlying28 hv;obtain⟨fuel,hf⟩:=h;rcases Go.Deep.open_slice Tryz.underlying28 hf with⟨Hb,_⟩| ⟨a,len,cap,m,n,D,Pl,Hb,_,hl,hm,hmm,_,hi⟩
 . simp[Q.cells] at Hb
   obtain⟨rfl,rfl,rfl⟩:=Hb;exact⟨[],UH _⟩
 . simp[Q.cells] at Hb
   obtain⟨rfl,rfl,rfl⟩:=Hb;have hlm:len0<=m:=by rw[hmm];split <;> omega
   have hex:∀ i,i<len0->∃ t:Int × ByteArray,W.cell? (a.add (i*2))=Y (.int R t.1)/\W.cell? (a.add (i*2+1))=Y (.string t.2):=fun i Hc=>by
    obtain⟨cs',hc,ht⟩:=hi i (by omega);rw[Ox] at hc;exact d_ hc ht
   obtain⟨f,hfn⟩:=Go.Deep.choose_lt hex;have lW:∀ i,i<len0->((Co len0).map f).getD i default=f i:=fun i Hc=>by
    simp[Hc]
   refine⟨(Co len0).map f,Ba ⟨a,cap0,by simp,fun i Hc=>?_⟩⟩;have Hc:i<len0:=by simpa using Hc
   obtain⟨c0,c1⟩:=hfn i Hc;obtain⟨b,off,spot⟩:=a;have XD:spot=Af:=by
    obtain⟨z0,_⟩:=hfn 0 (by omega)
    simpa [Addr.add] using K.cell?_spot z0
   subst XD;simp only[Cb] at c0 c1;rw[lW i Hc];exact⟨by have:=block_lt_of_cell c0;exact this,rfl,c0,by rw[D6];exact c1⟩
end
end
end Go.Proofs.YtdefiimcmecnnaaGreat
