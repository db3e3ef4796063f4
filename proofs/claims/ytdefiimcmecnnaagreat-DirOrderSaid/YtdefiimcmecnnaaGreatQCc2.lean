/- What the law rests on. -/
import Derived.Test.YtdefiimcmecnnaaGreatQC14
import Derived.Test.YtdefiimcmecnnaaGreatQCc1
open Go.Value renaming int->H,slice->E,pointer->G,tuple->B,bool->A1,agg->BD
open Go.IntKind renaming i64->K
open Go.Proofs.Tryz renaming prog->T
open Option renaming none->J,some->Y
open Go.Ending renaming returned->D
open Go renaming World->R,Value->z,Calls->U
open Go.Obj renaming cells->L
open Go.RowKit renaming Below->I
open Bool renaming false->o,true->C
open Or renaming inl->AN,inr->Ba
open List renaming nil_append->B0
namespace Go.Proofs.YtdefiimcmecnnaaGreat
set_option maxHeartbeats 12000000
set_option linter.unusedVariables false
set_option maxRecDepth 100000
open Go.RowKit BM
theorem Qf(l:List BC)(s:ByteArray):C4 l s<=l.length:=List.findIdx_le_length
theorem Ls{l:List BC}{s:ByteArray}(h:C4 l s<l.length):(l[C4 l s]).2=s:=eqS_iff.1 (List.findIdx_getElem (w:=h))
section
variable {w:R}{P:Nat->Prop}{d p:z}{X:XSt}{S:List Int}{N:List (List Int)}{O:List (Int × Int)}{kk:Nat}{F:Nat->List Int}{bf n sz:Nat}{M:Nat->Option (List Int)}{Q:List Int}{l:List BC}
theorem My(h:Frd w P d p X S N O kk F bf)(ft:Fat X.cur N F n sz M)(hk:Ca N n=2)(h1:1<=n)(Bu:n<48)(hd:DirF sz M l):
 U T 21 #[G (Y ⟨bf,0,J⟩),H K n] w fun e w'=>∃ v Z,e=D (B #[v,H K 0])/\Z.Perm l/\Ord Z/\ESl w' v Z/\I w.heap.size w w':=by
 have hlen:=hd.len ft.sb;have KR:=vJ (GJ h ft hk h1 Bu hd);have KS:Hid (∀ (V:R) (v:z),I w.heap.size w V->ER V w.heap.size 38 v l->U T 43 #[v,Fy] V fun e w'=>e=D (B #[])/\∃ Z,Z.Perm l/\Ord Z/\ESl w' v Z/\I w.heap.size w w'):=vJ fun V v hV hv=>by
  refine(RJ hv (by omega)).mono ?_;rintro e w' ⟨he,Z,z1,z2,z3,z4⟩;have:=hV.size;exact⟨he,Z,z1,z2,z3,hV.trans (z4.mono (by omega))⟩
 clear h ft hk h1 Bu hd hlen;go_enter Tryz.func21,Tryz.ntmps21
 go_wp2_with (first
  |(go_at_call 30;(with_reducible refine KR.out.mono ?_);rintro e w2 ⟨v,rfl,hv,hb2⟩;obtain⟨ao,cap,rfl⟩:=hv.sl.shape;have KS2:=vJ (KS.out _ _ hb2 hv);clear hv hb2)
  |(go_at_call 43;(with_reducible refine KS2.out.mono ?_);rintro e w3 ⟨rfl,Z,z1,z2,z3,z4⟩))
 go_ret2;exact⟨_,Z,rfl,z1,z2,z3,z4⟩
end
theorem Zy{a b:ByteArray}(h:JK a b):Op.bytesLess a.toList b.toList=C:=by
 rw[bytesLess_eq,Lib.toList_data,Lib.toList_data];exact AF h
section
variable {w0 w:R}{d p:z}{kk bf:Nat}{l:List BC}{P:Nat->Prop}
theorem RestD.low(h:RestD w0 d p kk bf l P w){w':R}(hb:I w.heap.size w w'):RestD w0 d p kk bf l P w':=by
 obtain⟨X,N,O,F,sz,M,a,r⟩:=h;exact⟨X,N,O,F,sz,M,a.low hb,r⟩
theorem RestD.far(h:RestD w0 d p kk bf l P w){Z Z':Nat->Prop}{w':R}(hc:Chg Z Z' w w')(hf:FarF w0 P bf Z):RestD w0 d p kk bf l P w':=by
 obtain⟨X,N,O,F,sz,M,a,r⟩:=h;exact⟨X,N,O,F,sz,M,a.far hc hf.hi hf.ap hf.nf,r⟩
theorem RestD.be(h:RestD w0 d p kk bf l P w):I w0.heap.size w0 w:=by
 obtain⟨X,N,O,F,sz,M,a,_⟩:=h;exact a.be
theorem RestD.rd(h:RestD w0 d p kk bf l P w):RdD d p kk bf l P w:=by
 obtain⟨X,N,O,F,sz,M,a,c,e,f,r⟩:=h;exact⟨_,N,O,F,sz,M,a.rd,by unfold XSt.cur;rw[a.wi];exact c,e,f⟩
theorem MidD.keep(h:MidD w0 d p kk bf l P w):U T 18 #[p,A1 C] w fun e w'=>e=D (H K 0)/\∃ P',RestD w0 d p kk bf l P' w'/\Chg P P' w w':=by
 obtain⟨X,N,O,F,N2,O2,F2,sz,M,a,b,c,r⟩:=h;exact(a.keep b).mono fun e w' ⟨he,P',X',hd,hx,hc⟩=>⟨he,P',⟨X',N2,O2,F2,sz,M,hd,by rw[hx];exact c,r⟩,hc⟩
theorem AbD.undo(h:AbD w0 d p kk bf l P w):U T 18 #[p,A1 o] w fun e w'=>e=D (H K 0)/\∃ P',RestD w0 d p kk bf l P' w'/\Chg P P' w w':=by
 obtain⟨X,N,O,F,sz,M,a,c,r⟩:=h;exact a.undo.mono fun e w' ⟨he,P',X',hd,hx,hc⟩=>⟨he,P',⟨X',N,O,F,sz,M,hd,by rw[hx];exact c,r⟩,hc⟩
theorem CallD.fin{er:Int}(h:CallD w0 d p kk bf er l P w){b:Bool}(hb:b=decide (er=0)):U T 18 #[p,A1 b] w fun e w'=>e=D (H K 0)/\∃ P',RestD w0 d p kk bf l P' w'/\Chg P P' w w':=by
 by_cases h0:er=0
 . rw[hb,AF h0];exact(h.1 h0).keep
 . rw[hb,AG h0];exact(h.2.1 h0).undo
theorem RdD.list(h:RdD d p kk bf l P w):U T 21 #[G (Y ⟨bf,0,J⟩),H K 1] w fun e w'=>∃ v Z,e=D (B #[v,H K 0])/\Z.Perm l/\Ord Z/\ESl w' v Z/\I w.heap.size w w':=by
 obtain⟨X,N,O,F,sz,M,a,b,c,e⟩:=h;exact My a b c (n:=1) (by decide) (by decide) e.f
end
def Dst(l:List BC):Prop:=l.Pairwise fun x y=>x.2≠y.2
theorem Dst.addL{l:List BC}(h:Dst l)(x:BC):Dst (addL l x):=by
 unfold Go.Proofs.YtdefiimcmecnnaaGreat.addL;split
 . next hc=>
   unfold Dst;rw[List.pairwise_append];refine⟨h,List.pairwise_singleton _ _,fun a ha b hb=>?_⟩;rw[Et.1 hb];have:=Qf l x.2;exact idxN_none.1 (by omega) a ha
 . exact h
theorem Dst.ord{l Z:List BC}(h:Dst l)(hp:Z.Perm l)(ho:Ord Z):Z=Hr [] l:=by
 have hd:Dst Z:=hp.symm.pairwise h fun h k=>h k.symm
 exact Ni (hp.trans (Gj l []).symm) (ho.srt hd) (Fm l [] List.Pairwise.nil h)
structure ClD (w0:R) (bf:Nat) (p:z) (Φ:(Nat->Prop)->R->Prop):Prop where
 far:∀ {P w w' Z Z'},Φ P w->Chg Z Z' w w'->FarF w0 P bf Z->Φ P w'
 lt:∀ {P w},Φ P w->∀ x,P x->w0.heap.size<=x/\x<w.heap.size
 be:∀ {P w},Φ P w->I w0.heap.size w0 w
 fs:∀ {P w},Φ P w->FsAt w bf p/\¬ P bf/\w0.heap.size<=bf
section
variable (w0:R) (d p:z) (kk bf:Nat) (l:List BC)
theorem G5:ClD w0 bf p (RestD w0 d p kk bf l):=
 ⟨fun h hc hf=>h.far hc hf,fun⟨X,N,O,F,sz,M,a,_⟩ x hx=>⟨a.pN x hx,a.inv.lt x hx⟩,fun⟨X,N,O,F,sz,M,a,_⟩=>a.be,fun⟨X,N,O,F,sz,M,a,_⟩=>⟨a.fs,a.nb,a.bN⟩⟩
end
def UI(s:ByteArray):BC:=(1+(s.size:Int)%47,s)
theorem bT(s:ByteArray):C3 (UI s)=Er s:=by
 have h1:decide (1<=(UI s).1)=C:=AF (by show 1<=1+(s.size:Int)%47;omega);have h2:decide ((UI s).1<48)=C:=AF (by show 1+(s.size:Int)%47<48;omega);unfold C3;rw[h1,h2];rfl
def FT(F:Nat->ByteArray):Nat->List BC
 |0=>[]
 |i+1=>addL (FT F i) (UI (F i))
theorem NA(F:Nat->ByteArray):∀ i,Dst (FT F i)
 |0=>List.Pairwise.nil
 |i+1=>(NA F i).addL _
theorem Qh(F:Nat->ByteArray):∀ i,(FT F i).length<=i
 |0=>AB 0
 |i+1=>by
  have:=Qh F i;unfold FT addL;split
  . rw[Ax,List.length_singleton];omega
  . omega
theorem idxN_lt{l:List BC}{s:ByteArray}:C4 l s<l.length ↔ ∃ e∈l,e.2=s:=by
 have h1:=Qf l s;constructor
 . intro h
   exact⟨_,Bf h,Ls h⟩
 . rintro⟨e,he,hs⟩
   apply Nat.lt_of_le_of_ne h1;intro h;exact idxN_none.1 h e he hs
theorem N5(F:Nat->ByteArray):∀ (i:Nat) (e:BC),e∈FT F i ↔ ∃ j,j<i/\Er (F j)=C/\e=UI (F j)
 |0,e=>⟨fun h=>(by cases h),fun⟨j,h,_⟩=>absurd h (A8 j)⟩
 |i+1,e=>by
  have ih:=N5 F i;unfold FT addL;split
  . next hc=>
    rw[bT] at hc;rw[C0,Et,ih];constructor
    . rintro(⟨j,h1,h2⟩|h)
      . exact⟨j,by omega,h2⟩
      . exact⟨i,by omega,hc.1,h⟩
    . rintro⟨j,h1,h2,h3⟩
      rcases Nat.lt_or_eq_of_le (Nat.le_of_lt_succ h1) with h4|h4
      . exact AN ⟨j,h4,h2,h3⟩
      . subst h4;exact Ba h3
  . next hc=>
    rw[ih];constructor
    . rintro⟨j,h1,h2⟩
      exact⟨j,by omega,h2⟩
    . rintro⟨j,h1,h2,h3⟩
      rcases Nat.lt_or_eq_of_le (Nat.le_of_lt_succ h1) with h4|h4
      . exact⟨j,h4,h2,h3⟩
      . subst h4
        have hx:C4 (FT F j) (UI (F j)).2<(FT F j).length:=by
         by_cases hx:C4 (FT F j) (UI (F j)).2<(FT F j).length
         . exact hx
         . exact absurd ⟨by rw[bT];exact h2,hx⟩ hc
        obtain⟨y,y1,y2⟩:=idxN_lt.1 hx;obtain⟨k,k1,k2,k3⟩:=(ih y).1 y1;have:F k=F j:=(by rw[k3] at y2;exact y2);exact⟨k,k1,k2,by rw[h3,this]⟩
theorem bX(F:Nat->ByteArray)(i:Nat):(C4 (FT F (i+1)) (F i)<(FT F (i+1)).length ↔ Er (F i)=C)/\(Er (F i)=C->K5 (FT F (i+1)) (F i)=1+((F i).size:Int)%47):=by
 have h:C4 (FT F (i+1)) (F i)<(FT F (i+1)).length ↔ Er (F i)=C:=by
  rw[idxN_lt];constructor
  . rintro⟨e,he,hs⟩
    obtain⟨j,_,j2,j3⟩:=(N5 F _ e).1 he;rw[<- hs,j3];exact j2
  . intro hn
    exact⟨UI (F i),(N5 F _ _).2 ⟨i,by omega,hn,rfl⟩,rfl⟩
 refine⟨h,fun hn=>?_⟩;have hx:=h.2 hn;unfold K5;rw[AC hx,EY _ hx];obtain⟨j,_,_,j3⟩:=(N5 F _ _).1 (Bf hx);have h2:=Ls hx;rw[j3] at h2 |-
 have:F j=F i:=h2;rw[this];rfl
theorem bn:∀ {l m:List BC},(∀ e,e∈l ↔ e∈m)->Jb l->Jb m->l=m
 |[],[],_,_,_=>rfl
 |[],y :: m,h,_,_=>absurd ((h y).2 B7) (by simp)
 |x :: l,[],h,_,_=>absurd ((h x).1 B7) (by simp)
 |x :: l,y :: m,h,hl,hm=>by
  have a1:=(Cl.1 hl).1;have a2:=(Cl.1 hm).1;have e:x=y:=by
   rcases Cy.1 ((h x).1 B7) with e|hx
   . exact e
   . rcases Cy.1 ((h y).2 B7) with e|hy
     . exact e.symm
     . exact absurd (a1 y hy) (L4 (a2 x hx))
  subst e;rw[bn (fun e=>?_) (Cl.1 hl).2 (Cl.1 hm).2];constructor
  . intro he
    rcases Cy.1 ((h e).1 (CC _ he)) with e1|e1
    . subst e1;exact absurd (a1 _ he) (JV _)
    . exact e1
  . intro he
    rcases Cy.1 ((h e).2 (CC _ he)) with e1|e1
    . subst e1;exact absurd (a2 _ he) (JV _)
    . exact e1
theorem kL{n:Nat}(hn:0<n)(t i:Nat)(hi:i<n):∃ j,j<n/\(j+t)%n=i:=by
 have hr:t%n<n:=Gl _ hn;by_cases c:t%n<=i
 . refine⟨i-t%n,by omega,?_⟩
   rw[Nat.add_mod,C5 (show i-t%n<n by omega),show i-t%n+t%n=i by omega,C5 hi]
 . refine⟨i+n-t%n,by omega,?_⟩
   rw[Nat.add_mod,C5 (show i+n-t%n<n by omega),show i+n-t%n+t%n=i+n by omega,Nat.add_mod_right,C5 hi]
def DZ(l:List BC)(t j:Nat):ByteArray:=(l.getD ((j+t)%l.length) default).2
theorem VP(l:List BC)(t u:Nat):Hr [] (FT (DZ l t) l.length)=Hr [] (FT (DZ l u) l.length):=by
 have hs:∀ v,Jb (Hr [] (FT (DZ l v) l.length)):=fun v=>Fm _ [] List.Pairwise.nil (NA _ _)
 have hm:∀ v e,e∈Hr [] (FT (DZ l v) l.length) ↔ ∃ i,i<l.length/\Er (l.getD i default).2=C/\e=UI (l.getD i default).2:=fun v e=>by
  rw[(Gj _ []).mem_iff,B0,N5];constructor
  . rintro⟨j,h1,h2⟩
    exact⟨(j+v)%l.length,Gl _ (by omega),h2⟩
  . rintro⟨i,h1,h2⟩
    obtain⟨j,j1,j2⟩:=kL (by omega) v i h1;refine⟨j,j1,?_⟩;unfold DZ;rw[j2];exact h2
 exact bn (fun e=>(hm t e).trans (hm u e).symm) (hs t) (hs u)
def OrI(w:R)(g:Nat)(Z:List BC)(k:Nat)(wr:R):Prop:=
 I w.heap.size w wr/\w.heap.size<=g/\∃ x0 m0 c0 x1 m1 c1,wr.heap[g]? =Y (L #[E x0 m0 c0,E x1 m1 c1] 58 (0,0))/\(0<k->ESl wr (E x0 m0 c0) Z)/\(1<k->ESl wr (E x1 m1 c1) Z)
theorem UK{W:R}{v u:z}{Z:List BC}{g k:Nat}{x0 x1:Option Addr}{m0 c0 m1 c1:Nat}(h:ESl W v Z)(hg:W.heap[g]? =Y (L #[E x0 m0 c0,E x1 m1 c1] 58 (0,0))):ESl (W.setCell ⟨g,k,J⟩ u) v Z:=by
 rcases h with h| ⟨a,cap,hv,hc⟩
 . exact AN h
 . refine Ba ⟨a,cap,hv,fun j hj=>?_⟩
   obtain⟨h1,h2,h3,h4⟩:=hc j hj;have hne:a.block≠g:=fun e=>by
    rw[e,Az _ _ _ _ _ _ hg] at h3;have:a.off+j*2=0\/a.off+j*2=1\/2<=a.off+j*2:=(by omega);rcases this with q|q|q
    . rw[q] at h3;cases h3
    . rw[q] at h3;cases h3
    . rw[Array.getElem?_eq_none (by simpa using q)] at h3;cases h3
   have ho:=Bq W ⟨g,k,J⟩ a.block u hne;refine⟨by simpa [R.setCell] using h1,h2,?_,?_⟩
   . rw[Bh (a:=⟨a.block,a.off+j*2,J⟩) ho];exact h3
   . rw[Bh (a:=⟨a.block,a.off+j*2+1,J⟩) ho];exact h4
theorem OrI.next{w wr V:R}{g:Nat}{Z:List BC}{k:Nat}(h:OrI w g Z k wr)(hb:I wr.heap.size wr V){x:Option Addr}{m c:Nat}(hz:ESl V (E x m c) Z)(hk:k<2):
 V.cell? ⟨g,k,J⟩≠J/\V.frozen? ⟨g,k,J⟩=o/\OrI w g Z (k+1) (V.setCell ⟨g,k,J⟩ (E x m c)):=by
 obtain⟨a,b,x0,m0,c0,x1,m1,c1,hg,f0,f1⟩:=h;have Ok:=(Al.1 hg).1;have hV:=(hb.block g Ok).trans hg;have XE:k=0\/k=1:=by omega
 have hs:=Bs V g k _ _ (E x m c) hV;refine⟨by rw[Az _ _ _ _ _ _ hV];rcases XE with rfl|rfl <;> simp,by simp[R.frozen?,hV],(a.trans (hb.mono a.size)).setCell (p:=⟨g,k,J⟩) b _,b,?_⟩;rcases XE with rfl|rfl
 . exact⟨x,m,c,x1,m1,c1,hs,fun _=>UK hz hV,fun h=>absurd h (by decide)⟩
 . exact⟨x0,m0,c0,x,m,c,hs,fun _=>UK ((f0 (by decide)).below hb) hV,fun _=>UK hz hV⟩
theorem OrI.at{w wr:R}{g:Nat}{Z:List BC}(h:OrI w g Z 2 wr):∃ x0 c0 x1 c1,wr.cell? ⟨g,0,J⟩=Y (E x0 Z.length c0)/\wr.cell? ⟨g,1,J⟩=Y (E x1 Z.length c1)/\ESl wr (E x0 Z.length c0) Z/\ESl wr (E x1 Z.length c1) Z:=by
 obtain⟨a,b,x0,m0,c0,x1,m1,c1,hg,f0,f1⟩:=h;have e0:=f0 (by decide);have e1:=f1 (by decide);obtain⟨y0,d0,v0,_⟩:=e0.open';obtain⟨y1,d1,v1,_⟩:=e1.open';obtain⟨_,rfl,_⟩:=A0 v0;obtain⟨_,rfl,_⟩:=A0 v1;exact⟨x0,c0,x1,c1,by rw[Az _ _ _ _ _ _ hg];rfl,by rw[Az _ _ _ _ _ _ hg];rfl,e0,e1⟩
theorem ZM{w:R}{v:z}{l:List BC}(hs:ESl w v l){t:Nat}(ht:t<=255):U T 5 #[v,H .u8 t] w fun e w'=>e=D (A1 C)/\I w.heap.size w w':=by
 have KA:=vJ Lx;have KM:=vJ fun(w0:R)=>Vf (kk:=2) (by decide) (by decide) w0 (AM _ w0)
 rw[show(64*((2:Nat):Int))=128 from rfl] at KM;obtain⟨ao,cap,rfl,FU⟩:=hs.open';obtain⟨n,hn⟩:=nm l.length;have HC:Hid (∀ (j:Nat),j<n->∃ b off x1 s1,ao=Y ⟨b,off,J⟩/\s1=(l.getD j default).2/\∀ W,I w.heap.size w W->W.cell? ⟨b,off+j*2,J⟩=Y (H K x1)/\W.cell? ⟨b,off+j*2+1,J⟩=Y (.string s1)):=vJ fun j hj=>by
  obtain⟨b,off,e,hlt,hc2⟩:=FU (by omega);obtain⟨a1,a2⟩:=hc2 j (by omega);refine⟨b,off,(l.getD j default).1,(l.getD j default).2,e,rfl,fun W hW=>⟨?_,?_⟩⟩
  . rw[hW.cell (p:=⟨b,off+j*2,J⟩) hlt];exact a1
  . rw[hW.cell (p:=⟨b,off+j*2+1,J⟩) hlt];exact a2
 have HN:=vJ hn;rw[<- hn];clear FU hs hn;by_cases EJ:40<n
 . have hbz:(40:Int)<(n:Int):=by omega
   clear KM;go_enter Tryz.func5,Tryz.ntmps5
   go_wp2_with (first
    |(go_at_call 6;(with_reducible refine(KA.out w).mono ?_);rintro e w2 ⟨rfl,hb2⟩)
    |(go_at_call 6;refine(KA.out _).mono ?_;rintro e w4 ⟨rfl,hb4⟩))
   go_ret;exact⟨rfl,hb2.trans (hb4.mono hb2.size)⟩
 . have hbz:¬ (40:Int)<(n:Int):=by omega
   have hbd:decide ((40:Int)<(n:Int))=o:=AG hbz;obtain⟨Z,hZ⟩:=nm (Hr [] (FT (DZ l 0) n));have HZ:=vJ hZ;clear hZ;go_enter Tryz.func5,Tryz.ntmps5;go_wp2_with (go_at_call 6;(with_reducible refine(KA.out w).mono ?_);rintro e w2 ⟨rfl,hb2⟩)
   have H0:Hid (OrI w w2.heap.size Z 0 (w2.alloc (L #[E J 0 0,E J 0 0] 58))):=vJ ⟨hb2.trans ((Ay w2 _).mono hb2.size),hb2.size,_,_,_,_,_,_,Aw w2 _,fun h=>absurd h (by decide),fun h=>absurd h (by decide)⟩;obtain⟨g,hg⟩:=nm w2.heap.size;rw[<- hg] at H0 |-
   clear hb2 KA hg;go_loopw [24] (fun t24 wr=>∃ k:Nat,k<=2/\t24=H K k/\Hid (OrI w g Z k wr)) (fun t24 _=>2-(intOf t24).toNat)
   case atStart=>exact⟨0,AX _,rfl,H0⟩
   case round=>
    obtain⟨k,hk,rfl,HI⟩:=hrel;clear H0;have hk3:k=0\/k=1\/k=2:=(by omega);rcases hk3 with rfl|rfl|rfl
    . have KMW:=vJ (KM.out wr)
      obtain⟨wr0,aG⟩:=nm wr;have HW0:=vJ aG;rw[<- aG] at KMW HI;clear aG
      go_wp2_with (first
       |(go_at_call 8;rw[<- HW0.out];refine KMW.out.mono ?_;rintro e w3 ⟨b,rfl,hb3,KN⟩)
       |(go_at_call 7;refine KN.mono ?_;rintro e w4 ⟨bf,P4,d,rfl,hr4⟩))
      have H4:Hid (∃ P,RestD wr0 d (G (Y ⟨b,0,J⟩)) 2 bf (FT (DZ l 0) 0) P w4):=vJ ⟨P4,hr4⟩;clear hb3 KN hr4 KMW;go_loopw [33] (fun t33 wi=>∃ i:Nat,i<=n/\t33=H K i/\Hid (∃ P,RestD wr0 d (G (Y ⟨b,0,J⟩)) 2 bf (FT (DZ l 0) i) P wi)) (fun t33 _=>n-(intOf t33).toNat)
      case atStart=>exact⟨0,AX _,rfl,H4⟩
      case round=>
       obtain⟨i,hi,rfl,HS⟩:=hrel;clear H4;by_cases hin:i<n
       . have o6:(i:Int)<(n:Int):=by omega
         have hnz:¬ (n:Int)=0:=(by omega);have sr:(i:Int)%(n:Int)=(i:Int):=Dw (by omega) o6;have HFI:Hid ((l.getD i default).2=DZ l 0 i):=vJ (by unfold DZ;rw[<- HN.out,Nat.add_zero,C5 hin]);have hjn:i<n:=hin;obtain⟨P,hr⟩:=HS.out;obtain⟨ba,off,x1,s1,rfl,hsx,hcc⟩:=HC.out i hjn;obtain⟨y0,y1⟩:=hcc wr (HI.out.1.trans (hr.be.mono HI.out.1.size));have HSX:Hid (s1=DZ l 0 i):=vJ (hsx.trans HFI.out);have HR:=vJ hr;clear hcc hsx hr HFI;go_upto_region 14 with(fail)
         clear sr y0 y1;obtain⟨w1,hw1⟩:=nm (wr.alloc (L #[H K x1,.string s1] 30));have hb1:I wr.heap.size wr w1:=(by rw[hw1];exact Ay _ _);have Vo:w1.heap[wr.heap.size]? =Y (L #[H K x1,.string s1] 30 (0,0)):=(by rw[hw1];exact Aw _ _);rw[<- hw1];obtain⟨q,hq⟩:=nm wr.heap.size;rw[<- hq] at Vo |-
         have hr1:=HR.out.low hb1;have qc:¬ P q:=fun hp=>by have:=((G5 _ _ _ _ _ _).lt HR.out q hp).2;omega
         have c1:=hr1.fs.cell;obtain⟨A,hA⟩:=nm (FT (DZ l 0) i);obtain⟨A',hA'⟩:=nm (FT (DZ l 0) (i+1));have vf:A'=addL A (UI s1):=(by rw[hA',hA,HSX.out];rfl);have vg:A.length<100:=(by have:=Qh (DZ l 0) i;rw[<- hA] at this;omega);have KB:Hid (U T 9 #[G (Y ⟨b,0,J⟩)] w1 fun e w'=>e=D (H K 0)/\∃ P',StartD wr0 d (G (Y ⟨b,0,J⟩)) 2 bf A P' w'/\w'.heap[q]? =Y (L #[H K x1,.string s1] 30 (0,0))/\¬ P' q):=vJ (by
          rw[hA];exact hr1.begin.mono fun e w' ⟨he,P',hs,hg⟩=>by
           have:=hg.keep q (Al.1 Vo).1 qc;exact⟨he,P',hs,this.1.trans Vo,this.2⟩)
         have KA:Hid (∀ (P':Nat->Prop) (V:R),StartD wr0 d (G (Y ⟨b,0,J⟩)) 2 bf A P' V->V.heap[q]? =Y (L #[H K x1,.string s1] 30 (0,0))->¬ P' q->U T 10 #[G (Y ⟨bf,0,J⟩),H K 1,BD #[H K (1+(s1.size:Int)%47),.string s1]] V fun e w'=>e=D (H K (GE A (UI s1)))/\∃ P2,CallD wr0 d (G (Y ⟨b,0,J⟩)) 2 bf (GE A (UI s1)) A' P2 w'/\w'.heap[q]? =Y (L #[H K x1,.string s1] 30 (0,0))/\¬ P2 q):=vJ fun P' V hs TW Oh=>by
          rw[vf];exact(hs.add (by decide) (by decide) vg (UI s1)).mono fun e w' ⟨he,P2,hc,hg⟩=>by
           have:=hg.keep q (Al.1 TW).1 Oh;exact⟨he,P2,hc,this.1.trans TW,this.2⟩
         obtain⟨er,cW⟩:=nm (GE A (UI s1));rw[<- cW] at KA;have KE:Hid (∀ (P':Nat->Prop) (V:R) (b':Bool),CallD wr0 d (G (Y ⟨b,0,J⟩)) 2 bf er A' P' V->V.heap[q]? =Y (L #[H K x1,.string s1] 30 (0,0))->¬ P' q->b'=decide (er=0)->U T 18 #[G (Y ⟨b,0,J⟩),A1 b'] V fun e w'=>e=D (H K 0)/\∃ P2,RestD wr0 d (G (Y ⟨b,0,J⟩)) 2 bf A' P2 w'/\w'.heap[q]? =Y (L #[H K x1,.string s1] 30 (0,0))):=vJ fun P' V b' hs TW Oh hb'=>
          (hs.fin hb').mono fun e w' ⟨he,P2,hc,hg⟩=>⟨he,P2,hc,(hg.keep q (Al.1 TW).1 Oh).1.trans TW⟩
         have HA':=vJ hA';have hfn:=bX (DZ l 0) i;rw[<- hA',<- HSX.out] at hfn;clear hA hA' vf vg cW hr1 qc Vo hb1 hw1 hq HS HR HI HC;cases Vs:Er s1
         . have KN:=vJ (Ju s1 o Vs)
           have HFE:Hid (K5 A' s1=0/\JR A' s1=4):=vJ (by
            have hx:¬ C4 A' s1<A'.length:=fun h=>by have:=hfn.1.1 h;rw[Vs] at this;cases this
            unfold K5 JR;rw[AE hx,AE hx];exact⟨rfl,rfl⟩)
           clear hfn Vs;have KF:Hid (∀ (P':Nat->Prop) (V:R),RestD wr0 d (G (Y ⟨b,0,J⟩)) 2 bf A' P' V->U T 16 #[G (Y ⟨bf,0,J⟩),H K 1,.string s1] V fun e w'=>e=D (B #[H K 0,H K 4])/\I V.heap.size V w'):=vJ fun P' V h=>by
            have:=h.rd.find s1;rw[HFE.out.1,HFE.out.2] at this;exact this
           clear HFE
           go_wp2_with (first
            |(go_at_call 9;refine KB.out.mono ?_;rintro e w3 ⟨rfl,P3,hs3,Qu,cV⟩;have z1:w3.cell? ⟨q,1,J⟩=Y (.string s1):=(by rw[Az _ _ _ _ _ _ Qu];rfl);have KA3:=vJ (KA.out _ _ hs3 Qu cV);clear hs3 Qu cV KB)
            |(go_at_call 10;refine KA3.out.mono ?_;rintro e w4 ⟨rfl,P4,hs4,Qc,Vl⟩;have c4:=hs4.2.2.cell;have KE4:=vJ (fun b' hb'=>KE.out _ _ b' hs4 Qc Vl hb');clear hs4 Qc Vl KA3)
            |(go_at_call 18;refine(KE4.out _ (by first|rfl|simp)).mono ?_;rintro e w5 ⟨rfl,P5,hs5,Vn⟩;have z5:w5.cell? ⟨q,1,J⟩=Y (.string s1):=(by rw[Az _ _ _ _ _ _ Vn];rfl);have KF5:=vJ (KF.out _ _ hs5);have HS5:=vJ hs5;have HQ5:=vJ (Al.1 Vn).1;clear hs5 Vn KE4)
            |(go_at_call 16;refine KF5.out.mono ?_;rintro e w6 ⟨rfl,hb6⟩;have z6:w6.cell? ⟨q,1,J⟩=Y (.string s1):=(by rw[hb6.cell (p:=⟨q,1,J⟩) HQ5.out];exact z5);have HS6:=vJ (HS5.out.low hb6);clear hb6)
            |(go_at_call 24;refine(KN.out _).mono ?_;rintro e w7 ⟨rfl,rfl⟩))
           go_roundw
           case rel=>exact⟨i+1,by omega,by go_num,vJ ⟨_,by rw[<- HA'.out];exact HS6.out⟩⟩
           case measure=>simp[intOf];omega
         . have KN:=vJ (Ju s1 C Vs)
           have HFE:Hid (K5 A' s1=1+(s1.size:Int)%47/\JR A' s1=0):=vJ (by
            have hx:=hfn.1.2 Vs;refine⟨hfn.2 Vs,?_⟩;unfold JR;rw[AC hx])
           clear hfn Vs;have KF:Hid (∀ (P':Nat->Prop) (V:R),RestD wr0 d (G (Y ⟨b,0,J⟩)) 2 bf A' P' V->U T 16 #[G (Y ⟨bf,0,J⟩),H K 1,.string s1] V fun e w'=>e=D (B #[H K (1+(s1.size:Int)%47),H K 0])/\I V.heap.size V w'):=vJ fun P' V h=>by
            have:=h.rd.find s1;rw[HFE.out.1,HFE.out.2] at this;exact this
           clear HFE
           go_wp2_with (first
            |(go_at_call 9;refine KB.out.mono ?_;rintro e w3 ⟨rfl,P3,hs3,Qu,cV⟩;have z1:w3.cell? ⟨q,1,J⟩=Y (.string s1):=(by rw[Az _ _ _ _ _ _ Qu];rfl);have KA3:=vJ (KA.out _ _ hs3 Qu cV);clear hs3 Qu cV KB)
            |(go_at_call 10;refine KA3.out.mono ?_;rintro e w4 ⟨rfl,P4,hs4,Qc,Vl⟩;have c4:=hs4.2.2.cell;have KE4:=vJ (fun b' hb'=>KE.out _ _ b' hs4 Qc Vl hb');clear hs4 Qc Vl KA3)
            |(go_at_call 18;refine(KE4.out _ (by first|rfl|simp)).mono ?_;rintro e w5 ⟨rfl,P5,hs5,Vn⟩;have z5:w5.cell? ⟨q,1,J⟩=Y (.string s1):=(by rw[Az _ _ _ _ _ _ Vn];rfl);have KF5:=vJ (KF.out _ _ hs5);have HS5:=vJ hs5;have HQ5:=vJ (Al.1 Vn).1;clear hs5 Vn KE4)
            |(go_at_call 16;refine KF5.out.mono ?_;rintro e w6 ⟨rfl,hb6⟩;have z6:w6.cell? ⟨q,1,J⟩=Y (.string s1):=(by rw[hb6.cell (p:=⟨q,1,J⟩) HQ5.out];exact z5);have HS6:=vJ (HS5.out.low hb6);clear hb6)
            |(go_at_call 24;refine(KN.out _).mono ?_;rintro e w7 ⟨rfl,rfl⟩))
           go_roundw
           case rel=>exact⟨i+1,by omega,by go_num,vJ ⟨_,by rw[<- HA'.out];exact HS6.out⟩⟩
           case measure=>simp[intOf];omega
       . have su:i=n:=by omega
         have hiz:¬ (i:Int)<(n:Int):=(by omega);obtain⟨P,hr⟩:=HS.out;have KL:Hid (U T 21 #[G (Y ⟨bf,0,J⟩),H K 1] wr fun e w'=>∃ x m c,e=D (B #[E x m c,H K 0])/\Hid (OrI w g Z (0+1) (w'.setCell ⟨g,0,J⟩ (E x m c)))/\(∃ u,w'.cell? ⟨g,0,J⟩=Y u)/\w'.frozen? ⟨g,0,J⟩=o):=vJ (hr.rd.list.mono fun e w' ⟨v,Z',he,hp,ho,hz,hb⟩=>by
          have hZ':Z'=Z:=by
           exact((NA (DZ l 0) i).ord hp ho).trans ((by first|(rw [su,HN.out];done)|(rw [su,HN.out];exact VP l 0 0):Hr [] (FT (DZ l 0) i)=Hr [] (FT (DZ l 0) n)).trans HZ.out.symm)
          rw[hZ'] at hz;obtain⟨x,c,rfl,_⟩:=hz.open';obtain⟨n1,n2,n3⟩:=HI.out.next (hr.be.trans (hb.mono hr.be.size)) hz (by decide);exact⟨x,_,c,he,vJ n3,Option.ne_none_iff_exists'.1 n1,n2⟩)
         clear hr HS HI su;go_wp2_with (go_at_call 21;refine KL.out.mono ?_;rintro e w5 ⟨x5,m5,c5,rfl,HO5,⟨u5,hu5⟩,hf5⟩)
         go_roundw
         case rel=>exact⟨0+1,by omega,rfl,HO5⟩
         case measure=>simp[intOf]
    . have KMW:=vJ (KM.out wr)
      obtain⟨wr0,aG⟩:=nm wr;have HW0:=vJ aG;rw[<- aG] at KMW HI;clear aG
      go_wp2_with (first
       |(go_at_call 8;rw[<- HW0.out];refine KMW.out.mono ?_;rintro e w3 ⟨b,rfl,hb3,KN⟩)
       |(go_at_call 7;refine KN.mono ?_;rintro e w4 ⟨bf,P4,d,rfl,hr4⟩))
      have H4:Hid (∃ P,RestD wr0 d (G (Y ⟨b,0,J⟩)) 2 bf (FT (DZ l t) 0) P w4):=vJ ⟨P4,hr4⟩;clear hb3 KN hr4 KMW;go_loopw [33] (fun t33 wi=>∃ i:Nat,i<=n/\t33=H K i/\Hid (∃ P,RestD wr0 d (G (Y ⟨b,0,J⟩)) 2 bf (FT (DZ l t) i) P wi)) (fun t33 _=>n-(intOf t33).toNat)
      case atStart=>exact⟨0,AX _,rfl,H4⟩
      case round=>
       obtain⟨i,hi,rfl,HS⟩:=hrel;clear H4;by_cases hin:i<n
       . have o6:(i:Int)<(n:Int):=by omega
         have hnz:¬ (n:Int)=0:=(by omega);obtain⟨j,hj⟩:=nm ((i+t)%n);have hjn:j<n:=(by rw[hj];exact Gl _ (by omega));have hjz:(j:Int)<(n:Int):=(by omega);have sr:((i:Int)+(t:Int))%(n:Int)=(j:Int):=(by rw[hj];push_cast;rfl);have HFI:Hid ((l.getD j default).2=DZ l t i):=vJ (by unfold DZ;rw[<- HN.out,<- hj]);clear hj;obtain⟨P,hr⟩:=HS.out;obtain⟨ba,off,x1,s1,rfl,hsx,hcc⟩:=HC.out j hjn;obtain⟨y0,y1⟩:=hcc wr (HI.out.1.trans (hr.be.mono HI.out.1.size));have HSX:Hid (s1=DZ l t i):=vJ (hsx.trans HFI.out);have HR:=vJ hr;clear hcc hsx hr HFI;go_upto_region 14 with(fail)
         clear sr y0 y1;obtain⟨w1,hw1⟩:=nm (wr.alloc (L #[H K x1,.string s1] 30));have hb1:I wr.heap.size wr w1:=(by rw[hw1];exact Ay _ _);have Vo:w1.heap[wr.heap.size]? =Y (L #[H K x1,.string s1] 30 (0,0)):=(by rw[hw1];exact Aw _ _);rw[<- hw1];obtain⟨q,hq⟩:=nm wr.heap.size;rw[<- hq] at Vo |-
         have hr1:=HR.out.low hb1;have qc:¬ P q:=fun hp=>by have:=((G5 _ _ _ _ _ _).lt HR.out q hp).2;omega
         have c1:=hr1.fs.cell;obtain⟨A,hA⟩:=nm (FT (DZ l t) i);obtain⟨A',hA'⟩:=nm (FT (DZ l t) (i+1));have vf:A'=addL A (UI s1):=(by rw[hA',hA,HSX.out];rfl);have vg:A.length<100:=(by have:=Qh (DZ l t) i;rw[<- hA] at this;omega);have KB:Hid (U T 9 #[G (Y ⟨b,0,J⟩)] w1 fun e w'=>e=D (H K 0)/\∃ P',StartD wr0 d (G (Y ⟨b,0,J⟩)) 2 bf A P' w'/\w'.heap[q]? =Y (L #[H K x1,.string s1] 30 (0,0))/\¬ P' q):=vJ (by
          rw[hA];exact hr1.begin.mono fun e w' ⟨he,P',hs,hg⟩=>by
           have:=hg.keep q (Al.1 Vo).1 qc;exact⟨he,P',hs,this.1.trans Vo,this.2⟩)
         have KA:Hid (∀ (P':Nat->Prop) (V:R),StartD wr0 d (G (Y ⟨b,0,J⟩)) 2 bf A P' V->V.heap[q]? =Y (L #[H K x1,.string s1] 30 (0,0))->¬ P' q->U T 10 #[G (Y ⟨bf,0,J⟩),H K 1,BD #[H K (1+(s1.size:Int)%47),.string s1]] V fun e w'=>e=D (H K (GE A (UI s1)))/\∃ P2,CallD wr0 d (G (Y ⟨b,0,J⟩)) 2 bf (GE A (UI s1)) A' P2 w'/\w'.heap[q]? =Y (L #[H K x1,.string s1] 30 (0,0))/\¬ P2 q):=vJ fun P' V hs TW Oh=>by
          rw[vf];exact(hs.add (by decide) (by decide) vg (UI s1)).mono fun e w' ⟨he,P2,hc,hg⟩=>by
           have:=hg.keep q (Al.1 TW).1 Oh;exact⟨he,P2,hc,this.1.trans TW,this.2⟩
         obtain⟨er,cW⟩:=nm (GE A (UI s1));rw[<- cW] at KA;have KE:Hid (∀ (P':Nat->Prop) (V:R) (b':Bool),CallD wr0 d (G (Y ⟨b,0,J⟩)) 2 bf er A' P' V->V.heap[q]? =Y (L #[H K x1,.string s1] 30 (0,0))->¬ P' q->b'=decide (er=0)->U T 18 #[G (Y ⟨b,0,J⟩),A1 b'] V fun e w'=>e=D (H K 0)/\∃ P2,RestD wr0 d (G (Y ⟨b,0,J⟩)) 2 bf A' P2 w'/\w'.heap[q]? =Y (L #[H K x1,.string s1] 30 (0,0))):=vJ fun P' V b' hs TW Oh hb'=>
          (hs.fin hb').mono fun e w' ⟨he,P2,hc,hg⟩=>⟨he,P2,hc,(hg.keep q (Al.1 TW).1 Oh).1.trans TW⟩
         have HA':=vJ hA';have hfn:=bX (DZ l t) i;rw[<- hA',<- HSX.out] at hfn;clear hA hA' vf vg cW hr1 qc Vo hb1 hw1 hq HS HR HI HC;cases Vs:Er s1
         . have KN:=vJ (Ju s1 o Vs)
           have HFE:Hid (K5 A' s1=0/\JR A' s1=4):=vJ (by
            have hx:¬ C4 A' s1<A'.length:=fun h=>by have:=hfn.1.1 h;rw[Vs] at this;cases this
            unfold K5 JR;rw[AE hx,AE hx];exact⟨rfl,rfl⟩)
           clear hfn Vs;have KF:Hid (∀ (P':Nat->Prop) (V:R),RestD wr0 d (G (Y ⟨b,0,J⟩)) 2 bf A' P' V->U T 16 #[G (Y ⟨bf,0,J⟩),H K 1,.string s1] V fun e w'=>e=D (B #[H K 0,H K 4])/\I V.heap.size V w'):=vJ fun P' V h=>by
            have:=h.rd.find s1;rw[HFE.out.1,HFE.out.2] at this;exact this
           clear HFE
           go_wp2_with (first
            |(go_at_call 9;refine KB.out.mono ?_;rintro e w3 ⟨rfl,P3,hs3,Qu,cV⟩;have z1:w3.cell? ⟨q,1,J⟩=Y (.string s1):=(by rw[Az _ _ _ _ _ _ Qu];rfl);have KA3:=vJ (KA.out _ _ hs3 Qu cV);clear hs3 Qu cV KB)
            |(go_at_call 10;refine KA3.out.mono ?_;rintro e w4 ⟨rfl,P4,hs4,Qc,Vl⟩;have c4:=hs4.2.2.cell;have KE4:=vJ (fun b' hb'=>KE.out _ _ b' hs4 Qc Vl hb');clear hs4 Qc Vl KA3)
            |(go_at_call 18;refine(KE4.out _ (by first|rfl|simp)).mono ?_;rintro e w5 ⟨rfl,P5,hs5,Vn⟩;have z5:w5.cell? ⟨q,1,J⟩=Y (.string s1):=(by rw[Az _ _ _ _ _ _ Vn];rfl);have KF5:=vJ (KF.out _ _ hs5);have HS5:=vJ hs5;have HQ5:=vJ (Al.1 Vn).1;clear hs5 Vn KE4)
            |(go_at_call 16;refine KF5.out.mono ?_;rintro e w6 ⟨rfl,hb6⟩;have z6:w6.cell? ⟨q,1,J⟩=Y (.string s1):=(by rw[hb6.cell (p:=⟨q,1,J⟩) HQ5.out];exact z5);have HS6:=vJ (HS5.out.low hb6);clear hb6)
            |(go_at_call 24;refine(KN.out _).mono ?_;rintro e w7 ⟨rfl,rfl⟩))
           go_roundw
           case rel=>exact⟨i+1,by omega,by go_num,vJ ⟨_,by rw[<- HA'.out];exact HS6.out⟩⟩
           case measure=>simp[intOf];omega
         . have KN:=vJ (Ju s1 C Vs)
           have HFE:Hid (K5 A' s1=1+(s1.size:Int)%47/\JR A' s1=0):=vJ (by
            have hx:=hfn.1.2 Vs;refine⟨hfn.2 Vs,?_⟩;unfold JR;rw[AC hx])
           clear hfn Vs;have KF:Hid (∀ (P':Nat->Prop) (V:R),RestD wr0 d (G (Y ⟨b,0,J⟩)) 2 bf A' P' V->U T 16 #[G (Y ⟨bf,0,J⟩),H K 1,.string s1] V fun e w'=>e=D (B #[H K (1+(s1.size:Int)%47),H K 0])/\I V.heap.size V w'):=vJ fun P' V h=>by
            have:=h.rd.find s1;rw[HFE.out.1,HFE.out.2] at this;exact this
           clear HFE
           go_wp2_with (first
            |(go_at_call 9;refine KB.out.mono ?_;rintro e w3 ⟨rfl,P3,hs3,Qu,cV⟩;have z1:w3.cell? ⟨q,1,J⟩=Y (.string s1):=(by rw[Az _ _ _ _ _ _ Qu];rfl);have KA3:=vJ (KA.out _ _ hs3 Qu cV);clear hs3 Qu cV KB)
            |(go_at_call 10;refine KA3.out.mono ?_;rintro e w4 ⟨rfl,P4,hs4,Qc,Vl⟩;have c4:=hs4.2.2.cell;have KE4:=vJ (fun b' hb'=>KE.out _ _ b' hs4 Qc Vl hb');clear hs4 Qc Vl KA3)
            |(go_at_call 18;refine(KE4.out _ (by first|rfl|simp)).mono ?_;rintro e w5 ⟨rfl,P5,hs5,Vn⟩;have z5:w5.cell? ⟨q,1,J⟩=Y (.string s1):=(by rw[Az _ _ _ _ _ _ Vn];rfl);have KF5:=vJ (KF.out _ _ hs5);have HS5:=vJ hs5;have HQ5:=vJ (Al.1 Vn).1;clear hs5 Vn KE4)
            |(go_at_call 16;refine KF5.out.mono ?_;rintro e w6 ⟨rfl,hb6⟩;have z6:w6.cell? ⟨q,1,J⟩=Y (.string s1):=(by rw[hb6.cell (p:=⟨q,1,J⟩) HQ5.out];exact z5);have HS6:=vJ (HS5.out.low hb6);clear hb6)
            |(go_at_call 24;refine(KN.out _).mono ?_;rintro e w7 ⟨rfl,rfl⟩))
           go_roundw
           case rel=>exact⟨i+1,by omega,by go_num,vJ ⟨_,by rw[<- HA'.out];exact HS6.out⟩⟩
           case measure=>simp[intOf];omega
       . have su:i=n:=by omega
         have hiz:¬ (i:Int)<(n:Int):=(by omega);obtain⟨P,hr⟩:=HS.out;have KL:Hid (U T 21 #[G (Y ⟨bf,0,J⟩),H K 1] wr fun e w'=>∃ x m c,e=D (B #[E x m c,H K 0])/\Hid (OrI w g Z (1+1) (w'.setCell ⟨g,1,J⟩ (E x m c)))/\(∃ u,w'.cell? ⟨g,1,J⟩=Y u)/\w'.frozen? ⟨g,1,J⟩=o):=vJ (hr.rd.list.mono fun e w' ⟨v,Z',he,hp,ho,hz,hb⟩=>by
          have hZ':Z'=Z:=by
           exact((NA (DZ l t) i).ord hp ho).trans ((by first|(rw [su,HN.out];done)|(rw [su,HN.out];exact VP l t 0):Hr [] (FT (DZ l t) i)=Hr [] (FT (DZ l 0) n)).trans HZ.out.symm)
          rw[hZ'] at hz;obtain⟨x,c,rfl,_⟩:=hz.open';obtain⟨n1,n2,n3⟩:=HI.out.next (hr.be.trans (hb.mono hr.be.size)) hz (by decide);exact⟨x,_,c,he,vJ n3,Option.ne_none_iff_exists'.1 n1,n2⟩)
         clear hr HS HI su;go_wp2_with (go_at_call 21;refine KL.out.mono ?_;rintro e w5 ⟨x5,m5,c5,rfl,HO5,⟨u5,hu5⟩,hf5⟩)
         go_roundw
         case rel=>exact⟨1+1,by omega,rfl,HO5⟩
         case measure=>simp[intOf]
    . have hso:Jb Z:=by rw[HZ.out];exact Fm _ [] List.Pairwise.nil (NA _ _)
      have hzl:Z.length<=40:=by
       have:=Qh (DZ l 0) n;rw[HZ.out,(Gj _ []).length_eq,B0];omega
      obtain⟨m,hm⟩:=nm Z.length;obtain⟨x0,c0,x1,c1,g0,g1,e0,e1⟩:=HI.out.at;obtain⟨y0,d0,v0,f0⟩:=e0.open';obtain⟨y1,d1,v1,f1⟩:=e1.open';obtain⟨rfl,-,rfl⟩:=A0 v0;obtain⟨rfl,-,rfl⟩:=A0 v1;rw[<- hm] at g0 g1 f0 f1 hzl;have HF0:=vJ f0;have HF1:=vJ f1;have HSO:=vJ hso;have HM:=vJ hm;have HBE:=vJ HI.out.1;clear e0 e1 f0 f1 hso hm v0 v1 HI HC HN HZ KM;go_wp2;go_loopw [120] (fun ti wi=>∃ j nq:Nat,j<=m/\ti=H K j/\wi=wr.drewN nq) (fun ti _=>m-(intOf ti).toNat)
      case atStart=>exact⟨0,0,AX _,rfl,rfl⟩
      case round=>
       obtain⟨j,nq0,hj,rfl,rfl⟩:=hrel;by_cases pO:j<m
       . have hjz:(j:Int)<(m:Int):=by omega
         obtain⟨b0,o0,rfl,t0,h0⟩:=HF0.out (by omega);obtain⟨b1,o1,rfl,t1,h1⟩:=HF1.out (by omega);obtain⟨⟨i1,s1⟩,hx1⟩:∃ x,x=Z.getD j default:=⟨_,rfl⟩;have r0:=h0 j pO;have r1:=h1 j pO;rw[<- hx1] at r0 r1;obtain⟨a0,a1⟩:=r0;obtain⟨a2,a3⟩:=r1;rcases Nat.eq_zero_or_pos j with rfl|IK
         . simp only[Nat.zero_mul,Nat.add_zero] at a0 a1 a2 a3
           clear h0 h1 hx1;go_wp2;go_quiet (fail)
           go_wp2;go_roundw
           case rel=>exact⟨1,_,by omega,rfl,rfl⟩
           case measure=>simp[intOf];omega
         . obtain⟨p,hp⟩:=nm (j-1)
           have hjp:(j:Int)-1=(p:Int):=(by omega);have hpm:p<m:=(by omega);have hpz:(p:Int)<(m:Int):=(by omega);have hd:decide (0<j)=C:=AF IK;have hdz:decide ((0:Int)<(j:Int))=C:=AF (by omega);obtain⟨⟨i2,s2⟩,Qb⟩:∃ x,x=Z.getD p default:=⟨_,rfl⟩;have r2:=h0 p hpm;rw[<- Qb] at r2;obtain⟨a4,a5⟩:=r2;have hls:Op.bytesLess s2.toList s1.toList=C:=Zy (by
            have h9:=HM.out;have q:=Em.1 HSO.out p j (by omega) (by omega) (by omega);rw[EY _ (by omega)] at hx1 Qb;rw[<- hx1,<- Qb] at q;exact q)
           clear h0 h1 hx1 Qb hp;go_wp2;go_quiet (fail)
           clear hjp hpz hdz hd hls hpm a0 a1 a2 a3 a4 a5 IK;go_wp2;go_roundw
           case rel=>
            repeat apply Exists.intro
            refine⟨⟨j+1,_,by omega,?_,rfl⟩,rfl⟩
            go_num
           case measure=>simp[intOf];omega
       . obtain rfl:j=m:=by omega
         go_wp2;go_ret;exact⟨rfl,A2 HBE.out _⟩
theorem order16_any{w:R}{v:z}{l:List BC}(hs:ESl w v l){a:Int}(ha:0<=a/\a<=255):U T 5 #[v,H .u8 a] w fun e w'=>e=D (A1 C)/\I w.heap.size w w':=by
 obtain⟨t,rfl⟩:=Int.eq_ofNat_of_zero_le ha.1;exact ZM hs (by omega)
end Go.Proofs.YtdefiimcmecnnaaGreat
