/- What the law rests on. -/
import Derived.Maps.RangeWalk
import Derived.Test.YtfpdajplfmakhaaGreatDoorQD5
open Go.Value renaming int->J,slice->Aw,pointer->Ax,tuple->AT,bool->AY,agg->BS
open Go.IntKind renaming i64->Y
open Go.Proofs.Tryz renaming prog->V
open Option renaming none->H,some->Z
open Go renaming World->K,Value->AA,Calls->A,Oper->BK,wpList->Cj,TypeId->Cn
open Go.Ending renaming returned->t
open Go.Obj renaming cells->Ay
open Go.RowKit renaming Below->I
open List renaming replicate->AI,range->BE
open Bool renaming false->S,true->AQ
open Or renaming inl->A4,inr->A8
open Go.Proofs.Tryz
namespace Go.Proofs.YtfpdajplfmakhaaGreatDoor
set_option linter.defProp false
set_option maxHeartbeats 12000000
set_option linter.unusedVariables false
set_option maxRecDepth 100000
section
open Go.RowKit
structure Ext (P:Nat->Prop) (w w':K):Prop where
 os:w'.os=w.os
 tape:w'.tape=w.tape
 output:w'.output=w.output
 size:w.heap.size<=w'.heap.size
 keep:∀ k,k<w.heap.size->¬ P k->w'.heap[k]? =w.heap[k]?
def wj(P:Nat->Prop)(w w':K)(k:Nat):Prop:=P k\/(w.heap.size<=k/\k<w'.heap.size)
def Ext.trans{P P2:Nat->Prop}{a b c:K}(h:Ext P a b)(k:Ext P2 b c)(hp:∀ x,x<a.heap.size->P2 x->P x):Ext P a c:=
 ⟨k.os.trans h.os,k.tape.trans h.tape,k.output.trans h.output,AU h.size k.size,fun i d f=>(k.keep i (AL d h.size) fun e=>f (hp i d e)).trans (h.keep i d f)⟩
def Ext.of_below{P:Nat->Prop}{w w':K}(h:I w.heap.size w w'):Ext P w w':=⟨h.os,h.tape,h.output,h.size,fun k a _=>h.block k a⟩
def Ext.of_chg{P Q a:Nat->Prop}{w w':K}(h:Chg Q a w w')(hp:∀ x,Q x->P x):Ext P w w':=⟨h.os,h.tape,h.output,h.size,fun k b c=>(h.keep k b fun e=>c (hp k e)).1⟩
def Ext.of_grown{P:Nat->Prop}{w w':K}{b:Nat}(h:w.grownBy w' (Z b))(hp:P b):Ext P w w':=⟨h.os,h.tape,h.output,h.size,fun k a c=>h.block k a fun e=>c (by cases e;exact hp)⟩
def Ext.of_wrote{P:Nat->Prop}{w w':K}{b:Nat}(h:Wrote w w' b)(hp:P b):Ext P w w':=⟨h.1,h.2.1,h.2.2.1,Nat.le_of_eq h.2.2.2.1.symm,fun k _ a=>h.2.2.2.2 k fun e=>a (e ▸ hp)⟩
def Ext.chg{P:Nat->Prop}{w w':K}(h:Ext P w w'):Chg P (wj P w w') w w':=⟨h.os,h.tape,h.output,h.size,fun k b a=>⟨h.keep k b a,fun e=>e.elim a fun e=>absurd e.1 Aa⟩⟩
def Ext.sub{P Q:Nat->Prop}{w w':K}(h:Ext P w w')(hp:∀ x,P x->Q x):Ext Q w w':=⟨h.os,h.tape,h.output,h.size,fun k a b=>h.keep k a fun e=>b (hp k e)⟩
def Mf{P a:Nat->Prop}{w w':K}(h:Chg P a w w'){k:Nat}(c:a k):P k\/w.heap.size<=k:=by
 by_cases d:k<w.heap.size
 . by_cases b:P k
   . exact A4 b
   . exact absurd c (h.keep k d b).2
 . exact A8 Aa
def Dk.same{w w':K}{P:Nat->Prop}{p:AA}{s:DS}(h:Dk w P p s)(c:∀ k,P k->w'.heap[k]? =w.heap[k]?):Dk w' P p s:=by
 obtain⟨bp,f,i,u,d,b,l,a⟩:=h;refine⟨bp,f,i,u,d,{ b with hp:=?_,hf:=?_,hv:=?_,hu:=Fo b.hu fun g j=>c g ((a g).2 (A8 (A8 (A8 j)))) },l,a⟩
 . rw[c _ ((a _).2 (A4 rfl))];exact b.hp
 . rw[c _ ((a _).2 (A8 (A4 rfl)))];exact b.hf
 . rw[c _ ((a _).2 (A8 (A8 (A4 rfl))))];exact b.hv
def Blo(w:K)(v:AA)(l:Ab):Prop:=OB w 0 v l/\l.length=256
def Blo.row{w:K}{v:AA}{l:Ab}(h:Blo w v l):∃ g cap cur,v=Aw (Z ⟨g,0,H⟩) 256 cap/\w.heap[g]? =Z (Ay cur 5 (0,0)):=by
 rcases h.1.2.2 with⟨_,a⟩| ⟨g,cap,cur,c,_,b,_⟩
 . rw[h.2] at a;cases a
 . exact⟨g,cap,cur,by rw[c,h.2],b⟩
def Blo.hdr{w:K}{v:AA}{l:Ab}(h:Blo w v l):∃ d,hdr v=Z (d,[]):=by
 obtain⟨g,a,b,rfl,_⟩:=h.row;exact⟨_,iy g 0 256 a⟩
def Blo.keep{w w':K}{v:AA}{l:Ab}(h:Blo w v l)(a:∀ g,v.ownBlock=Z g->w'.heap[g]? =w.heap[g]?):Blo w' v l:=⟨⟨h.1.1,Fo h.1.2 a⟩,h.2⟩
def Blo.lt{w:K}{v:AA}{l:Ab}(h:Blo w v l){g:Nat}(a:v.ownBlock=Z g):g<w.heap.size:=(BY h.1.2 g a).2
def Blo.at{w:K}{v:AA}{l:Ab}(h:Blo w v l){g:Nat}(c:v.ownBlock=Z g):∃ cur,w.heap[g]? =Z (Ay cur 5 (0,0)):=by
 obtain⟨b,a,cur,rfl,d⟩:=h.row;obtain rfl:b=g:=by simpa [AA.ownBlock] using c
 exact⟨cur,d⟩
def oh(Pd:Nat->Prop)(b be bp:Nat)(ek:Ab)(eg:Int->AA)(pk:Ab)(pg:Int->AA)(k:Nat):Prop:=
 Pd k\/k=b\/k=be\/k=bp\/(∃ x,x∈ek/\(eg x).ownBlock=Z k)\/∃ x,x∈pk/\(pg x).ownBlock=Z k
structure SMem (w:K) (Pd:Nat->Prop) (b be bp:Nat) (d:AA) (q:Int) (ek:Ab) (eg:Int->AA) (ev:Int->Ab) (pk:Ab) (pg:Int->AA) (pv:Int->Ab) (wi:Bool) (ds:DS):Prop where
 hb:w.heap[b]? =Z (Ay #[d,J .u32 q,.map (Z be),.map (Z bp),AY wi,AY S] 109 (0,0))
 dk:Dk w Pd d ds
 q0:0<=q/\q<4294967296
 me:Mp w be ek eg
 mp:Mp w bp pk pg
 ne:be≠bp
 re:∀ x∈ek,Blo w (eg x) (ev x)
 rp:∀ x∈pk,Blo w (pg x) (pv x)
def sX(n:Nat)(x:Int):Prop:=0<=x/\x<n/\D7 x.toNat
structure SPl (X:XSt) (ek:Ab) (ev:Int->Ab) (pk:Ab) (pv:Int->Ab):Prop where
 ok:XOk X
 n64:64<=X.is.length/\X.is.length<=768
 u0:X.ds.U=[]
 ki:∀ x∈ek,sX X.is.length x
 kp:∀ x∈pk,sX X.is.length x
 el:ek.length<=37
 pl:pk.length<=37
 dt:X.dt=ek.length
 isx:∀ i,D7 i->i<X.is.length->X.is.getD i []=if (i:Int)∈ek then ev i else X.base.getD i []
 wi0:X.wi=S->pk=[]
 wi1:X.wi=AQ->X.put=pk/\X.call.length=X.is.length/\∀ i,D7 i->i<X.is.length->X.call.getD i []=if (i:Int)∈pk then pv i else X.is.getD i []
def SInv(w:K)(P:Nat->Prop)(d p:AA)(X:XSt):Prop:=
 ∃ b be bp Pd q ek eg ev pk pg pv,p=Ax (Z ⟨b,0,H⟩)/\SMem w Pd b be bp d q ek eg ev pk pg pv X.wi X.ds/\SPl X ek ev pk pv/\(∀ k,oh Pd b be bp ek eg pk pg k->P k)/\∀ k,P k->k<w.heap.size
def SDead(w:K)(P:Nat->Prop)(d p:AA)(ds:DS):Prop:=
 ∃ b Pd,p=Ax (Z ⟨b,0,H⟩)/\w.heap[b]? =Z (Ay #[Ax H,J .u32 0,.map H,.map H,AY S,AY AQ] 109 (0,0))/\Dk w Pd d ds/\(∀ k,Pd k\/k=b->P k)/\∀ k,P k->k<w.heap.size
section
variable {w:K}{Pd:Nat->Prop}{b be bp:Nat}{d:AA}{q:Int}{ek:Ab}{eg:Int->AA}{ev:Int->Ab}{pk:Ab}{pg:Int->AA}{pv:Int->Ab}{wi:Bool}{ds:DS}
def SMem.bl(h:SMem w Pd b be bp d q ek eg ev pk pg pv wi ds):b<w.heap.size:=(Au.1 h.hb).1
def SMem.lt(h:SMem w Pd b be bp d q ek eg ev pk pg pv wi ds)(k:Nat)(c:oh Pd b be bp ek eg pk pg k):k<w.heap.size:=by
 rcases c with c|rfl|rfl|rfl| ⟨x,f,a⟩| ⟨x,f,a⟩
 . exact h.dk.lt k c
 . exact h.bl
 . exact h.me.lt
 . exact h.mp.lt
 . exact(h.re x f).lt a
 . exact(h.rp x f).lt a
def SMem.same(h:SMem w Pd b be bp d q ek eg ev pk pg pv wi ds){w':K}(a:∀ k,oh Pd b be bp ek eg pk pg k->w'.heap[k]? =w.heap[k]?):SMem w' Pd b be bp d q ek eg ev pk pg pv wi ds:=
 ⟨by rw[a b (A8 (A4 rfl))];exact h.hb,h.dk.same fun k i=>a k (A4 i),h.q0,h.me.keep (a be (A8 (A8 (A4 rfl)))),h.mp.keep (a bp (A8 (A8 (A8 (A4 rfl))))),h.ne,
   fun x c=>(h.re x c).keep fun g f=>a g (A8 (A8 (A8 (A8 (A4 ⟨x,c,f⟩))))),fun x c=>(h.rp x c).keep fun g f=>a g (A8 (A8 (A8 (A8 (A8 ⟨x,c,f⟩)))))⟩
def SMem.below(h:SMem w Pd b be bp d q ek eg ev pk pg pv wi ds){w':K}(hb:I w.heap.size w w'):SMem w' Pd b be bp d q ek eg ev pk pg pv wi ds:=h.same fun k a=>hb.block k (h.lt k a)
def SMem.ci(h:SMem w Pd b be bp d q ek eg ev pk pg pv wi ds)(i:Nat):w.cell? ⟨b,i,H⟩=(#[d,J .u32 q,.map (Z be),.map (Z bp),AY wi,AY S]:Array AA)[i]? :=AD _ _ _ _ _ _ h.hb
def SMem.fr(h:SMem w Pd b be bp d q ek eg ev pk pg pv wi ds)(i:Nat):w.frozen? ⟨b,i,H⟩=S:=by simp[K.frozen?,h.hb]
def SMem.c0(h:SMem w Pd b be bp d q ek eg ev pk pg pv wi ds):w.cell? ⟨b,0,H⟩=Z d:=h.ci 0
def SMem.c1(h:SMem w Pd b be bp d q ek eg ev pk pg pv wi ds):w.cell? ⟨b,1,H⟩=Z (J .u32 q):=h.ci 1
def SMem.c2(h:SMem w Pd b be bp d q ek eg ev pk pg pv wi ds):w.cell? ⟨b,2,H⟩=Z (.map (Z be)):=h.ci 2
def SMem.c3(h:SMem w Pd b be bp d q ek eg ev pk pg pv wi ds):w.cell? ⟨b,3,H⟩=Z (.map (Z bp)):=h.ci 3
def SMem.c4(h:SMem w Pd b be bp d q ek eg ev pk pg pv wi ds):w.cell? ⟨b,4,H⟩=Z (AY wi):=h.ci 4
def SMem.c5(h:SMem w Pd b be bp d q ek eg ev pk pg pv wi ds):w.cell? ⟨b,5,H⟩=Z (AY S):=h.ci 5
def SMem.nd(h:SMem w Pd b be bp d q ek eg ev pk pg pv wi ds):¬ Pd b:=h.dk.not h.hb Af Af Af
def Xw{P:Nat->Prop}{p:AA}{s:DS}(h:Dk w P p s){k:Nat}{a:Array MapEntry}{cl:Nat}(b:w.heap[k]? =Z (.map a cl)):¬ P k:=fun c=>by
 obtain⟨_,_,he,_⟩:=h.types k c;rw[b] at he;cases he
def Mp.nd{P:Nat->Prop}{p:AA}{s:DS}{m:Nat}{N:Ab}{g:Int->AA}(h:Dk w P p s)(b:Mp w m N g):¬ P m:=by
 obtain⟨_,⟨d,c,a,_⟩,_⟩:=b;exact Xw h a
def SMem.nb(h:SMem w Pd b be bp d q ek eg ev pk pg pv wi ds):be≠b/\bp≠b:=⟨h.me.not_cells h.hb,h.mp.not_cells h.hb⟩
def Blo.ne{v:AA}{l:Ab}(hv:Blo w v l){g:Nat}(d:v.ownBlock=Z g){k:Nat}{cs:Array AA}{T:Cn}{z:Nat × Nat}(f:w.heap[k]? =Z (Ay cs T z))(c:T≠5):g≠k:=fun e=>by
 obtain⟨b,a⟩:=hv.at d;rw[e,f] at a
 injection a with a
 injection a with _ e2
 exact c e2
def Blo.nm{v:AA}{l:Ab}(hv:Blo w v l){g:Nat}(c:v.ownBlock=Z g){m:Nat}{N:Ab}{b:Int->AA}(f:Mp w m N b):g≠m:=fun e=>by
 obtain⟨a,d⟩:=hv.at c;exact f.not_cells d e.symm
def Blo.nd{v:AA}{l:Ab}(hv:Blo w v l){g:Nat}(b:v.ownBlock=Z g){P:Nat->Prop}{p:AA}{s:DS}(h:Dk w P p s):¬ P g:=by
 obtain⟨a,c⟩:=hv.at b;exact h.not c Af Af Af
def SMem.disk(h:SMem w Pd b be bp d q ek eg ev pk pg pv wi ds){w':K}{a:Nat->Prop}{f:DS}(hd:Dk w' a d f)(i:Chg Pd a w w'):SMem w' a b be bp d q ek eg ev pk pg pv wi f:=
 ⟨by rw[(i.keep b h.bl h.nd).1];exact h.hb,hd,h.q0,h.me.keep (i.keep be h.me.lt (Mp.nd h.dk h.me)).1,h.mp.keep (i.keep bp h.mp.lt (Mp.nd h.dk h.mp)).1,h.ne,
   fun x c=>(h.re x c).keep fun g j=>(i.keep g ((h.re x c).lt j) ((h.re x c).nd j h.dk)).1,fun x c=>(h.rp x c).keep fun g j=>(i.keep g ((h.rp x c).lt j) ((h.rp x c).nd j h.dk)).1⟩
end
def SInv.keep{w w':K}{P:Nat->Prop}{d p:AA}{X:XSt}(h:SInv w P d p X)(l:w.heap.size<=w'.heap.size)(f:∀ k,P k->w'.heap[k]? =w.heap[k]?):SInv w' P d p X:=by
 obtain⟨b,be,bp,Pd,q,ek,eg,ev,pk,pg,pv,j,i,a,c,g⟩:=h;exact⟨b,be,bp,Pd,q,ek,eg,ev,pk,pg,pv,j,i.same fun k h=>f k (c k h),a,c,fun k h=>AL (g k h) l⟩
def SDead.keep{w w':K}{P:Nat->Prop}{d p:AA}{ds:DS}(h:SDead w P d p ds)(l:w.heap.size<=w'.heap.size)(c:∀ k,P k->w'.heap[k]? =w.heap[k]?):SDead w' P d p ds:=by
 obtain⟨b,Pd,j,f,g,a,i⟩:=h;exact⟨b,Pd,j,by rw[c b (a b (A8 rfl))];exact f,g.same fun k h=>c k (a k (A4 h)),a,fun k h=>AL (i k h) l⟩
def Mw(w:K)(n:Int):A V 94 #[.int Y n] w fun e w'=>e=t (.bool (decide (n<768)))/\w=w':=by
 go_enter func94,ntmps94;go_wp2;go_ret;trivial
section
variable {w:K}{Pd:Nat->Prop}{b be bp:Nat}{d:AA}{q:Int}{ek:Ab}{eg:Int->AA}{ev:Int->Ab}{pk:Ab}{pg:Int->AA}{pv:Int->Ab}{wi:Bool}{ds:DS}
def Ly(h:SMem w Pd b be bp d q ek eg ev pk pg pv wi ds):A V 84 #[Ax (Z ⟨b,0,H⟩)] w fun e w'=>e=t (.int Y 0)/\w=w':=by
 have a:=h.c5;clear h;go_enter func84,ntmps84;go_wp2;go_ret;exact⟨rfl,rfl⟩
def E5(h:SMem w Pd b be bp d q ek eg ev pk pg pv wi ds)(x:Bool):A V 43 #[Ax (Z ⟨b,0,H⟩),.bool x] w fun e w'=>e=t (.int Y (if wi=x then 0 else 17))/\w=w':=by
 have a:=wN (Ly h);have c:=h.c4;clear h;go_enter func43,ntmps43;go_wp2_with (go_at_call 84;refine Ad a.out ?_;rintro w' rfl)
 all_goals (cases wi <;> cases x <;> simp_all <;> go_ret <;> exact⟨rfl,rfl⟩)
def OQ(h:SMem w Pd b be bp d q ek eg ev pk pg pv wi ds)(n:Int):A V 93 #[Ax (Z ⟨b,0,H⟩),.int Y n] w fun e w'=>e=t (.bool (decide (0<=n/\n<ds.F.length)))/\w=w':=by
 have c:=wN (T7 h.dk);have g:=h.c0;clear h;by_cases f:0<=n
 . have a:decide (0<=n/\n<ds.F.length)=decide (n<ds.F.length):=by simp[f]
   rw[a];go_enter func93,ntmps93;go_wp2_with (go_at_call 134;refine Ad c.out ?_;rintro w' rfl)
   go_ret;exact⟨rfl,rfl⟩
 . have a:decide (0<=n/\n<ds.F.length)=S:=by simp[f]
   rw[a];go_enter func93,ntmps93;go_wp2_with (go_at_call 134;refine Ad c.out ?_;rintro w' rfl)
   go_ret;exact⟨rfl,rfl⟩
def Wh(h:SMem w Pd b be bp d q ek eg ev pk pg pv wi ds){n:Int}(j:(Lit.int Y n).wf=AQ):A V 145 #[Ax (Z ⟨b,0,H⟩),.int Y n] w fun e w'=>
 e=t (AT #[if n∈pk then pg n else if n∈ek then eg n else Aw H 0 0,.bool (decide (n∈pk) || decide (n∈ek))])/\w=w':=by
 have k:=h.c2;have l:=h.c3;have le:=h.me.look_ok j;have i:=h.mp.look_ok j;clear h;obtain⟨x,g⟩:=nm ((if n∈ek then eg n else Aw H 0 0));obtain⟨y,f⟩:=nm ((if n∈pk then pg n else Aw H 0 0));obtain⟨m,a⟩:=nm (decide (n∈ek));rw[<- g,<- a] at le;rw[<- f] at i;by_cases c:n∈pk
 . rw[AG c] at f |-
   rw[AK c] at i |-
   rw[<- f];clear c g a f le;go_enter func145,ntmps145;go_wp2;go_ret2;exact⟨rfl,rfl⟩
 . rw[AJ c]
   rw[AM c] at i |-
   rw[<- g,<- a];clear c g a f;go_enter func145,ntmps145;go_wp2;go_ret2;exact⟨rfl,rfl⟩
end
def rC:(V.info? 109).map (·.size)=Z 6:=Ac
def OF{b:Array BK}{rest:List BK}{o:BK}{a:Act}{w:K}{Q:Exit->Act->K->Prop}(m:o.guard=H)(x y:Operand)(D:o.op=.store 109 x y)
 (g:Nat) (E:a.eval x=Ax (Z ⟨g,0,H⟩)) (n p q r s t c d f i j k:AA) (F:a.eval y=BS #[c,d,f,i,j,k]) (u:c.oneCell'=AQ) (v:d.oneCell'=AQ) (z:f.oneCell'=AQ) (A:i.oneCell'=AQ) (B:j.oneCell'=AQ) (C:k.oneCell'=AQ)
 (l:w.heap[g]? =Z (Ay #[n,p,q,r,s,t] 109 (0,0)))
 (h:∀ w',Wrote w w' g->w'.heap[g]? =Z (Ay #[c,d,f,i,j,k] 109 (0,0))->Cj V b Q rest (a.put o.dst undef) w'):Cj V b Q (o :: rest) a w:=
 C8 m 109 x y D g #[c,d,f,i,j,k] E F 109 _ l rC rfl (by simp[u,v,z,A,B,C]) (h _ (Wrote.setRow _ _ _) (CJ _ _ _ _ _ _ l))
def nF(p:AA)(w:K)(e:Int)(he:e≠2):A V 131 #[p,.int Y e] w fun a w'=>a=t (.int Y e)/\w=w':=by
 go_enter func131,ntmps131;go_wp2;go_ret;exact⟨rfl,rfl⟩
section
variable {w:K}{Pd:Nat->Prop}{b be bp:Nat}{d:AA}{q:Int}{ek:Ab}{eg:Int->AA}{ev:Int->Ab}{pk:Ab}{pg:Int->AA}{pv:Int->Ab}{wi:Bool}{ds:DS}
def oP(h:SMem w Pd b be bp d q ek eg ev pk pg pv wi ds):A V 131 #[Ax (Z ⟨b,0,H⟩),.int Y 2] w fun e w'=>e=t (.int Y 2)/\Wrote w w' b/\w'.heap[b]? =Z (Ay #[Ax H,.int .u32 0,.map H,.map H,.bool S,.bool AQ] 109 (0,0)):=by
 have f:=h.hb;clear h;go_enter func131,ntmps131;go_wp2_with (refine OF rfl _ _ Aj b Aj _ _ _ _ _ _ _ _ _ _ _ _ Aj rfl rfl rfl rfl rfl rfl f ?_;intro g c a)
 go_ret;exact⟨rfl,c,a⟩
end
def SMem.setwi{w w':K}{Pd:Nat->Prop}{b be bp:Nat}{d:AA}{q:Int}{ek:Ab}{eg:Int->AA}{ev:Int->Ab}{pk:Ab}{pg:Int->AA}{pv:Int->Ab}{wi wi':Bool}{ds:DS}(h:SMem w Pd b be bp d q ek eg ev pk pg pv wi ds)
 (a:Wrote w w' b) (hb:w'.heap[b]? =Z (Ay #[d,.int .u32 q,.map (Z be),.map (Z bp),.bool wi',.bool S] 109 (0,0))):SMem w' Pd b be bp d q ek eg ev pk pg pv wi' ds:=
 ⟨hb,h.dk.same fun k i=>a.2.2.2.2 k fun e=>h.nd (e ▸ i),h.q0,h.me.keep (a.2.2.2.2 be h.nb.1),h.mp.keep (a.2.2.2.2 bp h.nb.2),h.ne,
   fun x c=>(h.re x c).keep fun g f=>a.2.2.2.2 g ((h.re x c).ne f h.hb Af),fun x c=>(h.rp x c).keep fun g f=>a.2.2.2.2 g ((h.rp x c).ne f h.hb Af)⟩
def T4{w:K}{b:Nat}{a c d f i g:AA}{T:Cn}(h:w.heap[b]? =Z (Ay #[a,c,d,f,i,g] T (0,0)))(x:AA):(w.setCell ⟨b,4,H⟩ x).heap[b]? =Z (Ay #[a,c,d,f,x,g] T (0,0)):=by
 rw[Bk w b 4 _ _ x h];rfl
section
variable {w:K}{P:Nat->Prop}{d p:AA}{X:XSt}
def dW(h:SInv w P d p X):A V 22 #[p] w (OA SInv w P d p (Qg X)):=by
 obtain⟨b,be,bp,Pd,q,ek,eg,ev,pk,pg,pv,rfl,f,c,m,o⟩:=h;unfold Qg OA;cases j:X.wi
 . have l:=wN (E5 f S)
   rw[j] at l;have s:=wN f.hb;have v:=f.c4;have y:=f.fr 4;rw[j] at v;refine A.mono (R:=fun e g=>e=t (.int Y 0)/\g=w.setCell ⟨b,4,H⟩ (.bool AQ)) ?_ ?_
   . clear f c m o j s
     go_enter func22,ntmps22;go_wp2_with (go_at_call 43;refine Ad l.out ?_;rintro g rfl)
     go_ret;exact⟨rfl,rfl⟩
   . rintro e g ⟨rfl,rfl⟩
     have a:=Wrote.setCell w b 4 (.bool AQ);have r:=f.setwi (wi':=AQ) a (T4 s.out _);refine⟨rfl,P,⟨b,be,bp,Pd,q,ek,eg,ev,pk,pg,pv,rfl,r,?_,m,fun k x=>by rw[a.2.2.2.1];exact o k x⟩,?_⟩
     . have n:=c.wi0 j
       refine { c with ok:={ c.ok with call:=fun _=>rfl },wi0:=fun e=>(by cases e),wi1:=fun _=>⟨n.symm,rfl,fun i _ _=>?_⟩ };rw[n,AJ Bu];rfl
     . exact⟨a.1,a.2.1,a.2.2.1,Nat.le_of_eq a.2.2.2.1.symm,fun k _ u=>⟨a.2.2.2.2 k fun e=>u (e ▸ m b (A8 (A4 rfl))),u⟩⟩
 . have l:=wN (E5 f S)
   rw[j] at l;refine A.mono (R:=fun e g=>e=t (.int Y 17)/\w=g) ?_ ?_
   . clear f c m o j
     go_enter func22,ntmps22;go_wp2_with (go_at_call 43;refine Ad l.out ?_;rintro g rfl)
     go_ret;exact⟨rfl,rfl⟩
   . rintro e g ⟨rfl,rfl⟩
     exact⟨rfl,P,⟨b,be,bp,Pd,q,ek,eg,ev,pk,pg,pv,rfl,f,c,m,o⟩,Chg.refl _ _⟩
def lk(h:SInv w P d p X){n:Int}(l:n<0\/(X.is.length:Int)<=n):A V 104 #[p,.int Y n] w fun e w'=>e=t (AT #[Aw H 0 0,.int Y 1])/\∃ g,SInv w' g d p X/\Chg P g w w':=by
 have i:=h;obtain⟨b,be,bp,Pd,q,ek,eg,ev,pk,pg,pv,rfl,c,a,m,k⟩:=h;have j:=wN (Ly c);have f:=wN (OQ c n);rw[AM (by have:=a.ok.lst.1;omega)] at f;refine A.mono (R:=fun e w'=>e=t (AT #[Aw H 0 0,.int Y 1])/\w=w') ?_ ?_
 . clear c a m k l i
   go_enter func104,ntmps104
   go_wp2_with (first|(go_at_call 84;refine Ad j.out ?_;rintro w' rfl)|(go_at_call 93;refine Ad f.out ?_;rintro w' rfl))
   go_ret2;exact⟨rfl,rfl⟩
 . rintro e w' ⟨rfl,rfl⟩
   exact⟨rfl,P,i,Chg.refl _ _⟩
def Uw(h:SInv w P d p X){n:Nat}(D:n<X.is.length):A V 104 #[p,.int Y n] w fun e w'=>∃ v l,e=t (AT #[v,.int Y 0])/\(∃ g cap T rest,Rw w' w.heap.size v l g cap T rest)/\(D7 n->l=(if X.wi=AQ then X.call else X.is).getD n [])/\I w.heap.size w w':=by
 have N:=h;obtain⟨b,be,bp,Pd,q,ek,eg,ev,pk,pg,pv,rfl,m,a,k,Q⟩:=h;have M:=a.ok.lst.1;have L:=a.n64.2;have F:(Lit.int Y (n:Int)).wf=AQ:=Ls Aa;have J:=wN (Ly m);have E:=wN (OQ m n);have z:=wN (Wh m F);rw[AK Aa] at E;have C:D7 n->(if X.wi=AQ then X.call else X.is).getD n []=if (n:Int)∈pk then pv n else if (n:Int)∈ek then ev n else X.base.getD n []:=fun k=>by
  have O:=a.isx n k D;cases U:X.wi
  . have h0:=a.wi0 U
    rw[AJ Af,O,h0,AJ Bu]
  . obtain⟨_,_,h2⟩:=a.wi1 U
    rw[AG rfl,h2 n k D,O]
 by_cases c:(n:Int)∈pk\/(n:Int)∈ek
 . obtain⟨v,G⟩:=nm ((if (n:Int)∈pk then pg n else if (n:Int)∈ek then eg n else Aw H 0 0))
   obtain⟨l,s⟩:=nm ((if (n:Int)∈pk then pv n else if (n:Int)∈ek then ev n else X.base.getD n []));have i:Blo w v l:=by
    rw[G,s];by_cases o:(n:Int)∈pk
    . rw[AG o,AG o];exact m.rp _ o
    . rw[AJ o,AJ o,AG (c.resolve_left o),AG (c.resolve_left o)];exact m.re _ (c.resolve_left o)
   have B:(decide ((n:Int)∈pk) || decide ((n:Int)∈ek))=AQ:=by simpa using c
   rw[<- G,B] at z;have KB:=wN (Ny i.1.bsl (by rw[i.2];decide));refine A.mono (R:=fun e w'=>∃ j,e=t (AT #[j,.int Y 0])/\OB w' w.heap.size j l/\I w.heap.size w w') ?_ ?_
   . clear m a k Q N C c G s i B F M L D
     go_enter func104,ntmps104
     go_wp2_with (first|(go_at_call 84;refine Ad J.out ?_;rintro w' rfl)|(go_at_call 93;refine Ad E.out ?_;rintro w' rfl)|(go_at_call 145;refine Ad z.out ?_;rintro w' rfl)|(go_at_call 95;refine KB.out.mono ?_;rintro e w' ⟨j,rfl,y,f⟩))
     go_ret2;exact⟨j,rfl,y,f⟩
   . rintro e w' ⟨j,rfl,y,f⟩
     exact⟨j,l,rfl,y.rw' i.2,fun k=>by rw[C k,s],f⟩
 . have B:(decide ((n:Int)∈pk) || decide ((n:Int)∈ek))=S:=by simpa using c
   rw[B] at z;have x:(n:Int) ∉ pk:=fun e=>c (A4 e)
   have u:(n:Int) ∉ ek:=fun e=>c (A8 e)
   rw[AJ x,AJ u] at z;have KR:=wN (iP m.dk n Aa a.ok.pow);have KM:=wN (fun(W:K)=>nF (Ax (Z ⟨b,0,H⟩)) W 0 Af);have c0:=m.c0;refine A.mono (R:=fun e w'=>∃ j,e=t (AT #[j,.int Y 0])/\(∃ g cap T rest,Rw w' w.heap.size j (X.ds.vis.getD n []) g cap T rest)/\I w.heap.size w w') ?_ ?_
   . clear m a k Q N C c B F M L D x u
     go_enter func104,ntmps104
     go_wp2_with (first|(go_at_call 84;refine Ad J.out ?_;rintro w' rfl)|(go_at_call 93;refine Ad E.out ?_;rintro w' rfl)|(go_at_call 145;refine Ad z.out ?_;rintro w' rfl)|(go_at_call 146;refine KR.out.mono ?_;rintro e w' ⟨j,rfl,r,f⟩)|(go_at_call 131;refine Ad (KM.out _) ?_;rintro a0 rfl))
     go_ret2;exact⟨_,rfl,⟨_,_,_,_,r⟩,f⟩
   . rintro e w' ⟨j,rfl,r,f⟩
     refine⟨j,_,rfl,r,fun k=>?_,f⟩;rw[C k,AJ x,AJ u];have hg:=a.ok.lst.glen;exact a.ok.lst.2.1.2 n k Aa
def Mt(h:SInv w P d p X){n:Nat}(c:n<X.is.length):A V 104 #[p,.int Y n] w fun e w'=>∃ v l,e=t (AT #[v,.int Y 0])/\BSl w' v l/\(D7 n->l=(if X.wi=AQ then X.call else X.is).getD n [])/\I w.heap.size w w':=
 (Uw h c).mono fun e w' ⟨v,l,he,⟨_,_,_,_,f⟩,b,a⟩=>⟨v,l,he,f.bsl,b,a⟩
def oO(h:SInv w P d p X){n:Nat}(o:n<X.is.length):A V 104 #[p,.int Y n] w fun e w'=>∃ v l,e=t (AT #[v,.int Y 0])/\BSl w' v l/\(D7 n->l=(if X.wi=AQ then X.call else X.is).getD n [])/\∃ f,SInv w' f d p X/\Chg P f w w':=by
 have m:=h;obtain⟨b,be,bp,Pd,q,ek,eg,ev,pk,pg,pv,rfl,s,r,u,c⟩:=m;exact(Mt h o).mono fun e w' ⟨v,l,he,g,i,a⟩=>⟨v,l,he,g,i,P,h.keep a.size fun k j=>a.block k (c k j),Chg.of_below a⟩
end
end
section
open Go.RowKit BM
def dG{w:K}{v:AA}{O:Ag}(s:OwSl w v O)(q:O.length=64){g:Nat}(T:g<12)(f:∀ j,j<64->decide ((O.getD j (0,0)).1=65535)=CZ (64*(g:Int)+j)):
 A V 261 #[J Y g,v] w fun e w'=>e=t (AY AQ)/\I w.heap.size w w':=by
 obtain⟨b,l,M,rfl,z,B⟩:=s.at Aa;have D:=wN B;have n:=wN s.1;have G:=wN f;have E:=wN q;rw[q];clear B s f q;go_enter func261,ntmps261;go_wp2;go_loopw [9] (fun i wr=>∃ k:Nat,k<=64/\i=J Y k/\I w.heap.size w wr) (fun i _=>64-(intOf i).toNat)
 case atStart=>exact⟨0,Aa,rfl,AP _ _⟩
 case round=>
  obtain⟨k,U,rfl,a⟩:=hrel;by_cases h:k<64
  . have c:=D.out k (by rw[E.out];exact h)
    have d:=G.out k h;have r:=n.out k;obtain⟨x,f⟩:=nm ((O.getD k (0,0)).1);obtain⟨y,C⟩:=nm ((O.getD k (0,0)).2);rw[<- f,<- C] at c r;rw[<- f] at d;have P:=(a.cell (p:=⟨b,l+k*2,H⟩) z).trans c.1;have Q:=(a.cell (p:=⟨b,l+k*2+1,H⟩) z).trans c.2;have S:(k:Int)<64:=Aa;have R:(g:Int)<12:=Aa;have m:=wN (a.trans ((AF wr (Ay #[J .u16 x,J .u16 y] 200)).mono a.size));obtain⟨F,o⟩:=nm (CZ (64*(g:Int)+k));rw[<- o] at d;have u:CZ ((g:Int)*64+k)=F:=(by rw[o,Int.mul_comm]);have L:=wN (Lh ((g:Int)*64+k) Aa F u);have N:(x==65535)=F:=d;clear f C c o u d;go_wp2;cases F
    all_goals
     go_quiet ((go_at_call 221;exact DN (L.out _)))
     go_wp2;go_roundw
     case rel=>exact⟨k+1,Aa,by go_num,Bd m.out _⟩
     case measure=>simp[intOf];omega
  . go_wp2
    go_ret;exact⟨rfl,a⟩
def XSt.cur(X:XSt):Ae:=if X.wi=AQ then X.call else X.is
def XOk.curLen{X:XSt}(h:XOk X):X.cur.length=X.is.length:=by
 unfold XSt.cur;split
 . next a=>exact h.call a
 . rfl
def ky{O:Ag}(a:O.length=64)(c:OwB O)(b:FQ O=AQ):XP (DO O)/\MB (DO O) 64=O:=by
 have e:=fq c a;refine⟨⟨Jf a,?_⟩,e⟩;rw[e];unfold FQ at b;rw[a] at b
 simpa using b
def eP{w:K}{P:Nat->Prop}{d p:AA}{X:XSt}{O:Ag}{k g:Nat}(h:SInv w P d p X)(hH:Has X.cur O k)(hO:OOk O k)(B:g<k):
 A V 239 #[p,J Y g] w fun e w'=>∃ v,e=t (AT #[v,J Y 0])/\OwR w' w.heap.size v (FI O g)/\I w.heap.size w w':=by
 have N:X.is.length=64*k:=by
  obtain⟨_,_,_,_,_,_,_,_,_,_,_,_,_,a2,_⟩:=h;rw[<- a2.ok.curLen];exact hH.len
 have z:∀ k,P k->k<w.heap.size:=by
  obtain⟨_,_,_,_,_,_,_,_,_,_,_,_,_,_,_,hl⟩:=h;exact hl
 have a1:=hO.k12;have y:=Jl B;obtain⟨gB,Z,gX⟩:=hO.gr B;have gL:=FP hO.len B;obtain⟨H,sh⟩:=nm (FI O g);obtain⟨D,hD⟩:=nm (Gz (g:Int) (CY H 64));obtain⟨E,hE⟩:=nm (DO H);have eD:X.cur.getD (Cp g) []=D:=by rw[hH.ds g B,hD,sh]
 have eE:X.cur.getD (Cp g+1) []=E:=by rw[hH.ow g B,hE,sh]
 rw[<- sh] at gB Z gX gL |-
 obtain⟨pB,pE⟩:=ky gL gB Z;rw[<- hE] at pB pE;have KD:Hid (∀ W:K,I w.heap.size w W->A V 104 #[p,J Y (Cp g:Nat)] W fun e w'=>∃ v,e=t (AT #[v,J Y 0])/\BSl w' v D/\I W.heap.size W w'):=wN fun W q=>(Mt (h.keep q.size fun i hi=>q.block i (z i hi)) (n:=Cp g) Aa).mono fun e w' ⟨v,l,a,b,c,f⟩=>⟨v,a,by rw[<- eD];exact(c y.2.1) ▸ b,f⟩
 have KE:Hid (∀ W:K,I w.heap.size w W->A V 104 #[p,J Y (((Cp g:Nat):Int)+1)] W fun e w'=>∃ v,e=t (AT #[v,J Y 0])/\BSl w' v E/\I W.heap.size W w'):=wN fun W q=>(Mt (h.keep q.size fun i hi=>q.block i (z i hi)) (n:=Cp g+1) Aa).mono fun e w' ⟨v,l,a,b,c,f⟩=>⟨v,a,by rw[<- eE];exact(c y.2.2) ▸ b,f⟩
 have KO:Hid (∀ (W:K) (v:AA),BSl W v E->A V 260 #[v] W fun e w'=>∃ u,e=t (AT #[u,J Y 0])/\OwR w' W.heap.size u H/\I W.heap.size W w'):=wN fun W v q=>(dV q).mono fun e w' C=>by
  rcases C with⟨_,u,a,b,c⟩| ⟨hn,_⟩
  . exact⟨u,a,pE ▸ b,c⟩
  . exact absurd pB hn
 have KL:=wN (fun(W:K) (v:AA) (hs:OwSl W v H)=>dG hs gL (show g<12 from Aa) gX);have KC:Hid (∀ (W:K) (v:AA),OwSl W v H->A V 262 #[J Y g,v] W fun e w'=>∃ u,e=t (AT #[u,J Y 0])/\OB w' W.heap.size u D/\I W.heap.size W w'):=wN fun W v hs=>(RI hs (g:Int) Aa Aa Z).mono fun e w' C=>by rw[hD];exact C
 have a0:Hid (∀ (W:K) (u v:AA),BSl W u D->BSl W v D->A V 152 #[u,v] W fun e w'=>e=t (AY AQ)/\W=w'):=wN fun W u v hu hv=>(Ep hu hv).mono fun e w' C=>by rw[AK rfl] at C;exact C
 have F:=wN (fun(W:K)=>Kq (g:Int) W);have G:=wN (fun(W:K)=>J9 (g:Int) W);rw[Tl (show g<12 from Aa)] at F;rw[Xu (show g<12 from Aa)] at G;clear h hH hO eD eE hD hE sh gB Z gX gL pB pE y z N a1 B;go_enter func239,ntmps239
 go_wp2_with (first|(go_at_call 242;refine Ad (F.out _) ?_;rintro w' rfl)|(go_at_call 243;refine Ad (G.out _) ?_;rintro w' rfl)|(go_at_call 104;(with_reducible refine(KD.out _ (AP _ _)).mono ?_);rintro e w1 ⟨vd,rfl,a4,r⟩)|(go_at_call 104;(with_reducible refine(KE.out _ r).mono ?_);rintro e w2 ⟨vp,rfl,a5,L⟩;have R:=a4.below L;have j:=r.trans (L.mono r.size))|(go_at_call 260;refine(KO.out _ _ a5).mono ?_;rintro e w3 ⟨u,rfl,hu,M⟩;have S:=R.below M;have m:=j.trans (M.mono j.size))|(go_at_call 261;refine Ad (KL.out _ _ hu.sl) ?_;rintro w4 s;have T:=S.below s;have Q:=hu.below s;have o:=m.trans (s.mono m.size))|(go_at_call 262;refine(KC.out _ _ Q.sl).mono ?_;rintro e w5 ⟨vw,rfl,a6,x⟩;have U:=T.below x;have a3:=Q.below x;have gp:=o.trans (x.mono o.size))|(go_at_call 152;refine Ad (a0.out _ _ _ U a6.bsl) ?_;rintro w6 rfl))
 go_ret2;exact⟨u,rfl,a3.more j.size,gp⟩
def Lm(f:Nat->Bool)(c L:Nat):List Bool:=(BE L).map fun i=>if i<c then f i else S
def N3(f:Nat->Bool)(c L:Nat):(Lm f c L).length=L:=by simp[Lm]
def g_(f:Nat->Bool)(c L:Nat):(Lm f c L).set c (f c)=Lm f (c+1) L:=by
 apply Bt (by simp[Lm]);intro i a b;simp only[Lm,Eh,Cu,Co];by_cases e:c=i
 . subst e;rw[AG rfl,AG Aa]
 . rw[AJ e]
   by_cases h:i<c
   . rw[AG h,AG Aa]
   . rw[AJ h,AJ Aa]
def bW(f:Nat->Bool)(L:Nat):Lm f 0 L=AI L S:=by
 rw[List.eq_replicate_iff];refine⟨N3 f 0 L,fun b a=>?_⟩;obtain⟨i,_,rfl⟩:=Ce.1 a;rw[AJ Aa]
def eS(O:Ag)(L:Nat):Lm (ES O) L L=CY O L:=by
 unfold Lm CY;apply Cr;intro i a;rw[AG (Bq.1 a)]
section
variable {w:K}{P:Nat->Prop}{d p:AA}{X:XSt}{O:Ag}{k:Nat}
def SInv.lt(h:SInv w P d p X):∀ k,P k->k<w.heap.size:=by
 obtain⟨_,_,_,_,_,_,_,_,_,_,_,_,_,_,_,a⟩:=h;exact a
def SInv.low(h:SInv w P d p X){W:K}(hb:I w.heap.size w W):SInv W P d p X:=h.keep hb.size fun i a=>hb.block i (h.lt i a)
def Sp{g:Nat}(h:SInv w P d p X)(n:Has X.cur O k)(l:OOk O k)(m:g<k):
 A V 239 #[p,J Y g] w fun e w'=>∃ b cap,e=t (AT #[Aw (Z ⟨b,0,H⟩) 64 cap,J Y 0])/\w.heap.size<=b/\b<w'.heap.size/\OwR w' w.heap.size (Aw (Z ⟨b,0,H⟩) 64 cap) (FI O g)/\
  (∀ j,j<64->w'.cell? ⟨b,j*2,H⟩=Z (J .u16 ((FI O g).getD j (0,0)).1)/\w'.cell? ⟨b,j*2+1,H⟩=Z (J .u16 ((FI O g).getD j (0,0)).2))/\I w.heap.size w w':=by
 refine(eP h n l m).mono fun e w' ⟨v,he,c,o⟩=>?_
 have r:=FP l.len m;obtain⟨b,cap,rfl⟩:=rK c 64 r Af;obtain⟨u,s,i,a,f,q⟩:=c.sl.at Aa
 injection a with a _ _
 injection a with a
 injection a with a e2
 subst a;subst e2;exact⟨b,cap,he,(BY c.2 b rfl).1,f,c,fun j x=>by have:=q j Aa;rwa [BC] at this,o⟩
def UD(h:SInv w P d p X)(hH:Has X.cur O k)(hO:OOk O k){m:Nat}(a5:1<=m)(hm:m<=k):
 A V 234 #[p,J Y (64*(m:Int))] w fun e w'=>∃ q r,e=t (AT #[Ax (Z ⟨q,0,H⟩),J Y 0])/\BRow w' q r (CY O (64*m))/\I w.heap.size w w':=by
 have a8:=hO.k12;have KF:=wN (fun(W:K)=>GK m a5 Aa W);have KG:=wN (fun(W:K)=>Kf m a5 Aa W);have KN:=wN (ic (64*m) Aa w);rw[show((64*m:Nat):Int)=64*(m:Int) from Aa] at KN
 have KR:Hid (∀ (W:K),I w.heap.size w W->∀ g,g<m->A V 239 #[p,J Y g] W fun e w'=>∃ b o,e=t (AT #[Aw (Z ⟨b,0,H⟩) 64 o,J Y 0])/\W.heap.size<=b/\b<w'.heap.size/\
  (∀ j,j<64->w'.cell? ⟨b,j*2,H⟩=Z (J .u16 ((FI O g).getD j (0,0)).1)/\w'.cell? ⟨b,j*2+1,H⟩=Z (J .u16 ((FI O g).getD j (0,0)).2))/\I W.heap.size W w'):=wN fun W hb g hg=>(Sp (h.low hb) hH hO (show g<k from Aa)).mono fun e w' ⟨b,o,h1,h2,h3,_,h4,h5⟩=>⟨b,o,h1,h2,h3,h4,h5⟩
 have HU:Hid (∀ g j x y,j<64->g<m->x=((FI O g).getD j (0,0)).1->y=((FI O g).getD j (0,0)).2->Qz x y=!ES O (64*g+j)):=wN fun g j x y hj hg ex ey=>by
  have e1:=Kb O g hj;have hf:=hO.frm (64*g+j) Aa;rw[e1] at ex ey;unfold Ns at hf;rw[<- ex,<- ey] at hf;unfold ES;rw[<- ex];by_cases M:x=0
  . rw[M] at hf |-
    rw[Ps hf];rfl
  . have b1:(x==0)=S:=by simpa using M
    rw[Qz,b1,AK M];rfl
 have b3:m<=12:=Aa;clear h hH hO a8 hm;go_enter func234,ntmps234
 go_wp2_with (first|(go_at_call 205;refine Ad (KF.out _) ?_;rintro w' rfl)|(go_at_call 220;refine Ad (KG.out _) ?_;rintro w' rfl)|(go_at_call 253;refine Ad KN.out ?_;rintro w1 ⟨N,a1⟩))
 obtain⟨r,hr⟩:=nm w.heap.size;rw[<- hr] at N |-
 obtain⟨q,hq⟩:=nm (r+1);rw[<- hq] at N |-
 have b7:r<q:=Aa;have b8:w.heap.size<=r:=Aa;obtain⟨L,hL⟩:=nm (64*m);rw[<- hL] at N;rw[<- bW (ES O)] at N;have B:=wN hL;have R:Hid (BRow w1 q r (Lm (ES O) (64*0) L)):=wN N;have uC:I w.heap.size w w1:=a1;clear hr hq N hL a1;go_loopw [19] (fun i wr=>∃ g:Nat,g<=m/\i=J Y g/\Hid (BRow wr q r (Lm (ES O) (64*g) L))/\I w.heap.size w wr) (fun i _=>m-(intOf i).toNat)
 case atStart=>exact⟨0,Aa,rfl,R,uC⟩
 case round=>
  obtain⟨g,hg,rfl,c,n⟩:=hrel;clear R uC;by_cases a4:g<m
  . have eg:(g:Int)<12:=by omega
    have b4:(g:Int)<(m:Int):=Aa;have a0:=wN (KR.out wr n g a4);have f:=c.out.lt;have l:=wN f;clear f;go_wp2_with (go_at_call 239;refine a0.out.mono ?_;rintro e w2 ⟨b,o,rfl,b5,a9,hc,E⟩)
    have Lu:=c.out.below E l.out.1 l.out.2;have u:=n.trans (E.mono n.size);have b6:q<b:=(by have:=l.out.1;omega);have b2:r<b:=Aa;have HC:=wN hc;have T:Hid (BRow w2 q r (Lm (ES O) (64*g+0) L)):=wN Lu;clear Lu hc E n c l a0;go_loopw [33] (fun i wr=>∃ j:Nat,j<=64/\i=J Y j/\Hid (BRow wr q r (Lm (ES O) (64*g+j) L))/\Hid (wr.heap[b]? =w2.heap[b]?)/\I w.heap.size w wr) (fun i _=>64-(intOf i).toNat)
    case atStart=>exact⟨0,Aa,rfl,T,wN rfl,u⟩
    case round=>
     obtain⟨j,hj,rfl,c,HE,G⟩:=hrel;clear T u;by_cases a3:j<64
     . have s:=HC.out j a3
       have Up:=HU.out g j _ _ a3 a4 rfl rfl;obtain⟨x,M⟩:=nm (((FI O g).getD j (0,0)).1);obtain⟨y,hy⟩:=nm (((FI O g).getD j (0,0)).2);rw[<- M,<- hy] at s;rw[<- M,<- hy] at Up;have c1:=(Bi (a:=⟨b,j*2,H⟩) (w:=w2) HE.out).trans s.1;have c2:=(Bi (a:=⟨b,j*2+1,H⟩) (w:=w2) HE.out).trans s.2;have ej:(j:Int)<64:=Aa;have f:=c.out.lt;obtain⟨U,hU⟩:=nm (ES O (64*g+j));rw[<- hU] at Up;have Kk:=g_ (ES O) (64*g+j) L;rw[<- hU] at Kk;have Q:=wN Kk;have F:=AF wr (Ay #[J .u16 x,J .u16 y] 200);have a7:=wN (Lg x y (!U) Up (wr.alloc (Ay #[J .u16 x,J .u16 y] 200)));have KS:Hid (∀ (W:K),BRow W q r (Lm (ES O) (64*g+j) L)->A V 254 #[Ax (Z ⟨q,0,H⟩),J Y ((g:Int)*64+j),AY U] W fun e w'=>e=t (J Y 0)/\BRow w' q r (Lm (ES O) (64*g+(j+1)) L)/\Wrote W w' r):=wN fun W hr=>by
        have:=Po hr (64*g+j) (by rw[N3,B.out];omega) U;rw[Q.out] at this;rw[show((64*g+j:Nat):Int)=(g:Int)*64+j from Aa] at this;exact this
       have D:=wN (c.out.below F f.1 f.2);clear M hy s Up hU Kk Q;cases U
       all_goals
        go_wp2_with (first|(go_at_call 213;refine Ad a7.out ?_;rintro w4 a2;have WL:=D.out.below a2 (by have:=f.1;simp;omega) (by have:=f.2;simp;omega);have v:=F.trans (a2.mono F.size))|(go_at_call 254;refine Ad (KS.out _ WL) ?_;rintro w5 ⟨uD,a6⟩))
        go_roundw
        case rel=>
         refine⟨j+1,Aa,by go_num,uD,?_,(G.trans (v.mono G.size)).trans (a6.below Aa)⟩;have b0:b<wr.heap.size:=by
          have:=(Au.1 (HE.out.trans (Array.getElem?_eq_getElem a9))).1;exact this
         exact(a6.2.2.2.2 _ Aa).trans ((v.block b b0).trans HE.out)
        case measure=>simp[intOf];omega
     . obtain rfl:j=64:=by omega
       have C:Hid (BRow wr q r (Lm (ES O) (64*(g+1)) L)):=wN (by rw[show 64*(g+1)=64*g+64 from Aa];exact c.out);go_wp2;go_roundw
       case rel=>exact⟨g+1,Aa,by go_num,C,G⟩
       case measure=>simp[intOf];omega
  . obtain rfl:g=m:=by omega
    have z:=c.out;rw[<- B.out,eS] at z;go_wp2;go_ret2;exact⟨q,r,rfl,by rw[<- B.out];exact z,n⟩
end
end
section
open Go.RowKit
def TY(n lo hi:Int)(w:K):A V 219 #[J Y n,J Y lo,J Y hi] w fun e w'=>e=t (AY (decide (lo<=n/\n<=hi)))/\w=w':=by
 by_cases a:lo<=n
 . by_cases b:n<=hi
   . rw[AK ⟨a,b⟩]
     go_enter func219,ntmps219;go_wp2;go_ret;exact⟨rfl,rfl⟩
   . rw[AM (fun h=>b h.2)]
     go_enter func219,ntmps219;go_wp2;go_ret;exact⟨rfl,rfl⟩
 . rw[AM (fun h=>a h.1)]
   go_enter func219,ntmps219;go_wp2;go_ret;exact⟨rfl,rfl⟩
def DH(n lo hi:Int)(B:Bool)(h:decide (lo<=n/\n<=hi)=B)(w:K):A V 219 #[J Y n,J Y lo,J Y hi] w fun e w'=>e=t (AY B)/\w=w':=by
 rw[<- h];exact TY n lo hi w
def Hq(b:Int)(a:b<=9223372036854775807)(B:Bool)(h:C7 b=B)(w:K):A V 205 #[J Y b] w fun e w'=>e=t (AY B)/\w=w':=by
 rw[<- h];exact GO b a w
def H6(b:Int)(a:b<=9223372036854775807)(B:Bool)(h:C7 b=B)(w:K):A V 110 #[J Y b] w fun e w'=>e=t (AY B)/\w=w':=by
 rw[<- h];exact J5 b a w
def DD{b:Int}(h:C7 b=AQ):0<=b/\b<=768/\MD b=b / 64:=by
 have:=Ba h;exact⟨Aa,Aa,by unfold MD;rw[AG h]⟩
def Lz(b:Int)(h:C7 b=AQ)(G:Int)(a:G=b / 64)(w:K):A V 220 #[J Y b] w fun e w'=>e=t (J Y G)/\w=w':=by
 have:=UB b (by have:=DD h;omega) w;rw[(DD h).2.2] at this;rw[a];exact this
def YZ(c d b tg a g f:Int):Bool:=C7 tg && (decide (b<tg) && (decide (c<=a/\a<=d) && ((g==0) && (f==0))))
def Rk(b tg a d c:Int):Bool:=C7 tg && (decide (b<tg) && (decide (b / 64<=a) && (decide (a<=tg / 64) && ((d==0) && (c==0)))))
def PT(b tg c d a:Int):Bool:=(tg==0) && (decide (1<=d) && (decide (d<=47) && (decide (0<=a) && (decide (a<=b) && (decide (0<=c) && (decide (c<=b)))))))
def mU(b tg c d a:Int):Rk b tg c d a=wb b tg c d a:=by simp[Rk,wb,Bool.decide_and,Bool.and_assoc]
def n8(b tg c d a:Int):PT b tg c d a=lT b tg c d a:=by simp[PT,lT,Bool.decide_and,Bool.and_assoc]
def mn(b tg d f c k l m n o p:Int)(w:K)  :A V 206 #[BS #[J Y b,J Y 0,J Y tg,J Y d,J Y f,J Y c,J Y k,J Y l,J Y m,J Y n,J Y o,J Y p]] w fun e w'=>e=t (AY (ac tg d f c))/\I w.heap.size w w':=by
 have a:ac tg d f c=((tg==0) && ((d==0) && ((f==0) && ((c==0))))):=rfl;rcases g:(tg==0) with _|_
 case' «false»=>
  replace a:ac tg d f c=S:=by rw[a,g] <;> rfl
 case' «true»=>
  rw[g,AS] at a;rcases h:(d==0) with _|_
  case' «false»=>
   replace a:ac tg d f c=S:=by rw[a,h] <;> rfl
  case' «true»=>
   rw[h,AS] at a;rcases i:(f==0) with _|_
   case' «false»=>
    replace a:ac tg d f c=S:=by rw[a,i] <;> rfl
   case' «true»=>
    rw[i,AS] at a;rcases j:(c==0) with _|_
    case' «false»=>
     replace a:ac tg d f c=S:=by rw[a,j] <;> rfl
    case' «true»=>
     rw[j] at a
 all_goals
  rw[a];clear a;go_enter func206,ntmps206;go_wp2;go_ret;exact⟨rfl,AF _ _⟩
def nS(b tg d f c k l m n o p:Int)(w:K)  :A V 157 #[BS #[J Y b,J Y 0,J Y tg,J Y d,J Y f,J Y c,J Y k,J Y l,J Y m,J Y n,J Y o,J Y p]] w fun e w'=>e=t (AY (ac tg d f c))/\I w.heap.size w w':=by
 have a:ac tg d f c=((tg==0) && ((d==0) && ((f==0) && ((c==0))))):=rfl;rcases g:(tg==0) with _|_
 case' «false»=>
  replace a:ac tg d f c=S:=by rw[a,g] <;> rfl
 case' «true»=>
  rw[g,AS] at a;rcases h:(d==0) with _|_
  case' «false»=>
   replace a:ac tg d f c=S:=by rw[a,h] <;> rfl
  case' «true»=>
   rw[h,AS] at a;rcases i:(f==0) with _|_
   case' «false»=>
    replace a:ac tg d f c=S:=by rw[a,i] <;> rfl
   case' «true»=>
    rw[i,AS] at a;rcases j:(c==0) with _|_
    case' «false»=>
     replace a:ac tg d f c=S:=by rw[a,j] <;> rfl
    case' «true»=>
     rw[j] at a
 all_goals
  rw[a];clear a;go_enter func157,ntmps157;go_wp2;go_ret;exact⟨rfl,AF _ _⟩
def gS(b tg a g f p q r s u v:Int)(w:K)(hb:C7 b=AQ)(x:tg<=9223372036854775807)(d h:Int)(j:d=b / 64)(G:h=tg / 64):A V 206 #[BS #[J Y b,J Y 1,J Y tg,J Y a,J Y g,J Y f,J Y p,J Y q,J Y r,J Y s,J Y u,J Y v]] w fun e w'=>e=t (AY (YZ d h b tg a g f))/\I w.heap.size w w':=by
 have c:YZ d h b tg a g f=((C7 tg) && ((decide (b<tg)) && ((decide (d<=a/\a<=h)) && ((g==0) && ((f==0)))))):=rfl;rcases i:(C7 tg) with _|_
 case' «false»=>
  replace c:YZ d h b tg a g f=S:=by rw[c,i] <;> rfl
  have y:=wN (Hq tg x S i);clear i
 case' «true»=>
  rw[i,AS] at c;have n:=wN (Lz tg i h G);have y:=wN (Hq tg x AQ i);clear i;rcases o:(decide (b<tg)) with _|_
  case' «false»=>
   replace c:YZ d h b tg a g f=S:=by rw[c,o] <;> rfl
   have L:¬ b<tg:=BL o
  case' «true»=>
   rw[o,AS] at c;have L:b<tg:=Ba o;rcases l:(decide (d<=a/\a<=h)) with _|_
   case' «false»=>
    replace c:YZ d h b tg a g f=S:=by rw[c,l] <;> rfl
    have z:=wN (Lz b hb d j);have B:=wN (n.out);have C:=wN (DH a (d) (h) S l);clear l
   case' «true»=>
    rw[l,AS] at c;have z:=wN (Lz b hb d j);have B:=wN (n.out);have C:=wN (DH a (d) (h) AQ l);clear l;rcases D:(g==0) with _|_
    case' «false»=>
     replace c:YZ d h b tg a g f=S:=by rw[c,D] <;> rfl
    case' «true»=>
     rw[D,AS] at c;rcases E:(f==0) with _|_
     case' «false»=>
      replace c:YZ d h b tg a g f=S:=by rw[c,E] <;> rfl
     case' «true»=>
      rw[E] at c
 all_goals
  rw[c];clear c;clear hb x j G;go_enter func206,ntmps206;go_wp2;have F:=AF w (Ay #[J Y b,J Y 1,J Y tg,J Y a,J Y g,J Y f,J Y p,J Y q,J Y r,J Y s,J Y u,J Y v] 135);have k:=AC w (Ay #[J Y b,J Y 1,J Y tg,J Y a,J Y g,J Y f,J Y p,J Y q,J Y r,J Y s,J Y u,J Y v] 135);generalize w.alloc (Ay #[J Y b,J Y 1,J Y tg,J Y a,J Y g,J Y f,J Y p,J Y q,J Y r,J Y s,J Y u,J Y v] 135)=m at F k |-
  have M:m.cell? ⟨w.heap.size,0,H⟩=Z (J Y b):=by rw[AD _ _ _ _ _ _ k];rfl
  have N:m.cell? ⟨w.heap.size,2,H⟩=Z (J Y tg):=by rw[AD _ _ _ _ _ _ k];rfl
  have O:m.cell? ⟨w.heap.size,3,H⟩=Z (J Y a):=by rw[AD _ _ _ _ _ _ k];rfl
  have P:m.cell? ⟨w.heap.size,4,H⟩=Z (J Y g):=by rw[AD _ _ _ _ _ _ k];rfl
  have Q:m.cell? ⟨w.heap.size,5,H⟩=Z (J Y f):=by rw[AD _ _ _ _ _ _ k];rfl
  clear k;go_quiet (first|(go_at_call 205;with_reducible refine DN (y.out _))|(go_at_call 220;with_reducible refine DN (z.out _))|(go_at_call 220;with_reducible refine DN (B.out _))|(go_at_call 219;with_reducible refine DN (C.out _)))
  go_wp2;go_ret;exact⟨rfl,Bd F _⟩
def nx(b tg d f c r s u v x y:Int)(w:K)(hb:C7 b=AQ)(i:tg<=9223372036854775807):A V 206 #[BS #[J Y b,J Y 2,J Y tg,J Y d,J Y f,J Y c,J Y r,J Y s,J Y u,J Y v,J Y x,J Y y]] w fun e w'=>e=t (AY (WY b tg d f c))/\I w.heap.size w w':=by
 have o:0<=b:=(DD hb).1;have p:b<=768:=(DD hb).2.1;have a:WY b tg d f c=((C7 tg) && ((decide (tg<b)) && ((d==0) && ((f==0) && ((c==0)))))):=rfl;rcases g:(C7 tg) with _|_
 case' «false»=>
  replace a:WY b tg d f c=S:=by rw[a,g] <;> rfl
  have j:=wN (Hq tg i S g);clear g
 case' «true»=>
  rw[g,AS] at a;have q:0<=tg:=(DD g).1;have z:tg<=768:=(DD g).2.1;have j:=wN (Hq tg i AQ g);clear g;rcases h:(decide (tg<b)) with _|_
  case' «false»=>
   replace a:WY b tg d f c=S:=by rw[a,h] <;> rfl
   have n:¬ tg<b:=BL h
  case' «true»=>
   rw[h,AS] at a;have n:tg<b:=Ba h;rcases k:(d==0) with _|_
   case' «false»=>
    replace a:WY b tg d f c=S:=by rw[a,k] <;> rfl
   case' «true»=>
    rw[k,AS] at a;rcases l:(f==0) with _|_
    case' «false»=>
     replace a:WY b tg d f c=S:=by rw[a,l] <;> rfl
    case' «true»=>
     rw[l,AS] at a;rcases m:(c==0) with _|_
     case' «false»=>
      replace a:WY b tg d f c=S:=by rw[a,m] <;> rfl
     case' «true»=>
      rw[m] at a
 all_goals
  rw[a];clear a;clear hb i;go_enter func206,ntmps206;go_wp2_with (first|(go_at_call 205;with_reducible refine Ad (j.out _) ?_;rintro w' rfl))
  go_ret;exact⟨rfl,AF _ _⟩
def nv(b tg d f c o p q r s u:Int)(w:K)(hb:C7 b=AQ)(n:tg<=9223372036854775807):A V 206 #[BS #[J Y b,J Y 3,J Y tg,J Y d,J Y f,J Y c,J Y o,J Y p,J Y q,J Y r,J Y s,J Y u]] w fun e w'=>e=t (AY (lT b tg d f c))/\I w.heap.size w w':=by
 have a:lT b tg d f c=((tg==0) && ((decide (1<=f/\f<=47)) && ((decide (0<=c/\c<=b)) && ((decide (0<=d/\d<=b)))))):=rfl;rcases m:(tg==0) with _|_
 case' «false»=>
  replace a:lT b tg d f c=S:=by rw[a,m] <;> rfl
 case' «true»=>
  rw[m,AS] at a;rcases g:(decide (1<=f/\f<=47)) with _|_
  case' «false»=>
   replace a:lT b tg d f c=S:=by rw[a,g] <;> rfl
   have j:=wN (DH f (1) (47) S g);clear g
  case' «true»=>
   rw[g,AS] at a;have j:=wN (DH f (1) (47) AQ g);clear g;rcases h:(decide (0<=c/\c<=b)) with _|_
   case' «false»=>
    replace a:lT b tg d f c=S:=by rw[a,h] <;> rfl
    have k:=wN (DH c (0) (b) S h);clear h
   case' «true»=>
    rw[h,AS] at a;have k:=wN (DH c (0) (b) AQ h);clear h;rcases i:(decide (0<=d/\d<=b)) with _|_
    case' «false»=>
     replace a:lT b tg d f c=S:=by rw[a,i] <;> rfl
     have l:=wN (DH d (0) (b) S i);clear i
    case' «true»=>
     rw[i] at a;have l:=wN (DH d (0) (b) AQ i);clear i
 all_goals
  rw[a];clear a;clear hb n;go_enter func206,ntmps206;go_wp2_with (first|(go_at_call 219;with_reducible refine Ad (j.out _) ?_;rintro w' rfl)|(go_at_call 219;with_reducible refine Ad (k.out _) ?_;rintro w' rfl)|(go_at_call 219;with_reducible refine Ad (l.out _) ?_;rintro w' rfl))
  go_ret;exact⟨rfl,AF _ _⟩
def nR(b tg c f d v x y z B C:Int)(w:K)(hb:C7 b=AQ)(k:tg<=9223372036854775807):A V 157 #[BS #[J Y b,J Y 1,J Y tg,J Y c,J Y f,J Y d,J Y v,J Y x,J Y y,J Y z,J Y B,J Y C]] w fun e w'=>e=t (AY (Rk b tg c f d))/\I w.heap.size w w':=by
 have r:0<=b:=(DD hb).1;have s:b<=768:=(DD hb).2.1;have a:Rk b tg c f d=((C7 tg) && ((decide (b<tg)) && ((decide (b / 64<=c)) && ((decide (c<=tg / 64)) && ((f==0) && ((d==0))))))):=rfl;rcases g:(C7 tg) with _|_
 case' «false»=>
  replace a:Rk b tg c f d=S:=by rw[a,g] <;> rfl
  have l:=wN (H6 tg k S g);clear g
 case' «true»=>
  rw[g,AS] at a;have u:0<=tg:=(DD g).1;have D:tg<=768:=(DD g).2.1;have l:=wN (H6 tg k AQ g);clear g;rcases h:(decide (b<tg)) with _|_
  case' «false»=>
   replace a:Rk b tg c f d=S:=by rw[a,h] <;> rfl
   have o:¬ b<tg:=BL h
  case' «true»=>
   rw[h,AS] at a;have o:b<tg:=Ba h;rcases i:(decide (b / 64<=c)) with _|_
   case' «false»=>
    replace a:Rk b tg c f d=S:=by rw[a,i] <;> rfl
    have p:¬ b / 64<=c:=BL i
   case' «true»=>
    rw[i,AS] at a;have p:b / 64<=c:=Ba i;rcases j:(decide (c<=tg / 64)) with _|_
    case' «false»=>
     replace a:Rk b tg c f d=S:=by rw[a,j] <;> rfl
     have q:¬ c<=tg / 64:=BL j
    case' «true»=>
     rw[j,AS] at a;have q:c<=tg / 64:=Ba j;rcases m:(f==0) with _|_
     case' «false»=>
      replace a:Rk b tg c f d=S:=by rw[a,m] <;> rfl
     case' «true»=>
      rw[m,AS] at a;rcases n:(d==0) with _|_
      case' «false»=>
       replace a:Rk b tg c f d=S:=by rw[a,n] <;> rfl
      case' «true»=>
       rw[n] at a
 all_goals
  rw[a];clear a;clear hb k;go_enter func157,ntmps157;go_wp2_with (first|(go_at_call 110;with_reducible refine Ad (l.out _) ?_;rintro w' rfl))
  go_ret;exact⟨rfl,AF _ _⟩
def mo(b tg d f c r s u v x y:Int)(w:K)(hb:C7 b=AQ)(i:tg<=9223372036854775807):A V 157 #[BS #[J Y b,J Y 2,J Y tg,J Y d,J Y f,J Y c,J Y r,J Y s,J Y u,J Y v,J Y x,J Y y]] w fun e w'=>e=t (AY (WY b tg d f c))/\I w.heap.size w w':=by
 have o:0<=b:=(DD hb).1;have p:b<=768:=(DD hb).2.1;have a:WY b tg d f c=((C7 tg) && ((decide (tg<b)) && ((d==0) && ((f==0) && ((c==0)))))):=rfl;rcases g:(C7 tg) with _|_
 case' «false»=>
  replace a:WY b tg d f c=S:=by rw[a,g] <;> rfl
  have j:=wN (H6 tg i S g);clear g
 case' «true»=>
  rw[g,AS] at a;have q:0<=tg:=(DD g).1;have z:tg<=768:=(DD g).2.1;have j:=wN (H6 tg i AQ g);clear g;rcases h:(decide (tg<b)) with _|_
  case' «false»=>
   replace a:WY b tg d f c=S:=by rw[a,h] <;> rfl
   have n:¬ tg<b:=BL h
  case' «true»=>
   rw[h,AS] at a;have n:tg<b:=Ba h;rcases k:(d==0) with _|_
   case' «false»=>
    replace a:WY b tg d f c=S:=by rw[a,k] <;> rfl
   case' «true»=>
    rw[k,AS] at a;rcases l:(f==0) with _|_
    case' «false»=>
     replace a:WY b tg d f c=S:=by rw[a,l] <;> rfl
    case' «true»=>
     rw[l,AS] at a;rcases m:(c==0) with _|_
     case' «false»=>
      replace a:WY b tg d f c=S:=by rw[a,m] <;> rfl
     case' «true»=>
      rw[m] at a
 all_goals
  rw[a];clear a;clear hb i;go_enter func157,ntmps157;go_wp2_with (first|(go_at_call 110;with_reducible refine Ad (j.out _) ?_;rintro w' rfl))
  go_ret;exact⟨rfl,AF _ _⟩
def ni(b tg d f c y z B C D E:Int)(w:K)(hb:C7 b=AQ)(x:tg<=9223372036854775807):A V 157 #[BS #[J Y b,J Y 3,J Y tg,J Y d,J Y f,J Y c,J Y y,J Y z,J Y B,J Y C,J Y D,J Y E]] w fun e w'=>e=t (AY (PT b tg d f c))/\I w.heap.size w w':=by
 have u:0<=b:=(DD hb).1;have v:b<=768:=(DD hb).2.1;have a:PT b tg d f c=((tg==0) && ((decide (1<=f)) && ((decide (f<=47)) && ((decide (0<=c)) && ((decide (c<=b)) && ((decide (0<=d)) && ((decide (d<=b))))))))):=rfl;rcases m:(tg==0) with _|_
 case' «false»=>
  replace a:PT b tg d f c=S:=by rw[a,m] <;> rfl
 case' «true»=>
  rw[m,AS] at a;rcases g:(decide (1<=f)) with _|_
  case' «false»=>
   replace a:PT b tg d f c=S:=by rw[a,g] <;> rfl
   have n:¬ 1<=f:=BL g
  case' «true»=>
   rw[g,AS] at a;have n:1<=f:=Ba g;rcases h:(decide (f<=47)) with _|_
   case' «false»=>
    replace a:PT b tg d f c=S:=by rw[a,h] <;> rfl
    have o:¬ f<=47:=BL h
   case' «true»=>
    rw[h,AS] at a;have o:f<=47:=Ba h;rcases i:(decide (0<=c)) with _|_
    case' «false»=>
     replace a:PT b tg d f c=S:=by rw[a,i] <;> rfl
     have p:¬ 0<=c:=BL i
    case' «true»=>
     rw[i,AS] at a;have p:0<=c:=Ba i;rcases j:(decide (c<=b)) with _|_
     case' «false»=>
      replace a:PT b tg d f c=S:=by rw[a,j] <;> rfl
      have q:¬ c<=b:=BL j
     case' «true»=>
      rw[j,AS] at a;have q:c<=b:=Ba j;rcases k:(decide (0<=d)) with _|_
      case' «false»=>
       replace a:PT b tg d f c=S:=by rw[a,k] <;> rfl
       have r:¬ 0<=d:=BL k
      case' «true»=>
       rw[k,AS] at a;have r:0<=d:=Ba k;rcases l:(decide (d<=b)) with _|_
       case' «false»=>
        replace a:PT b tg d f c=S:=by rw[a,l] <;> rfl
        have s:¬ d<=b:=BL l
       case' «true»=>
        rw[l] at a;have s:d<=b:=Ba l
 all_goals
  rw[a];clear a;clear hb x;go_enter func157,ntmps157;go_wp2;go_ret;exact⟨rfl,AF _ _⟩
def m9(st:Int)(b tg h i g j k l m n o:Int)(w:K)(a:st≠0)(c:st≠1)(d:st≠2)(f:st≠3):A V 206 #[BS #[J Y b,J Y st,J Y tg,J Y h,J Y i,J Y g,J Y j,J Y k,J Y l,J Y m,J Y n,J Y o]] w fun e w'=>e=t (AY S)/\I w.heap.size w w':=by
 have p:(st==0)=S:=by simp[a]
 have q:(st==1)=S:=by simp[c]
 have r:(st==2)=S:=by simp[d]
 have s:(st==3)=S:=by simp[f]
 clear a c d f;go_enter func206,ntmps206;go_wp2;go_ret;exact⟨rfl,AF _ _⟩
def mZ(st:Int)(b tg h i g j k l m n o:Int)(w:K)(a:st≠0)(c:st≠1)(d:st≠2)(f:st≠3):A V 157 #[BS #[J Y b,J Y st,J Y tg,J Y h,J Y i,J Y g,J Y j,J Y k,J Y l,J Y m,J Y n,J Y o]] w fun e w'=>e=t (AY S)/\I w.heap.size w w':=by
 have p:(st==0)=S:=by simp[a]
 have q:(st==1)=S:=by simp[c]
 have r:(st==2)=S:=by simp[d]
 have s:(st==3)=S:=by simp[f]
 clear a c d f;go_enter func157,ntmps157;go_wp2;go_ret;exact⟨rfl,AF _ _⟩
def Gp(L:Ab):AA:=BS (L.map (J Y)).toArray
def Cm(L:Ab)(T:Cn):Obj:=Ay (L.map (J Y)).toArray T (0,0)
def Ib{W:K}{g:Nat}{L:Ab}{T:Cn}(h:W.heap[g]? =Z (Cm L T))(k:Nat)(a:k<L.length):W.cell? ⟨g,k,H⟩=Z (J Y (num L k)):=by
 rw[AD _ _ _ _ _ _ h];simp[num,a]
def RP(L:Ab):Prop:=∀ i,num L i<=9223372036854775807
def nI:(V.info? 3).map (fun i=>(i.zero,i.size,i.bytes))=Z (Z (J Y 0),1,8):=Ac
def QL:V.arrayLen 133=6:=Ac
def Si:V.elem 133=3:=Ac
def Qw(W:K)(a:Addr)(j:Nat)(l:j<=6):(Instr.sliceAt 133 (Ax (Z a)) H (Z (J Y (j:Int))) H).run V W=.ok (Aw (Z a) j 6) W:=by
 obtain⟨i,b,h,c,k⟩:=Bs nI;rw[run_sliceAt_array_h W 133 a (by rw[QL,Si];exact underlying133) Y (j:Int) Aa (by rw[QL];omega),QL,Si];obtain⟨d,f,g⟩:=a;simp[sizeOf,typeInfo,b,c,slicedAt,Addr.add]
def dQ{L:Ab}(hL:L.length=12)(hT:RP L)(P:0<=num L 0)(Q:num L 0<=768)(w:K):
 A V 207 #[Gp L] w fun e w'=>e=t (AY (GJ L))/\I w.heap.size w w':=by
 have a:=AF w (Cm L 135);have hh:=AC w (Cm L 135);have M:=fun k hk=>Ib hh k hk
 obtain⟨u,c⟩:=nm (w.alloc (Cm L 135));rw[<- c] at a M;have v:=wN M;have F:=wN c;have o:=wN hT;clear M hh hT
 match L,hL with
 |[b,st,tg,cu,io,ba,t0,t1,t2,t3,t4,t5],_=>
  obtain⟨L,p⟩:=nm ([b,st,tg,cu,io,ba,t0,t1,t2,t3,t4,t5]);rw[<- p] at v F o;have D:=wN p;have N:num L 0=b:=by rw[p];rfl
  have Km:w.alloc (Ay #[J Y b,J Y st,J Y tg,J Y cu,J Y io,J Y ba,J Y t0,J Y t1,J Y t2,J Y t3,J Y t4,J Y t5] 135)=u:=by
   rw[c];rfl
  show A V 207 #[BS #[J Y b,J Y st,J Y tg,J Y cu,J Y io,J Y ba,J Y t0,J Y t1,J Y t2,J Y t3,J Y t4,J Y t5]] w fun e w'=>e=t (AY (GJ [b,st,tg,cu,io,ba,t0,t1,t2,t3,t4,t5]))/\I w.heap.size w w'
  rw[<- p];have H2:=wN Km;change 0<=b at P;change b<=768 at Q;clear p c Km;go_enter func207,ntmps207;go_wp2;rw[H2.out];have uF:∀ j:Nat,j<6->(Instr.index 133 (BS #[J Y t0,J Y t1,J Y t2,J Y t3,J Y t4,J Y t5]) (J Y (j:Int))).run V u=.ok (J Y (num L (6+j))) u:=by
   intro j hj;rw[D.out];have:j=0\/j=1\/j=2\/j=3\/j=4\/j=5:=Aa;rcases this with rfl|rfl|rfl|rfl|rfl|rfl <;> simp[Instr.index,Ck underlying133,asIntOf,go_sem,num]
  have C:=wN uF;have d:∀ j:Nat,j<=6->_:=fun j=>Qw u ⟨w.heap.size,6,H⟩ j
  have E:=wN d;clear d;clear uF
  go_loop [9] (fun i=>∃ j:Nat,j<=6/\i=J Y j/\Hid (Lt L j=AQ)) (fun i=>6-(intOf i).toNat)
  case atStart=>exact⟨0,Aa,rfl,rfl⟩
  case round=>
   obtain⟨j,hj,rfl,HF⟩:=hrel;by_cases q:j<6
   . have Ro:=C.out j q
     have X:=o.out (6+j);have aY:=v.out 0 (by rw[D.out];simp);rw[N] at aY;obtain⟨x,U⟩:=nm (num L (6+j));rw[<- U] at Ro X;have g:=wN U;clear U;have Z:¬ Zq L j->GJ L=S:=fun h=>by
      cases hf:GJ L
      . rfl
      . exact absurd (Ld hf j q) h
     have f:=wN Z;clear Z;rcases l:decide (0<=x/\x<=b-1) with _|_
     . have r:=f.out (fun h=>BL l (by rw[g.out,<- N];exact h.1))
       have s:=wN (DH x 0 (b-1) S l);clear l;go_wp2_with (first|(go_at_call 219;with_reducible refine Ad (s.out _) ?_;rintro w' rfl))
       go_ret;exact⟨by first|rfl|(rw [r];rfl),a⟩
     . have s:=wN (DH x 0 (b-1) AQ l)
       have z:=wN (Ba l);clear l;rcases n:CZ x with _|_
       . have G:=wN (Lh x X S n)
         have B:=wN n;have d:=E.out j Aa;clear n;go_wp2_with (first|(go_at_call 219;with_reducible refine Ad (s.out _) ?_;rintro w' rfl)|(go_at_call 221;with_reducible refine Ad (G.out _) ?_;rintro w' rfl))
         clear Ro d aY
         go_loop [27] (fun i=>∃ k:Nat,k<=j/\i=J Y k/\Hid (∀ m,m<k->num L (6+m)≠num L (6+j))) (fun i=>j-(intOf i).toNat)
         case atStart=>exact⟨0,Aa,rfl,fun m hm=>absurd hm (Bm _)⟩
         case round=>
          obtain⟨k,hk,rfl,HK⟩:=hrel;by_cases T:k<j
          . have R:=v.out (6+k) (by rw[D.out];simp;omega)
            obtain⟨y,W⟩:=nm (num L (6+k));rw[<- W] at R;have HY:=wN W;clear W;have a0:(k:Int)<(j:Int):=Aa;rcases O:(y==x) with _|_
            . go_wp2
              go_round
              case rel=>
               refine⟨k+1,Aa,by go_num,fun m hm=>?_⟩;by_cases e:m=k
               . subst e;rw[<- HY.out,<- g.out];intro e;rw[e] at O;simp at O
               . exact HK.out m Aa
              case measure=>simp[intOf];omega
            . have r:=f.out (fun h=>h.2.2 k T (by rw[<- HY.out,<- g.out];simpa using O))
              go_wp2;go_ret;exact⟨by first|rfl|(rw [r];rfl),a⟩
          . go_wp2
            go_round
            case rel=>
             obtain rfl:k=j:=Aa;refine⟨k+1,Aa,by go_num,?_⟩;show Lt L (k+1)=AQ
             exact Pm HF.out ⟨by rw[<- g.out,N];exact z.out,by rw[<- g.out];exact B.out,HK.out⟩
            case measure=>simp[intOf];omega
       . have r:=f.out (fun h=>by have:=h.2.1;rw[<- g.out,n] at this;cases this)
         have G:=wN (Lh x X AQ n);clear n;go_wp2_with (first|(go_at_call 219;with_reducible refine Ad (s.out _) ?_;rintro w' rfl)|(go_at_call 221;with_reducible refine Ad (G.out _) ?_;rintro w' rfl))
         go_ret;exact⟨by first|rfl|(rw [r];rfl),a⟩
   . go_wp2
     go_ret;obtain rfl:j=6:=Aa;exact⟨by rw[GJ,HF.out];rfl,a⟩
def dE{L:Ab}(h:L.length=12)(i:RP L)(hb:C7 (num L 0)=AQ)(w:K):
 A V 206 #[Gp L] w fun e w'=>e=t (AY (GA L))/\I w.heap.size w w':=by
 match L,h with
 |[b,st,tg,cu,io,ba,t0,t1,t2,t3,t4,t5],_=>
  have g:tg<=9223372036854775807:=i 2;show A V 206 #[BS #[J Y b,J Y st,J Y tg,J Y cu,J Y io,J Y ba,J Y t0,J Y t1,J Y t2,J Y t3,J Y t4,J Y t5]] w fun e w'=>e=t (AY (rh b st tg cu io ba))/\I w.heap.size w w'
  unfold rh;by_cases a:st=0
  . rw[AG a,a];exact mn b tg cu io ba t0 t1 t2 t3 t4 t5 w
  rw[AJ a];by_cases c:st=1
  . rw[AG c,c];exact gS b tg cu io ba t0 t1 t2 t3 t4 t5 w hb g _ _ rfl rfl
  rw[AJ c];by_cases d:st=2
  . rw[AG d,d];exact nx b tg cu io ba t0 t1 t2 t3 t4 t5 w hb g
  rw[AJ d];by_cases f:st=3
  . rw[AG f,f];exact nv b tg cu io ba t0 t1 t2 t3 t4 t5 w hb g
  rw[AJ f];exact m9 st b tg cu io ba t0 t1 t2 t3 t4 t5 w a c d f
def Xx{L:Ab}(h:L.length=12)(i:RP L)(hb:C7 (num L 0)=AQ)(w:K):
 A V 157 #[Gp L] w fun e w'=>e=t (AY (GA L))/\I w.heap.size w w':=by
 match L,h with
 |[b,st,tg,cu,io,ba,t0,t1,t2,t3,t4,t5],_=>
  have g:tg<=9223372036854775807:=i 2;show A V 157 #[BS #[J Y b,J Y st,J Y tg,J Y cu,J Y io,J Y ba,J Y t0,J Y t1,J Y t2,J Y t3,J Y t4,J Y t5]] w fun e w'=>e=t (AY (rh b st tg cu io ba))/\I w.heap.size w w'
  unfold rh;by_cases a:st=0
  . rw[AG a,a];exact nS b tg cu io ba t0 t1 t2 t3 t4 t5 w
  rw[AJ a];by_cases c:st=1
  . rw[AG c,c,<- mU];exact nR b tg cu io ba t0 t1 t2 t3 t4 t5 w hb g
  rw[AJ c];by_cases d:st=2
  . rw[AG d,d];exact mo b tg cu io ba t0 t1 t2 t3 t4 t5 w hb g
  rw[AJ d];by_cases f:st=3
  . rw[AG f,f,<- n8];exact ni b tg cu io ba t0 t1 t2 t3 t4 t5 w hb g
  rw[AJ f];exact mZ st b tg cu io ba t0 t1 t2 t3 t4 t5 w a c d f
def fD{L:Ab}(a:L.length=12)(b:RP L)(hb:C7 (num L 0)=AQ)(B:Bool)(h:GA L=B)(w:K):
 A V 206 #[Gp L] w fun e w'=>e=t (AY B)/\I w.heap.size w w':=by rw[<- h];exact dE a b hb w
def Xv{L:Ab}(a:L.length=12)(b:RP L)(hb:C7 (num L 0)=AQ)(B:Bool)(h:GA L=B)(w:K):
 A V 157 #[Gp L] w fun e w'=>e=t (AY B)/\I w.heap.size w w':=by rw[<- h];exact Xx a b hb w
def c_{L:Ab}(a:L.length=12)(b:RP L)(hb:C7 (num L 0)=AQ)(B:Bool)(h:GJ L=B)(w:K):
 A V 207 #[Gp L] w fun e w'=>e=t (AY B)/\I w.heap.size w w':=by
 rw[<- h];exact dQ a b (DD hb).1 (DD hb).2.1 w
def IQ{W:K}{g:Nat}{T:Cn}{b st tg c d a f i j k l m:Int}(h:W.heap[g]? =Z (Cm [b,st,tg,c,d,a,f,i,j,k,l,m] T)):
 (W.cell? ⟨g,0,H⟩=Z (J Y b)/\W.cell? ⟨g,1,H⟩=Z (J Y st)/\W.cell? ⟨g,2,H⟩=Z (J Y tg)/\W.cell? ⟨g,3,H⟩=Z (J Y c))/\
 (W.cell? ⟨g,4,H⟩=Z (J Y d)/\W.cell? ⟨g,5,H⟩=Z (J Y a)/\W.cell? ⟨g,6,H⟩=Z (J Y f)/\W.cell? ⟨g,7,H⟩=Z (J Y i))/\
 W.cell? ⟨g,8,H⟩=Z (J Y j)/\W.cell? ⟨g,9,H⟩=Z (J Y k)/\W.cell? ⟨g,10,H⟩=Z (J Y l)/\W.cell? ⟨g,11,H⟩=Z (J Y m):=by
 refine⟨⟨?_,?_,?_,?_⟩,⟨?_,?_,?_,?_⟩,?_,?_,?_,?_⟩ <;> (rw [AD _ _ _ _ _ _ h];rfl)
def YR{L:Ab}(u:L.length=12)(k:RP L)(w:K):
 A V 186 #[Gp L] w fun e w'=>e=t (AY (DU L))/\I w.heap.size w w':=by
 have a:C7 (num L 0)=S\/C7 (num L 0)=AQ:=by cases C7 (num L 0) <;> simp
 have g:GA L=S\/GA L=AQ:=by cases GA L <;> simp
 have i:∃ B,GJ L=B:=⟨_,rfl⟩;have j:=u;have p:=k 0;have l:∀ B,C7 (num L 0)=B->_:=fun B h=>Hq (num L 0) p B h
 have m:∀ (n:C7 (num L 0)=AQ) B,GA L=B->_:=fun n B h=>fD u k n B h
 have r:∀ (n:C7 (num L 0)=AQ) B,GJ L=B->_:=fun n B h=>c_ u k n B h
 have v:DU L=(C7 (num L 0) && (GA L && GJ L)):=rfl;have c:=AF w (Cm L 135);have o:=AC w (Cm L 135);obtain⟨E,d⟩:=nm (w.alloc (Cm L 135));rw[<- d] at c o
 match L,u with
 |[b,st,tg,cu,io,ba,t0,t1,t2,t3,t4,t5],_=>
  have s:w.alloc (Ay #[J Y b,J Y st,J Y tg,J Y cu,J Y io,J Y ba,J Y t0,J Y t1,J Y t2,J Y t3,J Y t4,J Y t5] 135)=E:=by
   rw[d];rfl
  have z:=wN s;have C:=wN o;show A V 186 #[BS #[J Y b,J Y st,J Y tg,J Y cu,J Y io,J Y ba,J Y t0,J Y t1,J Y t2,J Y t3,J Y t4,J Y t5]] w fun e w'=>e=t (AY (DU _))/\I w.heap.size w w'
  rw[v];change _<=_ at p;rcases a with a|a
  . rw[a]
    have q:Hid (∀ w,A V 205 #[J Y b] w fun e w'=>e=t (AY S)/\w=w'):=wN (l _ a);clear l m r v a g i o d s k p j;go_enter func186,ntmps186;go_wp2_with (first|(go_at_call 205;with_reducible refine Ad (q.out _) ?_;rintro w' rfl))
    go_ret;exact⟨rfl,AF _ _⟩
  . rw[a,AS]
    have q:Hid (∀ w,A V 205 #[J Y b] w fun e w'=>e=t (AY AQ)/\w=w'):=wN (l _ a);rcases g with g|g
    . rw[g,Bool.false_and]
      have x:Hid (∀ w,A V 206 #[BS #[J Y b,J Y st,J Y tg,J Y cu,J Y io,J Y ba,J Y t0,J Y t1,J Y t2,J Y t3,J Y t4,J Y t5]] w fun e w'=>e=t (AY S)/\I w.heap.size w w'):=wN (m a _ g);clear l m r v a g i o d s k p j;go_enter func186,ntmps186
      go_wp2_with (first|(go_at_call 205;with_reducible refine Ad (q.out _) ?_;rintro w' rfl)|(go_at_call 206;rw[z.out];refine Ad (x.out _) ?_;rintro F f))
      go_ret;exact⟨rfl,c.trans (f.mono c.size)⟩
    . rw[g,AS]
      obtain⟨B,i⟩:=i;rw[i];have x:Hid (∀ w,A V 206 #[BS #[J Y b,J Y st,J Y tg,J Y cu,J Y io,J Y ba,J Y t0,J Y t1,J Y t2,J Y t3,J Y t4,J Y t5]] w fun e w'=>e=t (AY AQ)/\I w.heap.size w w'):=wN (m a _ g);have D:Hid (∀ w,A V 207 #[BS #[J Y b,J Y st,J Y tg,J Y cu,J Y io,J Y ba,J Y t0,J Y t1,J Y t2,J Y t3,J Y t4,J Y t5]] w fun e w'=>e=t (AY B)/\I w.heap.size w w'):=wN (r a _ i);clear l m r v a g i o d s k p j;go_enter func186,ntmps186
      go_wp2_with (first
       |(go_at_call 205;with_reducible refine Ad (q.out _) ?_;rintro w' rfl)
       |(go_at_call 206;rw[z.out];refine Ad (x.out _) ?_;rintro F f
         have G:=IQ ((f.block _ (Au.1 C.out).1).trans C.out))|(go_at_call 207;refine Ad (D.out _) ?_;rintro H y))
      go_ret;exact⟨rfl,(c.trans (f.mono c.size)).trans (y.mono (AU c.size f.size))⟩
def Oz(g n:Nat):List AA:=(BE n).flatMap fun i=>[Ax (Z ⟨g,i,H⟩),J Y (Ig i:Int)]
def NE(g n:Nat):Oz g (n+1)=Oz g n ++ [Ax (Z ⟨g,n,H⟩),J Y (Ig n:Int)]:=by
 simp[Oz,GW]
def It(g n:Nat):(Oz g n).length=n*2:=by
 induction n with
 |zero=>rfl
 |succ n ih=>rw[NE,AO,ih];simp;omega
def UQ(g:Nat):∀ n i,i<n->(Oz g n)[i*2]? =Z (Ax (Z ⟨g,i,H⟩))/\(Oz g n)[i*2+1]? =Z (J Y (Ig i:Int))
 |0,i,h=>absurd h (Bm _)
 |n+1,i,h=>by
  have a:=It g n;rw[NE];by_cases e:i<n
  . have:=UQ g n i e
    rw[BT Aa,BT Aa];exact this
  . obtain rfl:i=n:=by omega
    rw[B5 Aa,B5 Aa,a];exact⟨Ai,by rw[show i*2+1-i*2=1 from Aa];rfl⟩
def qL:(V.info? 282).map (fun i=>(i.zero,i.size,i.bytes))=Z (Z (BS #[Ax H,J Y 0]),2,16):=Ac
def Fld(w:K)(B g:Nat)(v:AA)(n:Nat):Prop:=w.ownsRow B 282 2 v n (Oz g n)
def Fld.below{w w':K}{B g:Nat}{v:AA}{n:Nat}(h:Fld w B g v n)(hb:I w.heap.size w w'):Fld w' B g v n:=by
 refine⟨h.1,?_⟩;rcases h.2 with h| ⟨k,a,b,f,d,c,r⟩
 . exact A4 h
 . exact A8 ⟨k,a,b,f,d,by rw[hb.block k (Au.1 c).1];exact c,r⟩
def MN(w1:K)(g n:Nat)(N:6<=n)(M:n<12){d:Array BK}{rest:List BK}{o:BK}{a:Act}{Q:Exit->Act->K->Prop}(q:o.guard=H)(s y:Operand)
 (F:o.op=.call { callee:=.builtin .append,args:=#[s,y],argTypes:=#[278,278] })
 (B:Nat) (v:AA) (G:a.eval s=v) (c:Fld w1 B g v n) (L:a.eval y=Aw (Z ⟨w1.heap.size,0,H⟩) 1 1) (D:B<=w1.heap.size)
 (h:∀ v' w',Fld w' B g v' (n+1)->I B w1 w'->Cj V d Q rest (a.put o.dst v') w'):Cj V d Q (o :: rest) a (w1.alloc (Ay #[Ax (Z ⟨g,n,H⟩),J Y 2] 282)):=by
 obtain⟨i,t,w,x,z⟩:=Bs qL;have b:I w1.heap.size w1 (w1.alloc (Ay #[Ax (Z ⟨g,n,H⟩),J Y 2] 282)):=AF _ _;have r:(w1.alloc (Ay #[Ax (Z ⟨g,n,H⟩),J Y 2] 282)).heap[w1.heap.size]? =Z (Ay #[Ax (Z ⟨g,n,H⟩),J Y 2] 282 (0,0)):=AC w1 _;have f:Ig n=2:=AJ Aa;have l:=c.below b;refine FU _ q s y 278 F B 282 i _ 2 16 underlying278 t w x z rfl Af v n _ G l ⟨w1.heap.size,0,H⟩ 1 1 [Ax (Z ⟨g,n,H⟩),J Y 2] L rfl ?_ ?_ (by simp only[maxLen];omega) Aa Ak fun v' w' A C _=>?_
 . intro j u m
   have O:j<2:=by simpa using (Bo.1 m).1
   rw[Cd,BC,AD _ _ _ _ _ _ r,<- m];have:j=0\/j=1:=Aa;rcases this with rfl|rfl <;> rfl
 . intro u p
   simp at p;rcases p with rfl|rfl <;> rfl
 . refine h v' w' ?_ ((b.mono D).trans ((AP _ _).grown C Ak fun k E=>(BY l k E).1))
   rw[Fld,NE,f];exact A
def Pf(w:K)(g:Nat):A V 185 #[Ax (Z ⟨g,0,H⟩)] w fun e w'=>∃ v,e=t v/\Fld w' w.heap.size g v 12/\I w.heap.size w w':=by
 go_enter func185,ntmps185;go_wp2;go_still_tail 24,Ac
 go_wp2;have o:Oz g 6=[Ax (Z ⟨g,0,H⟩),J Y 2,Ax (Z ⟨g,1,H⟩),J Y 1,Ax (Z ⟨g,2,H⟩),J Y 2,Ax (Z ⟨g,3,H⟩),J Y 2,Ax (Z ⟨g,4,H⟩),J Y 2,Ax (Z ⟨g,5,H⟩),J Y 2]:=rfl;rw[show(#[AA.pointer (Z ⟨g,0,H⟩),J Y 2,Ax (Z ⟨g,1,H⟩),J Y 1,Ax (Z ⟨g,2,H⟩),J Y 2,Ax (Z ⟨g,3,H⟩),J Y 2,Ax (Z ⟨g,4,H⟩),J Y 2,Ax (Z ⟨g,5,H⟩),J Y 2]:Array AA)=(Oz g 6).toArray from rfl];have n:=AC w (Ay (Oz g 6).toArray 282);have m:=AF w (Ay (Oz g 6).toArray 282);obtain⟨l,a⟩:=nm ((w.alloc (Ay (Oz g 6).toArray 282)).drew);have c:I w.heap.size w l:=by rw[a];exact Bd m 1
 have d:Fld l w.heap.size g (Aw (Z ⟨w.heap.size,0,H⟩) 6 6) 6:=by
  refine⟨It g 6,A8 ⟨w.heap.size,6,_,rfl,AE _,by rw[a];exact n,AE _,Af,by simp[It],?_⟩⟩;have:=It g 6;rw[A2 (by simp[this])]
 rw[<- a];clear n m a o;go_loopw [3,30] (fun u i wr=>∃ j:Nat,j<=6/\i=J Y j/\Hid (Fld wr w.heap.size g u (6+j))/\I w.heap.size w wr) (fun _ i _=>6-(intOf i).toNat)
 case atStart=>exact⟨0,Aa,rfl,d,c⟩
 case round=>
  obtain⟨j,r,rfl,k,b⟩:=hrel;clear d c;by_cases p:j<6
  . have q:(j:Int)<6:=by omega
    go_wp2_with (at_builtin;refine MN wr g (6+j) Aa Aa rfl _ _ rfl w.heap.size _ rfl k.out rfl b.size ?_;intro s x h f)
    go_roundw
    case rel=>exact⟨j+1,Aa,by go_num,h,b.trans f⟩
    case measure=>simp[intOf];omega
  . go_wp2
    go_ret;obtain rfl:j=6:=Aa;exact⟨_,rfl,k.out,b⟩
def Fld.shape{w:K}{B g:Nat}{v:AA}{n:Nat}(h:Fld w B g v n)(q:0<n):∃ gf cap,v=Aw (Z ⟨gf,0,H⟩) n cap/\gf<w.heap.size/\B<=gf/\n<=cap/\
 ∀ j,j<n->w.cell? ⟨gf,j*2,H⟩=Z (Ax (Z ⟨g,j,H⟩))/\w.cell? ⟨gf,j*2+1,H⟩=Z (J Y (Ig j:Int)):=by
 rcases h.2 with⟨_,o⟩| ⟨gf,cap,f,m,i,c,d,p,r,l⟩
 . omega
 . refine⟨gf,cap,m,(Au.1 c).1,i,d,fun j k=>?_⟩
   obtain⟨a,b⟩:=UQ g n j k;rw[<- l] at a b;rw[AD _ _ _ _ _ _ c,AD _ _ _ _ _ _ c];rw[Bb] at a b;rw[AG Aa] at a b;exact⟨by simpa using a,by simpa using b⟩
def QV(j:Nat):1<=Ig j/\Ig j<=2:=by unfold Ig;split <;> omega
def PK{L:Ab}(a:L.length=12)(b:RP L)(B:Bool)(h:DU L=B)(w:K):
 A V 186 #[Gp L] w fun e w'=>e=t (AY B)/\I w.heap.size w w':=by rw[<- h];exact YR a b w
def kj(b st tg z D v E F G M N O:Int)(L:Ab)(s:L=[b,st,tg,z,D,v,E,F,G,M,N,O])(hT:RP L)(a4:b<=768)(w:K)
 (hF:∀ w,A V 110 #[J Y b] w fun e w'=>e=t (AY AQ)/\w=w')
 (hS:∀ w,A V 157 #[BS #[J Y b,J Y st,J Y tg,J Y z,J Y D,J Y v,J Y E,J Y F,J Y G,J Y M,J Y N,J Y O]] w fun e w'=>e=t (AY AQ)/\I w.heap.size w w'):
 A V 117 #[BS #[J Y b,J Y st,J Y tg,J Y z,J Y D,J Y v,J Y E,J Y F,J Y G,J Y M,J Y N,J Y O]] w fun e w'=>e=t (AY (GJ L))/\I w.heap.size w w':=by
 have p:=AF w (Cm L 156);have hh:=AC w (Cm L 156);obtain⟨W1,n⟩:=nm (w.alloc (Cm L 156));rw[<- n] at p hh;have Km:w.alloc (Ay #[J Y b,J Y st,J Y tg,J Y z,J Y D,J Y v,J Y E,J Y F,J Y G,J Y M,J Y N,J Y O] 156)=W1:=by rw[n,s];rfl
 have eb:num L 0=b:=by rw[s];rfl
 have l:L.length=12:=by rw[s];rfl
 have H2:=wN Km;have HH:=wN hh;have HL:=wN s;have T:=wN l;have U:=wN hT;have K0:=wN hF;have K1:=wN hS;clear hF hS hh n Km hT s l;go_enter func117,ntmps117
 go_wp2_with (first|(go_at_call 110;with_reducible refine Ad (K0.out _) ?_;rintro w' rfl)|(go_at_call 157;rw[H2.out];refine Ad (K1.out _) ?_;rintro w2 o))
 have a:I w.heap.size w w2:=p.trans (o.mono p.size);have u:w2.heap[w.heap.size]? =Z (Cm L 156):=(o.block _ (Au.1 HH.out).1).trans HH.out;have ZG:=fun k r=>Ib u k r
 rw[T.out] at ZG;have c:=wN ZG;clear ZG u o;go_loopw [14] (fun i wr=>∃ j:Nat,j<=6/\i=J Y j/\Hid (Lt L j=AQ)/\I w.heap.size w wr/\Hid (∀ k,k<12->wr.cell? ⟨w.heap.size,k,H⟩=Z (J Y (num L k)))) (fun i _=>6-(intOf i).toNat)
 case atStart=>exact⟨0,Aa,rfl,rfl,a,c⟩
 case round=>
  clear c a;obtain⟨j,hj,rfl,HF,a,c⟩:=hrel;by_cases a2:j<6
  . have X:=c.out (6+j) Aa
    have sj:=U.out (6+j);have aY:=c.out 0 Aa;rw[eb] at aY;obtain⟨x,hx⟩:=nm (num L (6+j));rw[<- hx] at X sj;have g:=wN hx;clear hx;have C3:¬ Zq L j->GJ L=S:=fun h=>by
     cases hf:GJ L
     . rfl
     . exact absurd (Ld hf j a2) h
    have f:=wN C3;clear C3;have ej:(j:Int)<6:=Aa;rcases B:decide (x<0) with _|_
    . have P:=wN (BL B)
      rcases C:decide (b<=x) with _|_
      . have Q:=wN (BL C)
        rcases d:CZ x with _|_
        . have W:=wN (Ks x sj S d)
          have R:=wN d;clear d;go_wp2;go_quiet ((go_at_call 154;exact DN (W.out _)))
          go_wp2;clear B C aY;go_loopw [39] (fun i wr=>∃ k:Nat,k<=j/\i=J Y k/\Hid (∀ m,m<k->num L (6+m)≠num L (6+j))/\I w.heap.size w wr/\Hid (∀ k,k<12->wr.cell? ⟨w.heap.size,k,H⟩=Z (J Y (num L k)))) (fun i _=>j-(intOf i).toNat)
          case atStart=>exact⟨0,Aa,rfl,fun m hm=>absurd hm (Bm _),Bd a _,fun k r=>c.out k r⟩
          case round=>
           clear c a X;obtain⟨k,r,rfl,HK,a,c⟩:=hrel;by_cases a1:k<j
           . have a0:=c.out (6+k) Aa
             have X:wr.cell? ⟨w.heap.size,6+j,H⟩=Z (J Y x):=(by rw[g.out];exact c.out (6+j) Aa);obtain⟨y,hy⟩:=nm (num L (6+k));rw[<- hy] at a0;have HY:=wN hy;clear hy;have a3:(k:Int)<(j:Int):=Aa;have ek:(k:Int)<6:=Aa;rcases d:(y==x) with _|_
             . go_wp2
               go_quiet (fail)
               go_wp2;go_roundw
               case rel=>
                refine⟨k+1,Aa,by go_num,fun m hm=>?_,Bd a _,fun k r=>c.out k r⟩;by_cases e:m=k
                . subst e;rw[<- HY.out,<- g.out];intro e;rw[e] at d;simp at d
                . exact HK.out m Aa
               case measure=>simp[intOf];omega
             . have q:=f.out (fun h=>h.2.2 k a1 (by rw[<- HY.out,<- g.out];simpa using d))
               go_wp2;go_quiet (fail)
               go_wp2;go_ret;exact⟨by first|rfl|(rw [q];rfl),Bd a _⟩
           . go_wp2
             go_roundw
             case rel=>
              obtain rfl:k=j:=Aa;refine⟨k+1,Aa,by go_num,?_,a,c⟩;show Lt L (k+1)=AQ
              exact Pm HF.out ⟨⟨by rw[<- g.out];have:=P.out;omega,by rw[<- g.out,eb];have:=Q.out;omega⟩,by rw[<- g.out];exact R.out,HK.out⟩
             case measure=>simp[intOf];omega
        . have q:=f.out (fun h=>by have:=h.2.1;rw[<- g.out,d] at this;cases this)
          have W:=wN (Ks x sj AQ d);clear d;go_wp2;go_quiet ((go_at_call 154;exact DN (W.out _)))
          go_wp2;go_ret;exact⟨by first|rfl|(rw [q];rfl),Bd a _⟩
      . have q:=f.out (fun h=>by have:=h.1.2;rw[<- g.out,eb] at this;have:=Ba C;omega)
        have g2:b<=x:=Ba C;go_wp2;go_quiet (fail)
        go_wp2;go_ret;exact⟨by first|rfl|(rw [q];rfl),Bd a _⟩
    . have q:=f.out (fun h=>by have:=h.1.1;rw[<- g.out] at this;have:=Ba B;omega)
      have g1:x<0:=Ba B;go_wp2;go_quiet (fail)
      go_wp2;go_ret;exact⟨by first|rfl|(rw [q];rfl),Bd a _⟩
  . go_wp2
    go_ret;obtain rfl:j=6:=Aa;exact⟨by rw[GJ,HF.out];rfl,a⟩
def eK{L:Ab}(r:L.length=12)(i:RP L)(w:K):
 A V 117 #[Gp L] w fun e w'=>e=t (AY (DU L))/\I w.heap.size w w':=by
 have a:C7 (num L 0)=S\/C7 (num L 0)=AQ:=by cases C7 (num L 0) <;> simp
 have c:GA L=S\/GA L=AQ:=by cases GA L <;> simp
 have m:=i 0;have f:=i;have k:∀ B,C7 (num L 0)=B->_:=fun B h=>H6 (num L 0) m B h
 have l:∀ (s:C7 (num L 0)=AQ) B,GA L=B->_:=fun s B h=>Xv r i s B h
 have q:DU L=(C7 (num L 0) && (GA L && GJ L)):=rfl;have g:=AF w (Cm L 156);obtain⟨v,d⟩:=nm (w.alloc (Cm L 156));rw[<- d] at g
 match L,r with
 |[b,st,tg,cu,io,ba,t0,t1,t2,t3,t4,t5],_=>
  have o:w.alloc (Ay #[J Y b,J Y st,J Y tg,J Y cu,J Y io,J Y ba,J Y t0,J Y t1,J Y t2,J Y t3,J Y t4,J Y t5] 156)=v:=by
   rw[d];rfl
  have u:=wN o;show A V 117 #[BS #[J Y b,J Y st,J Y tg,J Y cu,J Y io,J Y ba,J Y t0,J Y t1,J Y t2,J Y t3,J Y t4,J Y t5]] w fun e w'=>e=t (AY (DU _))/\I w.heap.size w w'
  rw[q];change _<=_ at m;rcases a with a|a
  . rw[a]
    have j:Hid (∀ w,A V 110 #[J Y b] w fun e w'=>e=t (AY S)/\w=w'):=wN (k _ a);clear k l q a c d o i m f;go_enter func117,ntmps117;go_wp2_with (first|(go_at_call 110;with_reducible refine Ad (j.out _) ?_;rintro w' rfl))
    go_ret;exact⟨rfl,AF _ _⟩
  . rw[a,AS]
    have j:Hid (∀ w,A V 110 #[J Y b] w fun e w'=>e=t (AY AQ)/\w=w'):=wN (k _ a);rcases c with c|c
    . rw[c,Bool.false_and]
      have n:Hid (∀ w,A V 157 #[BS #[J Y b,J Y st,J Y tg,J Y cu,J Y io,J Y ba,J Y t0,J Y t1,J Y t2,J Y t3,J Y t4,J Y t5]] w fun e w'=>e=t (AY S)/\I w.heap.size w w'):=wN (l a _ c);clear k l q a c d o i m f;go_enter func117,ntmps117
      go_wp2_with (first|(go_at_call 110;with_reducible refine Ad (j.out _) ?_;rintro w' rfl)|(go_at_call 157;rw[u.out];refine Ad (n.out _) ?_;rintro x p))
      go_ret;exact⟨rfl,g.trans (p.mono g.size)⟩
    . rw[c,AS]
      have n:Hid (∀ w,A V 157 #[BS #[J Y b,J Y st,J Y tg,J Y cu,J Y io,J Y ba,J Y t0,J Y t1,J Y t2,J Y t3,J Y t4,J Y t5]] w fun e w'=>e=t (AY AQ)/\I w.heap.size w w'):=wN (l a _ c);exact kj b st tg cu io ba t0 t1 t2 t3 t4 t5 _ rfl f (DD a).2.1 w j.out n.out
def dP{L:Ab}(a:L.length=12)(b:RP L)(B:Bool)(h:DU L=B)(w:K):
 A V 117 #[Gp L] w fun e w'=>e=t (AY B)/\I w.heap.size w w':=by rw[<- h];exact eK a b w
def TA(L:Ab)(w:K)(e:Ending)(w':K):Prop:=
 (DU L=AQ/\∃ v,e=t (AT #[v,J Y 0])/\OB w' w.heap.size v (Gh L)/\I w.heap.size w w')\/
 (DU L=S/\e=t (AT #[Aw H 0 0,J Y 1])/\I w.heap.size w w')
def O0{L:Ab}(h:DU L=AQ)(j:Nat)(a:j<12):0<=num L j/\num L j<65536:=by
 have b:=T8 h j a;have:=Hi (QV j).2;have e:(256:Int) ^ 2=65536:=rfl;omega
def XB:∀ j,pos j<=8+2*j
 |0=>AE _
 |j+1=>by have:=XB j;have:=QV j;rw[pos];omega
def oJ{L:Ab}(j:Nat)(i:j<12)(x:Int)(d:x=num L j)(a:0<=x/\x<65536)(k:Nat)(b:k=Ig j)(W:K)(u:AA)(c:BSl W u (GT L j)):
 A V 133 #[u,J .u64 x,J Y (k:Int)] W (J8 W (GT L (j+1))):=by
 have f:=QV j;have g:=XB j;have h:=EF L j;rw[GT,<- d,<- b];exact FK c Aa x k k Aa Aa rfl a.1 Aa
def iZ{L:Ab}(j:Nat)(i:j<12)(x:Int)(d:x=num L j)(a:0<=x/\x<65536)(k:Nat)(b:k=Ig j)(W:K)(u:AA)(c:BSl W u (GT L j)):
 A V 112 #[u,J .u64 x,J Y (k:Int)] W (J8 W (GT L (j+1))):=by
 have f:=QV j;have g:=XB j;have h:=EF L j;rw[GT,<- d,<- b];exact Iw c Aa x k k Aa Aa rfl a.1 Aa
def Rt(a:K):BSl (a.alloc (Ay #[J .u8 97,J .u8 115,J .u8 104,J .u8 108,J .u8 97,J .u8 114,J .u8 32,J .u8 49] 5 (8,9))) (Aw (Z ⟨a.heap.size,0,H⟩) 8 8) Zf:=by
 refine⟨CV dR,A8 ⟨_,8,rfl,Af,fun j b=>⟨Ai,rfl,?_⟩⟩⟩;have b:j<8:=b;have c:(a.alloc (Ay #[J .u8 97,J .u8 115,J .u8 104,J .u8 108,J .u8 97,J .u8 114,J .u8 32,J .u8 49] 5 (8,9))).heap[a.heap.size]? =Z (Ay #[J .u8 97,J .u8 115,J .u8 104,J .u8 108,J .u8 97,J .u8 114,J .u8 32,J .u8 49] 5 (8,9)):=by
  show(a.heap.push _)[a.heap.size]? =_
  simp
 rw[BC,AD _ _ _ _ _ _ c];have:j=0\/j=1\/j=2\/j=3\/j=4\/j=5\/j=6\/j=7:=Aa;rcases this with rfl|rfl|rfl|rfl|rfl|rfl|rfl|rfl <;> rfl
def kH(b st tg cu io ba t0 t1 t2 t3 t4 t5:Int)(L:Ab)(L1:L=[b,st,tg,cu,io,ba,t0,t1,t2,t3,t4,t5])(hf:DU L=AQ)(w:K)
 (hF:∀ w,A V 186 #[BS #[J Y b,J Y st,J Y tg,J Y cu,J Y io,J Y ba,J Y t0,J Y t1,J Y t2,J Y t3,J Y t4,J Y t5]] w fun e w'=>e=t (AY AQ)/\I w.heap.size w w'):
 A V 151 #[BS #[J Y b,J Y st,J Y tg,J Y cu,J Y io,J Y ba,J Y t0,J Y t1,J Y t2,J Y t3,J Y t4,J Y t5]] w fun e w'=>∃ v,e=t (AT #[v,J Y 0])/\OB w' w.heap.size v (Gh L)/\I w.heap.size w w':=by
 have p:=AF w (Cm L 135);have hh:=AC w (Cm L 135);obtain⟨W1,g⟩:=nm (w.alloc (Cm L 135));rw[<- g] at p hh;have Km:w.alloc (Ay #[J Y b,J Y st,J Y tg,J Y cu,J Y io,J Y ba,J Y t0,J Y t1,J Y t2,J Y t3,J Y t4,J Y t5] 135)=W1:=by rw[g,L1];rfl
 have s:L.length=12:=by rw[L1];rfl
 have Ef:w.heap.size<W1.heap.size:=by rw[g];simp
 have H2:=wN Km;have HH:=wN hh;have a4:=wN s;have a3:=wN hf;have K0:=wN hF;clear hF hh g Km L1 s hf;have kc:=fun(w:K) (C:Array AA) (n c:Nat)=>E4 (P:=V) w 77 5 C n c underlying77 underlying5
 go_enter func151,ntmps151
 go_wp2_with (first|(go_at_call 186;rw[H2.out];refine Ad (K0.out _) ?_;rintro y h;have B:I w.heap.size w y:=p.trans (h.mono p.size))|(go_at_call 185;refine(Pf _ _).mono ?_;rintro e M ⟨v4,rfl,S,l⟩;obtain⟨gf,b0,rfl,uG,W8,Ih,ti⟩:=S.shape Af))
 have D:=Rt y;obtain⟨w3,F⟩:=nm (y.alloc (Ay #[J .u8 97,J .u8 115,J .u8 104,J .u8 108,J .u8 97,J .u8 114,J .u8 32,J .u8 49] 5 (8,9)));rw[<- F] at l D;have z:I y.heap.size y w3:=by rw[F];exact AF _ _
 have d:I y.heap.size y M:=z.trans (l.mono z.size);have r:I w.heap.size w M:=B.trans (d.mono B.size);have WM:w.heap.size<y.heap.size:=AL Ef h.size;have T:M.heap[w.heap.size]? =Z (Cm L 135):=by
  rw[d.block _ WM,h.block _ Ef];exact HH.out
 have E:=fun k G=>Ib T k G
 rw[a4.out] at E;have uH:w.heap.size<M.heap.size:=AL WM d.size;have lG:=D.below l;have HC:=wN E;have a2:=wN ti;have q:=wN r;clear D F z d T E ti l S h B p WM Ef kc r;go_loopw [4,14] (fun u i wr=>∃ j:Nat,j<=12/\i=J Y j/\Hid (BSl wr u (GT L j))/\Hid (I M.heap.size M wr)) (fun _ i _=>12-(intOf i).toNat)
 case atStart=>exact⟨0,Aa,rfl,lG,AP _ _⟩
 case round=>
  obtain⟨j,hj,rfl,N,a⟩:=hrel;clear lG;by_cases o:j<12
  . have hf:=a2.out j o
    have a8:wr.cell? ⟨gf,j*2,H⟩=Z (Ax (Z ⟨w.heap.size,j,H⟩)):=(by rw[a.out.cell uG];exact hf.1);have R:wr.cell? ⟨gf,j*2+1,H⟩=Z (J Y (Ig j:Int)):=(by rw[a.out.cell uG];exact hf.2);have a0:=O0 a3.out j o;obtain⟨x,X⟩:=nm (num L j);have MV:wr.cell? ⟨w.heap.size,j,H⟩=Z (J Y x):=(by rw[a.out.cell uH,X];exact HC.out j o);rw[<- X] at a0;have a9:=QV j;obtain⟨k,G⟩:=nm (Ig j);rw[<- G] at a9 R;have HX:=wN X;have HK:=wN G;have ej:(j:Int)<12:=Aa;have a5:=wN (oJ (L:=L) j o x X a0 k G);clear X G hf;have Uu:w.heap.size<wr.heap.size:=AL uH a.out.size;go_wp2;have m:=AF wr (Ay #[Ax (Z ⟨w.heap.size,j,H⟩),J Y (k:Int)] 282);have Q0:=AC wr (Ay #[Ax (Z ⟨w.heap.size,j,H⟩),J Y (k:Int)] 282);generalize wr.alloc (Ay #[Ax (Z ⟨w.heap.size,j,H⟩),J Y (k:Int)] 282)=O at m Q0 |-
    have c0:O.cell? ⟨wr.heap.size,0,H⟩=Z (Ax (Z ⟨w.heap.size,j,H⟩)):=(by rw[AD _ _ _ _ _ _ Q0];rfl);have c1:O.cell? ⟨wr.heap.size,1,H⟩=Z (J Y (k:Int)):=(by rw[AD _ _ _ _ _ _ Q0];rfl);have c2:O.cell? ⟨w.heap.size,j,H⟩=Z (J Y x):=(by rw[m.cell Uu];exact MV);have f:=wN (Bd m 1);have HU:=wN (N.out.below f.out);change Hid (BSl O.drew _ _) at HU;change Hid (I wr.heap.size wr O.drew) at f;clear m Q0 MV a8 R Uu;go_still_tail 8,Ac
    go_wp2_with (go_at_call 133;refine(a5.out _ _ HU.out).mono ?_;rintro e w6 ⟨v6,rfl,U,Q⟩)
    have a1:=wN (f.out.trans (Q.mono f.out.size));clear Q;go_roundw
    case rel=>exact⟨j+1,Aa,by go_num,U.bsl,a.out.trans (a1.out.mono a.out.size)⟩
    case measure=>simp[intOf];omega
  . obtain rfl:j=12:=by omega
    have a6:=wN (Kr N.out (by rw[EF];decide));go_wp2_with (go_at_call 187;refine a6.out.mono ?_;rintro e w7 ⟨v7,rfl,W,a7⟩)
    go_ret2;have hB:=q.out.trans (a.out.mono q.out.size);exact⟨v7,rfl,W.more hB.size,hB.trans (a7.mono hB.size)⟩
def ZS{L:Ab}(k:L.length=12)(l:RP L)(w:K):A V 151 #[Gp L] w (TA L w):=by
 have a:DU L=S\/DU L=AQ:=by cases DU L <;> simp
 have f:∀ B,DU L=B->_:=fun B h=>PK k l B h
 have d:=AF w (Cm L 135);obtain⟨o,c⟩:=nm (w.alloc (Cm L 135));rw[<- c] at d
 match L,k with
 |[b,st,tg,cu,io,ba,t0,t1,t2,t3,t4,t5],_=>
  have j:w.alloc (Ay #[J Y b,J Y st,J Y tg,J Y cu,J Y io,J Y ba,J Y t0,J Y t1,J Y t2,J Y t3,J Y t4,J Y t5] 135)=o:=by rw[c];rfl
  have m:=wN j;show A V 151 #[BS #[J Y b,J Y st,J Y tg,J Y cu,J Y io,J Y ba,J Y t0,J Y t1,J Y t2,J Y t3,J Y t4,J Y t5]] w (TA _ w)
  rcases a with a|a
  . refine A.mono ?_ fun e i h=>A8 ⟨a,h⟩
    have n:Hid (∀ w,A V 186 #[BS #[J Y b,J Y st,J Y tg,J Y cu,J Y io,J Y ba,J Y t0,J Y t1,J Y t2,J Y t3,J Y t4,J Y t5]] w fun e i=>e=t (AY S)/\I w.heap.size w i):=wN (f _ a);clear f a c j l;go_enter func151,ntmps151;go_wp2_with (first|(go_at_call 186;rw[m.out];refine Ad (n.out _) ?_;rintro p g))
    go_ret2;exact⟨rfl,d.trans (g.mono d.size)⟩
  . refine A.mono ?_ fun e i h=>A4 ⟨a,h⟩
    exact kH b st tg cu io ba t0 t1 t2 t3 t4 t5 _ rfl a w (f _ a)
def Kept(w w':K)(g:Nat):Prop:=w'.os=w.os/\w'.tape=w.tape/\w'.output=w.output/\w.heap.size<=w'.heap.size/\∀ k,k<w.heap.size->k≠g->w'.heap[k]? =w.heap[k]?
def Kept.refl(w:K)(g:Nat):Kept w w g:=⟨rfl,rfl,rfl,AE _,fun _ _ _=>rfl⟩
def Kept.then{w w' a:K}{g:Nat}(h:Kept w w' g)(hb:I w'.heap.size w' a):Kept w a g:=
 ⟨hb.os.trans h.1,hb.tape.trans h.2.1,hb.output.trans h.2.2.1,AU h.2.2.2.1 hb.size,fun k c b=>by rw[hb.block k (AL c h.2.2.2.1)];exact h.2.2.2.2 k c b⟩
def Kept.wrote{w w' b:K}{g:Nat}(h:Kept w w' g)(hb:Wrote w' b g):Kept w b g:=
 ⟨hb.1.trans h.1,hb.2.1.trans h.2.1,hb.2.2.1.trans h.2.2.1,by rw[hb.2.2.2.1];exact h.2.2.2.1,fun k c a=>by rw[hb.2.2.2.2 k a];exact h.2.2.2.2 k c a⟩
def Kept.below{w w':K}{g B:Nat}(h:Kept w w' g)(c:B<=g)(b:B<=w.heap.size):I B w w':=
 ⟨h.1,h.2.1,h.2.2.1,h.2.2.2.1,fun k a=>h.2.2.2.2 k (AL a b) Aa⟩
def Kept.cell{w w':K}{g:Nat}(h:Kept w w' g){b o:Nat}(hb:b<w.heap.size)(a:b≠g):w'.cell? ⟨b,o,H⟩=w.cell? ⟨b,o,H⟩:=by
 simp only[K.cell?];rw[h.2.2.2.2 b hb a]
def Ll(c:Ab)(j:Nat):Ab:=(BE 12).map fun i=>if i<j then Cs c (pos i) (Ig i) else 0
def GP(c:Ab)(j:Nat):(Ll c j).length=12:=by simp[Ll]
def ju(c:Ab)(j:Nat)(d:j<12):(Ll c j).set j (Cs c (pos j) (Ig j))=Ll c (j+1):=by
 apply Bt (by rw[AR,GP,GP]);intro i a b;simp only[Ll,Eh,Cu,Co];by_cases e:j=i
 . subst e;rw[AG rfl,AG Aa]
 . rw[AJ e]
   by_cases h:i<j
   . rw[AG h,AG Aa]
   . rw[AJ h,AJ Aa]
def eU(c:Ab):Ll c 12=Pt c:=by
 unfold Ll Pt;apply Cr;intro i a;rw[AG (Bq.1 a)]
def i9{W:K}{g:Nat}{L:Ab}{T:Cn}(h:W.heap[g]? =Z (Cm L T))(j:Nat)(y:Int):(W.setCell ⟨g,j,H⟩ (J Y y)).heap[g]? =Z (Cm (L.set j y) T):=by
 rw[Bk W g j _ _ _ h];simp[Cm]
def lr(j:Nat)(a:j<12):pos j+Ig j<=252:=by
 have:∀ i,i<=12->pos i<=8+2*i:=fun i _=>by
  induction i with
  |zero=>exact AE _
  |succ i ih=>have:=ih Aa;rw[pos];unfold Ig;split <;> omega
 have:=this (j+1) Aa;rw[pos] at this;omega
def kB{c:Ab}(f:c.length=252)(j:Nat)(a:j<12)(k:Nat)(b:k=Ig j):QU c (pos j:Int) (k:Int)=Cs c (pos j) (Ig j):=by
 have:=lr j a;have d:1<=Ig j/\Ig j<=2:=by unfold Ig;split <;> omega
 unfold QU;rw[AG Aa,b];rfl
def Wb{c:Ab}(hb:Fv c)(j:Nat):0<=Cs c (pos j) (Ig j)/\Cs c (pos j) (Ig j)<65536:=by
 have h:=EI (Da hb) (pos j) (Ig j);have a:1<=Ig j/\Ig j<=2:=by unfold Ig;split <;> omega
 have:=Hi a.2;have e:(256:Int) ^ 2=65536:=rfl;omega
def aU:(V.info? 135).map (·.size)=Z 12:=Ac
def Fi{b:Array BK}{rest:List BK}{o:BK}{a:Act}{w:K}{Q:Exit->Act->K->Prop}(c:o.guard=H)(x:Operand)(i:o.op=.load 135 x)
 (g:Nat) (j:a.eval x=Ax (Z ⟨g,0,H⟩)) (L:Ab) (d:L.length=12) (T:Cn) (f:w.heap[g]? =Z (Cm L T)) (h:Cj V b Q rest (a.put o.dst (Gp L)) w):Cj V b Q (o :: rest) a w:=
 wpList_load_row c 135 x i g j T _ (0,0) _ f underlying135 rfl (by rw[aU];simp[d]) h
def VC(L:Ab):(L.map (J Y)).toArray.all (·.oneCell')=AQ:=by
 rw[Array.all_eq_true'];intro v a;simp at a;obtain⟨x,_,rfl⟩:=a;rfl
def CW{b:Array BK}{rest:List BK}{o:BK}{a:Act}{w:K}{Q:Exit->Act->K->Prop}(f:o.guard=H)(x y:Operand)(j:o.op=.store 135 x y)
 (g:Nat) (k:a.eval x=Ax (Z ⟨g,0,H⟩)) (L M:Ab) (l:a.eval y=Gp L) (c:L.length=12) (i:M.length=12) (T:Cn) (d:w.heap[g]? =Z (Cm M T))
 (h:∀ w',Wrote w w' g->w'.heap[g]? =Z (Cm L T)->Cj V b Q rest (a.put o.dst undef) w'):Cj V b Q (o :: rest) a w:=
 C8 f 135 x y j g _ k l T _ d (by rw[aU];simp[c]) (by simp[c,i]) (VC L) (h _ (Wrote.setRow _ _ _) (CJ _ _ _ _ _ _ d))
def oc{fn:Func}{p:Tmp}(h:fn.results=#[.cell p 135])(tmps:Array AA)(w:K)(g:Nat)(T:Cn)(L:Ab)(a:L.length=12)(hp:tmps.getD p undef=Ax (Z ⟨g,0,H⟩))(b:w.heap[g]? =Z (Cm L T)):
 (results fn tmps).run V w=.ok (Gp L) w:=
 results_cell_row h tmps w g T _ (0,0) _ hp b underlying135 rfl (by rw[aU];simp[a])
def PS{w:K}{v:AA}{c:Ab}(hs:BSl w v c)(hc:c.length=252):A V 150 #[v] w fun e w'=>e=t (Gp (Pt c))/\I w.heap.size w w':=by
 have HS:=wN hs;have C:=wN hc;clear hs hc;have b:∃ u,u=(w.alloc (Cm (Ll c 0) 135)).alloc (Cm (Ll c 0) 135):=⟨_,rfl⟩;obtain⟨u,b⟩:=b;have X:(w.alloc (Ay #[J Y 0,J Y 0,J Y 0,J Y 0,J Y 0,J Y 0,J Y 0,J Y 0,J Y 0,J Y 0,J Y 0,J Y 0] 135)).alloc (Ay #[J Y 0,J Y 0,J Y 0,J Y 0,J Y 0,J Y 0,J Y 0,J Y 0,J Y 0,J Y 0,J Y 0,J Y 0] 135)=u:=by rw[b];rfl
 have L:I w.heap.size w u:=by rw[b];exact((AP _ _).alloc (AE _) _).alloc Ai _
 have Ik:u.heap[w.heap.size]? =Z (Cm (Ll c 0) 135):=by rw[b,@heap_alloc_old _ _ _ Ai];exact AC _ _
 have Q:u.heap[w.heap.size+1]? =Z (Cm (Ll c 0) 135):=by rw[b];exact heap_alloc2_new _ _ _
 have b3:u.heap.size=w.heap.size+2:=by rw[b];simp
 have H2:=wN X;have a5:=wN Ik;have a6:=wN Q;clear X b Ik Q;go_enter func150,ntmps150
 go_wp2_with (first|(go_at_call 185;rw[H2.out];refine(Pf _ _).mono ?_;rintro e z ⟨v4,rfl,O,o⟩;obtain⟨gf,b4,rfl,uG,W8,Ih,ti⟩:=O.shape Af))
 obtain⟨a,U⟩:=nm (w.heap.size+1);have ZH:z.heap[a]? =Z (Cm (Ll c 0) 135):=by rw[U,o.block _ Aa];exact a6.out
 have lH:z.heap[w.heap.size]? =Z (Cm (Ll c 0) 135):=by rw[o.block _ Aa];exact a5.out
 have q:I w.heap.size w z:=L.trans (o.mono Aa);have sk:a<z.heap.size:=(Au.1 ZH).1;have uI:gf≠a:=Aa;have b2:w.heap.size<z.heap.size:=Aa;rw[<- U] at ti |-
 have HG:=wN U;have a1:=wN ti;have p:=wN q;have a2:=wN lH;clear U ti q lH o O b3 L Ih W8;go_loopw [4,11] (fun a8 i wr=>∃ j:Nat,j<=12/\i=J Y j/\a8=J Y (pos j:Int)/\Hid (wr.heap[a]? =Z (Cm (Ll c j) 135))/\Hid (Kept z wr a)) (fun _ i _=>12-(intOf i).toNat)
 case atStart=>exact⟨0,Aa,rfl,rfl,ZH,Kept.refl _ _⟩
 case round=>
  obtain⟨j,hj,rfl,rfl,E,d⟩:=hrel;clear ZH;by_cases l:j<12
  . have hf:=a1.out j l
    have a9:wr.cell? ⟨gf,j*2,H⟩=Z (Ax (Z ⟨a,j,H⟩)):=(by rw[d.out.cell uG uI];exact hf.1);have N:wr.cell? ⟨gf,j*2+1,H⟩=Z (J Y (Ig j:Int)):=(by rw[d.out.cell uG uI];exact hf.2);have qr:=Wb HS.out.1 j;have b1:1<=Ig j/\Ig j<=2:=by unfold Ig;split <;> omega
    have Kk:=lr j l;have G:=kB C.out j l _ rfl;obtain⟨y,hy⟩:=nm (Cs c (pos j) (Ig j));rw[<- hy] at qr G;have T:pos (j+1)=pos j+Ig j:=rfl;obtain⟨P,hP⟩:=nm (pos j);obtain⟨k,hk⟩:=nm (Ig j);have m:=ju c j l;rw[<- hy] at m;rw[<- hP] at Kk G T |-
    rw[<- hk] at b1 Kk G T N;have D:Hid (∀ W,BSl W v c->A V 183 #[v,J Y (P:Int),J Y (k:Int)] W fun e w'=>∃ B,e=t (AT #[J .u64 y,AY B])/\W=w'):=wN fun W h=>by
     have:=Mu h (by have:=C.out;omega) (P:Int) (k:Int) Aa Aa;rw[G] at this;exact this.mono fun e w' ⟨h1,X⟩=>⟨_,h1,X⟩
    have F:=wN m;have ej:(j:Int)<12:=Aa;have Uu:a<wr.heap.size:=AL sk d.out.2.2.2.1;have a4:=wN T;have M:=p.out.trans (d.out.below (B:=w.heap.size) (by have:=HG.out;omega) Aa);have n:=wN M;clear hy hP hk m G hf T M;have lI:wr.heap.size≠a:=Aa
    go_wp2_with (first
     |(go_at_call 183
       have f:=AF wr (Ay #[Ax (Z ⟨a,j,H⟩),J Y (k:Int)] 282);have pc:=AC wr (Ay #[Ax (Z ⟨a,j,H⟩),J Y (k:Int)] 282);generalize wr.alloc (Ay #[Ax (Z ⟨a,j,H⟩),J Y (k:Int)] 282)=x at f pc |-
       have R:x.heap[a]? =Z (Cm (Ll c j) 135):=(f.block _ Uu).trans E.out;have c0:x.cell? ⟨wr.heap.size,0,H⟩=Z (Ax (Z ⟨a,j,H⟩)):=(by rw[AD _ _ _ _ _ _ pc];rfl);have c1:x.cell? ⟨wr.heap.size,1,H⟩=Z (J Y (k:Int)):=(by rw[AD _ _ _ _ _ _ pc];rfl);have ck:=Ib R j (by rw[GP];exact l);have fk:x.frozen? ⟨a,j,H⟩=S:=(by simp[K.frozen?,R,Cm]);have s:=Wrote.setCell x a j (J Y y);have c6:(x.setCell ⟨a,j,H⟩ (J Y y)).cell? ⟨wr.heap.size,1,H⟩=Z (J Y (k:Int)):=by
        simp only[K.cell?];rw[s.2.2.2.2 _ lI];exact c1
       have r:=i9 R j y;rw[F.out] at r;have a3:=wN ((d.out.then f).wrote s);have a7:=wN r;have a0:=wN (n.out.trans (f.mono n.out.size));clear f pc R r s a9 N lI;refine(D.out _ (HS.out.below a0.out)).mono ?_;rintro e w' ⟨B,rfl,rfl⟩))
    go_roundw
    case rel=>exact⟨j+1,Aa,by go_num,by rw[a4.out];go_num,a7.out,a3.out⟩
    case measure=>simp[intOf];omega
  . obtain rfl:j=12:=by omega
    have sn:wr.heap[w.heap.size]? =Z (Cm (Ll c 0) 135):=(by rw[d.out.2.2.2.2 _ b2 (by have:=HG.out;omega)];exact a2.out);have g:=GP c 12;have uJ:=GP c 0;have n:=wN (p.out.trans (d.out.below (B:=w.heap.size) (by have:=HG.out;omega) Aa))
    go_wp2_with (first|(with_reducible refine Fi rfl _ rfl a rfl _ g _ E.out ?_)|(with_reducible refine CW rfl _ _ rfl w.heap.size rfl _ _ rfl g uJ _ sn ?_;intro w7 b0 NS))
    refine A9 (oc rfl _ _ w.heap.size _ _ g rfl NS) rfl ⟨by rw[eU],n.out.trans (b0.below (AE _) |>.mono (AE _))⟩
def De:Ab:=AI 12 0
def rx(l:Ab)(w:K)(e:Ending)(w':K):Prop:=
 I w.heap.size w w'/\((rt l/\e=t (AT #[Gp (tR l),J Y 0]))\/(¬ rt l/\e=t (AT #[Gp De,J Y 18])))
def YJ{c:Ab}(hb:Fv c):RP (Pt c):=fun i=>by
 by_cases a:i<12
 . rw[aS _ _ a];have:=Wb hb i;omega
 . unfold num;rw[Az,Bf (by rw[Hx];omega)];decide
def n9{L:Ab}(b:L.length=12)(c:RP L)(h:DU L=S)(w:K):A V 151 #[Gp L] w fun e w'=>e=t (AT #[Aw H 0 0,J Y 1])/\I w.heap.size w w':=
 (ZS b c w).mono fun e w' d=>d.elim (fun a=>by rw[h] at a;cases a.1) fun a=>a.2
def ak{L:Ab}(b:L.length=12)(c:RP L)(h:DU L=AQ)(w:K):A V 151 #[Gp L] w fun e w'=>∃ v,e=t (AT #[v,J Y 0])/\OB w' w.heap.size v (Gh L)/\I w.heap.size w w':=
 (ZS b c w).mono fun e w' d=>d.elim (fun a=>a.2) fun a=>by rw[h] at a;cases a.1
def J7{fn:Func}{p u:Tmp}(h:fn.results=#[.cell p 135,.tmp u])(tmps:Array AA)(w:K)(g:Nat)(T:Cn)(L:Ab)(x:AA)(a:L.length=12)(hp:tmps.getD p undef=Ax (Z ⟨g,0,H⟩))(b:w.heap[g]? =Z (Cm L T))(c:tmps.getD u undef=x):
 (results fn tmps).run V w=.ok (AT #[Gp L,x]) w:=by
 rw[results_cell_tmp h,hp,c];simp only[asAddr,Sem.run_pure,Result.andThen_ok];rw[run_loadVar_row w g T 135 _ (0,0) _ b underlying135 rfl (by rw[aU];simp[a])];rfl
def kW{w:K}{v:AA}{l:Ab}(m:BSl w v l)(h:¬ Fy l):A V 107 #[v] w fun e w'=>e=t (AT #[Gp De,J Y 18])/\I w.heap.size w w':=by
 have a:=AF w (Cm De 135);have c:=AC w (Cm De 135);obtain⟨n,b⟩:=nm (w.alloc (Cm De 135));rw[<- b] at a c;have k:w.alloc (Ay #[J Y 0,J Y 0,J Y 0,J Y 0,J Y 0,J Y 0,J Y 0,J Y 0,J Y 0,J Y 0,J Y 0,J Y 0] 135)=n:=by rw[b];rfl
 have q:w.heap.size<n.heap.size:=by rw[b];simp
 have o:=wN k;have f:=wN c;have p:=wN (R4 (m.below a) h);clear m h k b c;go_enter func107,ntmps107
 go_wp2_with (first
  |(go_at_call 149;rw[o.out];refine Ad p.out ?_;rintro r d
    have g:r.heap[w.heap.size]? =Z (Cm De 135):=(d.block _ q).trans f.out)|(with_reducible refine CW rfl (.tmp 2) (.tmp 16) rfl w.heap.size rfl De De rfl rfl rfl _ g ?_;intro s j i))
 exact A9 (J7 rfl _ _ w.heap.size _ _ _ rfl rfl i rfl) rfl ⟨rfl,(a.trans (d.mono a.size)).trans (j.below (AE _))⟩
def kE{w:K}{v:AA}{l:Ab}(D:BSl w v l)(h:Fy l)(hf:DU (Pt (l.take 252))=S):A V 107 #[v] w fun e w'=>e=t (AT #[Gp De,J Y 18])/\I w.heap.size w w':=by
 have a:=AF w (Cm De 135);have m:=AC w (Cm De 135);obtain⟨Q,i⟩:=nm (w.alloc (Cm De 135));rw[<- i] at a m;have O:w.alloc (Ay #[J Y 0,J Y 0,J Y 0,J Y 0,J Y 0,J Y 0,J Y 0,J Y 0,J Y 0,J Y 0,J Y 0,J Y 0] 135)=Q:=by rw[i];rfl
 have M:w.heap.size<Q.heap.size:=by rw[i];simp
 have U:=wN O;have y:=wN m;have H:=wN (JX (D.below a) h);have k:=MJ h;have s:=YJ (En D.1 252);have d:=Hx (l.take 252);obtain⟨c,P⟩:=nm (l.take 252);rw[<- P] at k H hf s d;obtain⟨L,B⟩:=nm (Pt c);rw[<- B] at hf s d;have W:=wN B;have x:=wN k;have u:=wN (n9 d s hf);clear D h O i m P hf s k B;go_enter func107,ntmps107
 go_wp2_with (first
  |(go_at_call 149;rw[U.out];refine H.out.mono ?_;rintro e R ⟨v2,rfl,r,f⟩)|(go_at_call 150;refine(PS r.bsl x.out).mono ?_;rw[<- W.out];rintro e o ⟨rfl,b⟩)
  |(with_reducible refine CW rfl (.tmp 6) (.tmp 18) rfl o.heap.size rfl L De rfl d rfl _ (AC o _) ?_
    intro w5 E T;have g:I o.heap.size o w5:=(AF o _).trans (E.below (AE _)))|(with_reducible refine Fi rfl (.tmp 6) rfl o.heap.size rfl L d _ T ?_)
  |(go_at_call 151;refine Ad (u.out _) ?_;rintro G q
    have n:=AL M f.size;have z:=AL n b.size;have N:=AL z g.size;have C:G.heap[w.heap.size]? =Z (Cm De 135):=(by rw[q.block _ N,g.block _ z,b.block _ n,f.block _ M];exact y.out);have j:I R.heap.size R G:=(b.trans (g.mono b.size)).trans (q.mono (AU b.size g.size));have p:I w.heap.size w G:=(a.trans (f.mono a.size)).trans (j.mono (AU a.size f.size));clear n z N j)|(with_reducible refine CW rfl (.tmp 2) (.tmp 32) rfl w.heap.size rfl De De rfl rfl rfl _ C ?_;intro w7 F X))
 exact A9 (J7 rfl _ _ w.heap.size _ _ _ rfl rfl X rfl) rfl ⟨rfl,p.trans (F.below (AE _))⟩
def cw{w:K}{v:AA}{l:Ab}(y:BSl w v l)(h:Fy l)(hf:DU (Pt (l.take 252))=AQ)(x:Gh (Pt (l.take 252))=l):A V 107 #[v] w fun e w'=>e=t (AT #[Gp (Pt (l.take 252)),J Y 0])/\I w.heap.size w w':=by
 have b:=AF w (Cm De 135);have p:=AC w (Cm De 135);obtain⟨T,i⟩:=nm (w.alloc (Cm De 135));rw[<- i] at b p;have R:w.alloc (Ay #[J Y 0,J Y 0,J Y 0,J Y 0,J Y 0,J Y 0,J Y 0,J Y 0,J Y 0,J Y 0,J Y 0,J Y 0] 135)=T:=by rw[i];rfl
 have P:w.heap.size<T.heap.size:=by rw[i];simp
 have W:=wN R;have E:=wN p;have HS:=wN y;have O:=wN (JX (y.below b) h);have o:=MJ h;have u:=YJ (En y.1 252);have a:=Hx (l.take 252);obtain⟨c,S⟩:=nm (l.take 252);rw[<- S] at o O hf u a x |-
 obtain⟨L,G⟩:=nm (Pt c);rw[<- G] at hf u a x |-
 have HL:=wN G;have D:=wN o;have C:=wN (ak a u hf);have X:Hid (decide (Gh L=l)=AQ):=wN (AK x);clear y h R i p S hf u o G x;go_enter func107,ntmps107
 go_wp2_with (first
  |(go_at_call 149;rw[W.out];refine O.out.mono ?_;rintro e U ⟨v2,rfl,r,f⟩)|(go_at_call 150;refine(PS r.bsl D.out).mono ?_;rw[<- HL.out];rintro e m ⟨rfl,d⟩)
  |(with_reducible refine CW rfl (.tmp 6) (.tmp 18) rfl m.heap.size rfl L De rfl a rfl _ (AC m _) ?_
    intro w5 M B;have g:I m.heap.size m w5:=(AF m _).trans (M.below (AE _)))|(with_reducible refine Fi rfl (.tmp 6) rfl m.heap.size rfl L a _ B ?_)
  |(go_at_call 151;refine(C.out _).mono ?_;rintro e z ⟨v6,rfl,s,n⟩
    have q:=AL P f.size;have F:=AL q d.size;have Q:=AL F g.size;have H:z.heap[w.heap.size]? =Z (Cm De 135):=(by rw[n.block _ Q,g.block _ F,d.block _ q,f.block _ P];exact E.out);have uK:z.heap[m.heap.size]? =Z (Cm L 135):=(by rw[n.block _ (Au.1 B).1];exact B);have k:I U.heap.size U z:=(d.trans (g.mono d.size)).trans (n.mono (AU d.size g.size));have j:I w.heap.size w z:=(b.trans (f.mono b.size)).trans (k.mono (AU b.size f.size));clear q F Q k)|(go_at_call 152;refine(Ep s.bsl (HS.out.below j)).mono ?_;rw[X.out];rintro e w' ⟨rfl,rfl⟩)|(with_reducible refine Fi rfl (.tmp 6) rfl m.heap.size rfl L a _ uK ?_)|(with_reducible refine CW rfl (.tmp 2) (.tmp 33) rfl w.heap.size rfl L De rfl a rfl _ H ?_;intro w7 N NS))
 exact A9 (J7 rfl _ _ w.heap.size _ _ _ a rfl NS rfl) rfl ⟨rfl,j.trans (N.below (AE _))⟩
def Ym{w:K}{v:AA}{l:Ab}(y:BSl w v l)(h:Fy l)(hf:DU (Pt (l.take 252))=AQ)(x:Gh (Pt (l.take 252))≠l):A V 107 #[v] w fun e w'=>e=t (AT #[Gp De,J Y 18])/\I w.heap.size w w':=by
 have a:=AF w (Cm De 135);have o:=AC w (Cm De 135);obtain⟨U,i⟩:=nm (w.alloc (Cm De 135));rw[<- i] at a o;have R:w.alloc (Ay #[J Y 0,J Y 0,J Y 0,J Y 0,J Y 0,J Y 0,J Y 0,J Y 0,J Y 0,J Y 0,J Y 0,J Y 0] 135)=U:=by rw[i];rfl
 have P:w.heap.size<U.heap.size:=by rw[i];simp
 have X:=wN R;have E:=wN o;have HS:=wN y;have O:=wN (JX (y.below a) h);have n:=MJ h;have u:=YJ (En y.1 252);have d:=Hx (l.take 252);obtain⟨c,T⟩:=nm (l.take 252);rw[<- T] at n O hf u d x;obtain⟨L,G⟩:=nm (Pt c);rw[<- G] at hf u d x;have HL:=wN G;have D:=wN n;have C:=wN (ak d u hf);have HD:Hid (decide (Gh L=l)=S):=wN (AM x);clear y h R i o T hf u n G x;go_enter func107,ntmps107
 go_wp2_with (first
  |(go_at_call 149;rw[X.out];refine O.out.mono ?_;rintro e W ⟨v2,rfl,r,f⟩)|(go_at_call 150;refine(PS r.bsl D.out).mono ?_;rw[<- HL.out];rintro e q ⟨rfl,b⟩)
  |(with_reducible refine CW rfl (.tmp 6) (.tmp 18) rfl q.heap.size rfl L De rfl d rfl _ (AC q _) ?_
    intro w5 M B;have g:I q.heap.size q w5:=(AF q _).trans (M.below (AE _)))|(with_reducible refine Fi rfl (.tmp 6) rfl q.heap.size rfl L d _ B ?_)
  |(go_at_call 151;refine(C.out _).mono ?_;rintro e z ⟨v6,rfl,s,m⟩
    have p:=AL P f.size;have F:=AL p b.size;have Q:=AL F g.size;have H:z.heap[w.heap.size]? =Z (Cm De 135):=(by rw[m.block _ Q,g.block _ F,b.block _ p,f.block _ P];exact E.out);have uK:z.heap[q.heap.size]? =Z (Cm L 135):=(by rw[m.block _ (Au.1 B).1];exact B);have k:I W.heap.size W z:=(b.trans (g.mono b.size)).trans (m.mono (AU b.size g.size));have j:I w.heap.size w z:=(a.trans (f.mono a.size)).trans (k.mono (AU a.size f.size));clear p F Q k)|(go_at_call 152;refine(Ep s.bsl (HS.out.below j)).mono ?_;rw[HD.out];rintro e w' ⟨rfl,rfl⟩)|(with_reducible refine CW rfl (.tmp 2) (.tmp 32) rfl w.heap.size rfl De De rfl rfl rfl _ H ?_;intro w7 N NS))
 exact A9 (J7 rfl _ _ w.heap.size _ _ _ rfl rfl NS rfl) rfl ⟨rfl,j.trans (N.below (AE _))⟩
def mG{w:K}{v:AA}{l:Ab}(g:BSl w v l):A V 107 #[v] w (rx l w):=by
 by_cases h:Fy l
 . by_cases c:DU (Pt (l.take 252))=AQ
   . by_cases f:Gh (Pt (l.take 252))=l
     . exact(cw g h c f).mono fun e i ⟨a,b⟩=>⟨b,A4 ⟨⟨h,c,f⟩,a⟩⟩
     . exact(Ym g h c f).mono fun e i ⟨a,b⟩=>⟨b,A8 ⟨fun d=>f d.2.2,a⟩⟩
   . exact(kE g h (by simpa using c)).mono fun e i ⟨a,b⟩=>⟨b,A8 ⟨fun d=>c d.2.1,a⟩⟩
 . exact(kW g h).mono fun e i ⟨a,b⟩=>⟨b,A8 ⟨fun d=>h d.1,a⟩⟩
end
end Go.Proofs.YtfpdajplfmakhaaGreatDoor
