/- What the law rests on. -/
import Derived.Deep.Cut
import Derived.Test.YtfpdajplfmakhaaGreatDoorQD2
open Go.Value renaming int->I,slice->Aw,pointer->Ax,tuple->AT,bool->AY,agg->BS
open Go.IntKind renaming i64->Ap
open Go.Proofs.Tryz renaming prog->Aq
open Option renaming none->J,some->Z
open Go renaming World->Y,Value->O,Calls->AH,Oper->BK,wpList->Cj,TypeId->Cn
open Go.Ending renaming returned->Av
open Go.Obj renaming cells->Ay
open Go.RowKit renaming Below->AB
open List renaming replicate->AI,range->BE,length_cons->BJ
open Bool renaming false->AN,true->AQ
open Array renaming replicate->AW
open Or renaming inl->A4,inr->A8
open Int renaming toNat_natCast->Cf
open Go.Proofs.Tryz
namespace Go.Proofs.YtfpdajplfmakhaaGreatDoor
set_option linter.defProp false
set_option maxHeartbeats 12000000
set_option linter.unusedVariables false
set_option maxRecDepth 100000
theorem AS:type_of% @Bool.true_and:=@Bool.true_and
theorem Bc:type_of% @Option.some.inj:=@Option.some.inj
theorem Bm:type_of% @Nat.not_lt_zero:=@Nat.not_lt_zero
theorem Bz:type_of% @Go.IntWalk.i64_in:=@Go.IntWalk.i64_in
theorem BB:type_of% @List.getElem?_set_ne:=@List.getElem?_set_ne
theorem CO:type_of% @List.mem_cons_self:=@List.mem_cons_self
theorem Ln:type_of% @Go.IntWalk.u64_in:=@Go.IntWalk.u64_in
section
open Go.RowKit
def lW(fu:Bool)(le:Int)(dn:Bool):Bool:=!dn && (!fu || !decide (le=0))
def Xz(fu:Bool)(le:Int)(dn:Bool):Int:=if dn=AN/\fu=AQ/\le≠0 then le-1 else le
def WX(fu:Bool)(le:Int)(dn:Bool):Bool:=dn || (fu && decide (le=0))
section
variable {w:Y}{B bp bf bv:Nat}{u:O}{F V:Ae}{U:List (Nat × Ab)}{fu dn:Bool}{le:Int}
def Jd(h:DskAt w B bp bf bv u F V U fu le dn)(k:0<=le)(l:le<=9223372036854775807):
 AH Aq 164 #[Ax (Z ⟨bp,0,J⟩)] w fun e w'=>e=Av (AY (lW fu le dn))/\DskAt w' B bp bf bv u F V U fu (Xz fu le dn) (WX fu le dn)/\Wrote w w' bp:=by
 have d:=h.c3;have f:=h.c4;have g:=h.c5;have i:=h.fr 4;have j:=h.fr 5;cases dn
 . cases fu
   . have H:=wN h
     clear h;go_enter func164,ntmps164;go_wp2;go_ret;exact⟨rfl,by simpa [Xz,WX] using H.out,Wrote.refl _ _⟩
   . by_cases a:le=0
     . have H:=wN ((h.flags 5 (AY AQ) AQ le AQ rfl).1)
       subst a;clear h;go_enter func164,ntmps164;go_wp2;go_ret;exact⟨rfl,by simpa [Xz,WX] using H.out,Wrote.setCell _ _ _ _⟩
     . have H:=wN ((h.flags 4 (I Ap (le-1)) AQ (le-1) AN rfl).1)
       have c:(le==0)=AN:=by simpa using a
       have b:=wN a;clear h;go_enter func164,ntmps164;go_wp2;go_ret;have a:=b.out;exact⟨by simp[lW,a],by simpa [Xz,WX,a] using H.out,Wrote.setCell _ _ _ _⟩
 . have H:=wN h
   clear h;go_enter func164,ntmps164;go_wp2;go_ret;exact⟨rfl,by simpa [Xz,WX] using H.out,Wrote.refl _ _⟩
def BSl.apartP(h:DskAt w B bp bf bv u F V U fu le dn){v:O}{l:Ab}(hv:BSl w v l){W:Y}(g:Wrote w W bp):BSl W v l:=by
 refine⟨hv.1,?_⟩;rcases hv.2 with k| ⟨a,c,f,i,o⟩
 . exact A4 k
 . refine A8 ⟨a,c,f,i,fun j p=>?_⟩
   obtain⟨m,n,b⟩:=o j p;refine⟨by rw[g.2.2.2.1];exact m,n,?_⟩;have d:a.block≠bp:=fun e=>by
    rw[e,AD _ _ _ _ _ _ h.hp] at b;obtain⟨r,s,q⟩:=h.shapeU;rw[q] at b;have:a.off+j=0\/a.off+j=1\/a.off+j=2\/a.off+j=3\/a.off+j=4\/a.off+j=5\/6<=a.off+j:=Aa;rcases this with e|e|e|e|e|e|e
    . rw[e] at b;simp at b
    . rw[e] at b;simp at b
    . rw[e] at b;simp at b
    . rw[e] at b;simp at b
    . rw[e] at b;simp at b
    . rw[e] at b;simp at b
    . rw[Array.getElem?_eq_none (by simpa using e)] at b;cases b
   rw[Bi (a:=⟨a.block,a.off+j,J⟩) (w:=w) (g.2.2.2.2 _ d)];exact b
end
structure FrU (w W:Y) (bp bf bv:Nat) (u u':O):Prop where
 os:W.os=w.os
 tape:W.tape=w.tape
 output:W.output=w.output
 size:w.heap.size<=W.heap.size
 block:∀ k,k<w.heap.size->k≠bp->k≠bf->k≠bv->u.ownBlock≠Z k->W.heap[k]? =w.heap[k]?
 own:∀ k,u'.ownBlock=Z k->u.ownBlock=Z k\/w.heap.size<=k
def Xi{w:Y}{B bp bf bv:Nat}{u:O}{F V:Ae}{U:List (Nat × Ab)}{fu dn:Bool}{le:Int}(h:DskAt w B bp bf bv u F V U fu le dn)(g:0<=le)(i:le<=9223372036854775807)(n:Int){v:O}{l:Ab}(hv:BSl w v l)(f:(0<=n/\n<V.length)/\l.length=256)(hp:lW fu le dn=AN):
 AH Aq 163 #[Ax (Z ⟨bp,0,J⟩),I Ap n,v] w fun e w'=>e=Av (I Ap 2)/\DskAt w' B bp bf bv u F V U fu (Xz fu le dn) (WX fu le dn)/\Wrote w w' bp:=by
 have d:=wN (Jd h g i);have c:=wN (MC h n hv);rw[hp] at d;rw[AK f] at c;clear h hv f;go_enter func163,ntmps163
 go_wp2_with (first|(go_at_call 76;refine Ad c.out ?_;rintro w' rfl)|(go_at_call 164;refine Ad d.out ?_;rintro j ⟨a,b⟩))
 go_ret;exact⟨rfl,a,b⟩
attribute [-go_sem] Instr.build Instr.buildSlice loadCellsFrom
def dJ{w:Y}{B bp bf bv:Nat}{u:O}{F V:Ae}{U:List (Nat × Ab)}{fu dn:Bool}{le:Int}(h:DskAt w B bp bf bv u F V U fu le dn)(h0:0<=le)(K:le<=9223372036854775807)(hp:lW fu le dn=AQ)(n:Nat)(hn:n<V.length){v:O}{l:Ab}(hv:BSl w v l)(hl:l.length=256)(hU:U.length<=1000000):
 AH Aq 163 #[Ax (Z ⟨bp,0,J⟩),I Ap n,v] w fun e w'=>e=Av (I Ap 0)/\∃ u',DskAt w' B bp bf bv u' F (V.set n l) (U ++ [(n,l)]) fu (Xz fu le dn) (WX fu le dn)/\AB B w w'/\FrU w w' bp bf bv u u':=by
 have KF:=wN (MC h n hv);have T:=wN (Jd h h0 K);rw[hp] at T;have R:=wN h;have o:=wN (fun W (hw:Wrote w W bp)=>hv.apartP h hw);generalize Xz fu le dn=c4 at T |-
 generalize WX fu le dn=b5 at T |-
 have rZ:B<=w.heap.size:=by
  have K:=(Au.1 h.hp).1;have:=h.bB;omega
 have hd:decide ((0<=(n:Int)/\(n:Int)<V.length)/\l.length=256)=AQ:=AK ⟨Aa,hl⟩;have b9:(n:Int)<V.length:=Aa;have E:Hid ((cB l).length=256):=by show _=_;rw[CQ,hl]
 have HB:Hid (WU l):=⟨hl,hv.1⟩;have HZ:=wN Fq;have b4:∀ v∈zB,v.oneCell'=AQ:=fun v hv=>by rw[B6 hv];rfl
 have HH:=wN hl;clear hl;go_enter func163,ntmps163
 go_wp2_with (first
  |(go_at_call 76;refine Ad KF.out ?_;rintro w' rfl;rw[hd])
  |(go_at_call 164;refine Ad T.out ?_;rintro C ⟨a7,A⟩
    have S:=wN (o.out _ A))|(go_at_call 77;refine Ad (Mn S.out HH.out) ?_;rintro w1 z)
  |with_reducible refine GE _ rfl rfl ?_
  |(refine FG _ rfl _ _ Aj _ 164 zB (cB l) Aj Aj (Cv _ _) HZ.out E.out (GV l) ?_
    rw[E3]))
 have a4:=wN A;have y:Hid (AB B w C):=wN (A.below h.bB.1);have rZ:B<=C.heap.size:=AU rZ y.out.size;clear h hv KF T R o A;have h:=a7;have hv:=S.out;have m:AB C.heap.size C (w1.alloc (Ay (cB l).toArray 164)):=z.alloc z.size _;obtain⟨c,WO⟩:=nm w1.heap.size;have r:(w1.alloc (Ay (cB l).toArray 164)).heap[c]? =Z (Ay (cB l).toArray 164 (0,0)):=by rw[WO];exact Cv _ _
 rw[<- WO];have Ui:bp<c/\bf<c/\bv<c:=by
  have K:=(Au.1 h.hp).1;have s:=(Au.1 h.hf).1;have h3:=(Au.1 h.hv).1;have:=z.size;omega
 have a3:=wN WO;clear WO;generalize w1.alloc (Ay (cB l).toArray 164)=d at m r |-
 have K:=h.below m;have rL:d.rangeAt c 0 (cB l):=Es r (by rw[CX,BZ]);have tV:d.there bv (n*256) (cB l).length:=Ft K.hv (by rw[E.out,CR (Er h.okV)];omega);have c1:=K.c1;have lx:=GV l;have rV:=underlying164;have r9:(Aq.info? 164).map (·.size)=Z (cB l).length:=by rw[Py,E.out]
 have a1:=E.out;have H:=wN h;have f:d.drew.cell? ⟨bp,1,J⟩=Z (Aw (Z ⟨bv,0,J⟩) V.length V.length)/\d.drew.rangeAt c 0 (cB l)/\d.drew.there bv (n*256) (cB l).length:=⟨c1,rL,tV⟩;have L:(d.drew.setCells bv (n*256) (cB l)).cell? ⟨bp,1,J⟩=Z (Aw (Z ⟨bv,0,J⟩) V.length V.length)/\(d.drew.setCells bv (n*256) (cB l)).rangeAt c 0 (cB l)/\(d.drew.setCells bv (n*256) (cB l)).there bv (n*256) (cB l).length:=
  ⟨by rw[CM _ _ _ _ _ (fun e=>absurd e h.ne.2.1)];exact c1,GX f.2.1 _ _ _ (A4 Aa),Y.there_setCells f.2.2 _ _ _⟩
 clear K r h hv
 go_region_held (fun W=>W.cell? ⟨bp,1,J⟩=Z (Aw (Z ⟨bv,0,J⟩) V.length V.length)/\W.rangeAt c 0 (cB l)/\W.there bv (n*256) (cB l).length) (first|exact f|exact L) (fail)
 go_wp2_with fail
 obtain⟨s,N⟩:=H.out.setV (W:=d.drew) (m.drew) n hn l HB.out;have Lu:(d.drew.setCells bv (n*256) (cB l)).rangeAt c 0 (cB l):=L.2.1;have p:AB B C (d.drew.setCells bv (n*256) (cB l)):=((m.mono rZ).drew).trans (N.below H.out.bB.2.2);have NN:c<(d.drew.setCells bv (n*256) (cB l)).heap.size:=Y.block_lt_of_cell? _ _ (Lu 0 _ (AX Aa));have r_:∀ k,k<C.heap.size->k≠bv->(d.drew.setCells bv (n*256) (cB l)).heap[k]? =C.heap[k]? :=fun k hk b1=>(N.2.2.2.2 k b1).trans ((m.drew).block k hk)
 generalize d.drew.setCells bv (n*256) (cB l)=b at s Lu p NN r_ |-
 clear f L rL tV c1 N m;have Q:=wN r_;clear r_;have tc:B<=b.heap.size:=AU rZ p.size;obtain⟨i,a8,a9,gk,lv⟩:=Bs ay;have c2:=s.c2;have fz:=s.fr 2;have b6:=fun W=>Vv W n l HH.out
 have b7:=fun W=>UF W (I Ap n :: cB l) (by rw[BJ,E.out])
 have a2:=s.hu;have a6:(I Ap n :: cB l).length=257:=by rw[BJ,E.out]
 have rW:∀ v∈(I Ap n :: cB l),v.oneCell'=AQ:=Zr (n,l);have f:b.drew.rangeAt c 0 (cB l):=Lu;have b3:bp≠c:=Aa;have c0:u.ownBlock≠Z c:=fun e=>by have:=(H.out.hu.lt _ e).2;have:=z.size;have:=a3.out;omega
 have b2:=wN tc;have o6:(O.agg (I Ap 0 :: zB).toArray).cells.size=257:=by show(I Ap 0 :: zB).toArray.size=257;simp[Fq]
 have a0:∀ x,((b.alloc (Ay (I Ap n :: cB l).toArray 168)).drew).grownBy x u.ownBlock->x.cell? ⟨bp,2,J⟩=Z u/\x.frozen? ⟨bp,2,J⟩=AN:=fun x hg=>by
  have M:bp<b.heap.size:=(Au.1 s.hp).1;have WN:bp<((b.alloc (Ay (I Ap n :: cB l).toArray 168)).drew).heap.size:=Ak;rw[hg.cell_far _ WN (C0 s.une.1),hg.frozen_far _ WN (C0 s.une.1)];exact⟨by rw[Y.cell?_drew,Dh _ _ _ M];exact c2,by rw[Y.frozen?_drew,Y.frozen?_alloc_past _ _ _ M];exact fz⟩
 have X:=fun x a g G SD D=>s.pushU (W:=(b.alloc (Ay (I Ap n :: cB l).toArray 168)).drew) (w3:=x) (((AP _ _).alloc (AE _) _).drew) tc a g G (n,l) ⟨by rw[AR];exact hn,HB.out⟩ SD D
 have b8:(loadCellsFrom ⟨c,0,J⟩ 0 256 #[]).run Aq b.drew=.ok (cB l).toArray b.drew:=by
  have:=run_loadCells_list (P:=Aq) b.drew ⟨c,0,J⟩ (cB l) (fun j v hv=>by rw[Addr.add_mid];exact f j v hv);rw[E.out] at this;exact this
 have b0:bp<b.heap.size:=(Au.1 s.hp).1;clear rV r9 a1
 go_region_law
  ((refine step_append_lies _ Aj _ _ _ Aj B 168 i _ 257 264 underlying141 a8 a9 gk lv o6 Aa u U.length (U.flatMap cU) Aj ((a2.alloc _).drew)
     ⟨b.heap.size,0,J⟩ 1 1 (I Ap n :: cB l) Aj a6 (Y.news_of_block (cs:=(I Ap n :: cB l).toArray) (t:=168) (fr:=(0,0)) (AC b _)) rW
     Aa (by simp only[maxLen];omega) Aa (AU tc Ai) (b.heap.size+1) Ai ?_;intro gg G x SD a D M;obtain⟨c3,f3⟩:=a0 x a))
 all_goals
  obtain⟨aX,a5⟩:=X x a gg G SD (by simpa using D);clear X a0;go_wp2_with fail
  go_ret;have q:=(y.out.trans p).trans a5;refine⟨rfl,_,aX,q,q.os,q.tape,q.output,q.size,fun k hk k1 k2 k3 k4=>?_,fun k hk=>?_⟩
  . have e0:k<C.heap.size:=AL hk y.out.size
    have e1:k<b.heap.size:=AL e0 p.size;have e2:k<((b.alloc (Ay (I Ap n :: cB l).toArray 168)).drew).heap.size:=Ak;rw[AZ _ _ _ _ k1,a.block k e2 (C0 k4)];exact(((AP b.heap.size b).alloc (AE _) _).block k e1).trans ((Q.out k e0 k3).trans (a4.out.2.2.2.2 k k1))
  . obtain rfl:gg=k:=by simpa [O.ownBlock] using hk
    rcases D with D|D
    . exact A4 D
    . right
      have:=p.size;have:=y.out.size;omega
end
section
open Go.RowKit
def BBSl(w:Y)(v:O)(L:Ae):Prop:=
 (v=Aw J 0 0/\L=[])\/∃ a b,v=Aw (Z a) L.length b/\L.length<=b/\∀ j,j<L.length->a.block<w.heap.size/\a.spot=J/\
   ∃ u,w.cell? ⟨a.block,a.off+j,J⟩=Z u/\BSl w u (L.getD j [])
def BBSl.keep{w w':Y}{v:O}{L:Ae}(h:BBSl w v L)(d:w.heap.size<=w'.heap.size)(hb:∀ p:Addr,p.block<w.heap.size->w'.cell? p=w.cell? p):BBSl w' v L:=by
 rcases h with h| ⟨a,b,n,f,l⟩
 . exact A4 h
 . refine A8 ⟨a,b,n,f,fun j m=>?_⟩
   obtain⟨c,g,u,i,k⟩:=l j m;exact⟨AL c d,g,u,by rw[hb _ (by exact c),i],k.keep d hb⟩
def BBSl.below{w w':Y}{v:O}{L:Ae}(h:BBSl w v L)(hb:AB w.heap.size w w'):BBSl w' v L:=
 h.keep hb.size fun _ a=>hb.cell a
def BBSl.open'{w:Y}{v:O}{L:Ae}(h:BBSl w v L):∃ f cap,v=Aw f L.length cap/\L.length<=cap/\(0<L.length->∃ b off,f=Z ⟨b,off,J⟩/\b<w.heap.size/\
 ∀ j,j<L.length->∃ u,w.cell? ⟨b,off+j,J⟩=Z u/\BSl w u (L.getD j [])):=by
 rcases h with⟨d,c⟩| ⟨⟨b,off,a⟩,cap,d,i,g⟩
 . exact⟨J,0,by rw[d,c];rfl,by rw[c];exact AE _,fun h=>by rw[c] at h;simp at h⟩
 . refine⟨_,cap,d,i,fun k=>?_⟩
   obtain⟨l,m,_⟩:=g 0 k;obtain rfl:a=J:=m;exact⟨b,off,rfl,l,fun j n=>(g j n).2.2⟩
def BBSl.shape{w:Y}{v:O}{L:Ae}(h:BBSl w v L):∃ a cap,v=Aw a L.length cap/\L.length<=cap:=by
 obtain⟨a,cap,c,b,_⟩:=h.open';exact⟨a,cap,c,b⟩
def BSl.one{w:Y}{v:O}{l:Ab}(h:BSl w v l):v.oneCell'=AQ:=by
 obtain⟨b,a,rfl,_⟩:=h.shape;rfl
def BElt(w:Y)(B:Nat)(x:O)(l:Ab):Prop:=
 BSl w x l/\(0<l.length->∃ b d a,x=Aw (Z ⟨b,d,J⟩) l.length a/\b<w.heap.size/\(b<B\/∃ c,w.heap[b]? =Z (Ay c 5 (0,0))))
def BElt.grown{w w':Y}{B:Nat}{x:O}{l:Ab}(h:BElt w B x l){row:Option Nat}(n:∀ g,row=Z g->B<=g/\∃ cur,w.heap[g]? =Z (Ay cur 77 (0,0)))(r:w.grownBy w' row):BElt w' B x l:=by
 by_cases v:0<l.length
 . obtain⟨b,d,c,rfl,z,m⟩:=h.2 v
   have t:Z b≠row:=fun e=>by
    obtain⟨y,cur,k⟩:=n b e.symm;rcases m with o| ⟨u,o⟩
    . omega
    . rw[o] at k
      injection k with k
      injection k with _ h4
      exact absurd h4 Af
   have A:=r.block b z t;refine⟨⟨h.1.1,?_⟩,fun _=>⟨b,d,c,rfl,AL z r.size,m.elim A4 fun⟨cur,q⟩=>A8 ⟨cur,by rw[A];exact q⟩⟩⟩;rcases h.1.2 with⟨f,_⟩| ⟨a,i,f,p,q⟩
   . simp at f
   . obtain⟨rfl,rfl⟩:a=⟨b,d,J⟩/\c=i:=⟨(Bc (Be f).1).symm,(Be f).2.2⟩
     refine A8 ⟨_,c,rfl,p,fun j s=>?_⟩;obtain⟨y,k,o⟩:=q j s;exact⟨AL y r.size,rfl,by rw[Bi (a:=⟨b,d+j,J⟩) A];exact o⟩
 . obtain rfl:l=[]:=A3 Aa
   refine⟨⟨EX,?_⟩,fun h=>absurd h v⟩;rcases h.1.2 with h| ⟨a,c,f,p,_⟩
   . exact A4 h
   . exact A8 ⟨a,c,f,p,fun j s=>absurd s (Bm _)⟩
def PE{w w':Y}(h:AB w.heap.size w w'):w.grownBy w' J:=⟨h.os,h.tape,h.output,h.size,fun k a _=>h.block k a⟩
def BElt.below{w w':Y}{B:Nat}{x:O}{l:Ab}(h:BElt w B x l)(hb:AB w.heap.size w w'):BElt w' B x l:=
 h.grown (row:=J) (fun g e=>by cases e) (PE hb)
def OB.elt{w:Y}{B B':Nat}{x:O}{l:Ab}(h:OB w B' x l):BElt w B x l:=by
 refine⟨h.bsl,fun f=>?_⟩;rcases h.2.2 with⟨_,i⟩| ⟨g,a,b,d,_,c,_⟩
 . omega
 . exact⟨g,0,a,d,(Au.1 c).1,A8 ⟨b,c⟩⟩
def BBE(w:Y)(B:Nat)(v:O)(L:Ae):Prop:=
 (v=Aw J 0 0/\L=[])\/∃ a b,v=Aw (Z a) L.length b/\L.length<=b/\∀ j,j<L.length->a.block<w.heap.size/\a.spot=J/\
   ∃ u,w.cell? ⟨a.block,a.off+j,J⟩=Z u/\BElt w B u (L.getD j [])
def BBE.below{w w':Y}{B:Nat}{v:O}{L:Ae}(h:BBE w B v L)(hb:AB w.heap.size w w'):BBE w' B v L:=by
 rcases h with h| ⟨a,b,m,d,k⟩
 . exact A4 h
 . refine A8 ⟨a,b,m,d,fun j l=>?_⟩
   obtain⟨c,f,u,g,i⟩:=k j l;exact⟨AL c hb.size,f,u,by rw[hb.cell (p:=⟨a.block,a.off+j,J⟩) c,g],i.below hb⟩
def BBE.sl{w:Y}{B:Nat}{v:O}{L:Ae}(h:BBE w B v L):BBSl w v L:=by
 rcases h with h| ⟨a,b,m,c,k⟩
 . exact A4 h
 . refine A8 ⟨a,b,m,c,fun j l=>?_⟩
   obtain⟨d,f,u,g,i⟩:=k j l;exact⟨d,f,u,g,i.1⟩
def BBR(w:Y)(B:Nat)(v:O)(L:Ae):Prop:=
 ∃ a:List O,a.length=L.length/\(∀ j,j<L.length->BElt w B (a.getD j undef) (L.getD j []))/\w.ownsRow B 77 1 v L.length a
def BBR.be{w:Y}{B:Nat}{v:O}{L:Ae}(h:BBR w B v L):BBE w B v L:=by
 obtain⟨d,s,m,l⟩:=h;rcases l.2 with⟨c,o⟩| ⟨g,a,b,c,r,f,i,p,q,n⟩
 . exact A4 ⟨c,A3 o⟩
 . refine A8 ⟨_,a,c,i,fun j k=>⟨(Au.1 f).1,rfl,d.getD j undef,?_,m j k⟩⟩
   show w.cell? ⟨g,0+j,J⟩=_
   rw[BC,AD _ _ _ _ _ _ f];have:(b.toList.take (L.length*1))[j]? =d[j]? :=(by rw[n]);rw[Bb,AG Aa] at this
   simpa [show j<d.length from Aa] using this
def BBR.sl{w:Y}{B:Nat}{v:O}{L:Ae}(h:BBR w B v L):BBSl w v L:=h.be.sl
def BBR.below{w w':Y}{B:Nat}{v:O}{L:Ae}(h:BBR w B v L)(hb:AB w.heap.size w w'):BBR w' B v L:=by
 obtain⟨n,k,l,d⟩:=h;refine⟨n,k,fun j i=>(l j i).below hb,d.1,?_⟩;rcases d.2 with h| ⟨g,a,b,m,f,c,r⟩
 . exact A4 h
 . exact A8 ⟨g,a,b,m,f,by rw[hb.block g (Au.1 c).1];exact c,r⟩
def PP:(Aq.info? 77).map (fun i=>(i.zero,i.size,i.bytes))=Z (Z (Aw J 0 0),1,24):=Ac
def oI{w1:Y}{B:Nat}{x:O}{l:Ab}(c:BElt w1 B x l)(a:B<=w1.heap.size):
 BBR (w1.alloc (Ay #[x] 77)) B (Aw (Z ⟨w1.heap.size,0,J⟩) 1 1) [l]:=by
 refine⟨[x],rfl,fun j b=>?_,rfl,A8 ⟨w1.heap.size,1,#[x],rfl,a,AC w1 _,AE _,Af,rfl,rfl⟩⟩;obtain rfl:j=0:=by simpa using b
 exact c.below (AF _ _)
def BB2(w:Y)(B E:Nat)(v:O)(L:Ae):Prop:=
 ∃ a:List O,a.length=L.length/\(∀ j,j<L.length->BElt w E (a.getD j undef) (L.getD j []))/\w.ownsRow B 77 1 v L.length a
def BB2.lower{w:Y}{B B' E:Nat}{v:O}{L:Ae}(h:BB2 w B E v L)(d:B'<=B):BB2 w B' E v L:=by
 obtain⟨l,i,j,c⟩:=h;exact⟨l,i,j,c.1,c.2.imp id fun⟨g,a,b,k,f,r⟩=>⟨g,a,b,k,AU d f,r⟩⟩
def BB2.bbr{w:Y}{B:Nat}{v:O}{L:Ae}(h:BB2 w B B v L):BBR w B v L:=h
def BBR.bb2{w:Y}{B:Nat}{v:O}{L:Ae}(h:BBR w B v L):BB2 w B B v L:=h
def BB2.zero{w:Y}{B:Nat}{v:O}{L:Ae}(h:BB2 w B 0 v L):BBR w 0 v L:=h.lower (A7 _)
def BB2.below{w w':Y}{B E:Nat}{v:O}{L:Ae}(h:BB2 w B E v L)(hb:AB w.heap.size w w'):BB2 w' B E v L:=by
 obtain⟨n,k,l,d⟩:=h;refine⟨n,k,fun j i=>(l j i).below hb,d.1,?_⟩;rcases d.2 with h| ⟨g,a,b,m,f,c,r⟩
 . exact A4 h
 . exact A8 ⟨g,a,b,m,f,by rw[hb.block g (Au.1 c).1];exact c,r⟩
def TN{w1:Y}{B E:Nat}{x:O}{l:Ab}(c:BElt w1 E x l)(a:B<=w1.heap.size):
 BB2 (w1.alloc (Ay #[x] 77)) B E (Aw (Z ⟨w1.heap.size,0,J⟩) 1 1) [l]:=by
 refine⟨[x],rfl,fun j b=>?_,rfl,A8 ⟨w1.heap.size,1,#[x],rfl,a,AC w1 _,AE _,Af,rfl,rfl⟩⟩;obtain rfl:j=0:=by simpa using b
 exact c.below (AF _ _)
def H4(S:Cn)(K:Aq.underlying S=Z (.slice 77))(w:Y)(B E:Nat)(qo:E<=B)(C:Cn)(v:O)(L:Ae)(o:BB2 w B E v L)(u:O)(M:Ae)(hr:BBE w E u M)
 (R:L.length+M.length<=1000000) (I:B<=w.heap.size):
 ∃ v' w',(Builtin.append_ #[S,S] C #[v,u]).run Aq w=.ok v' w'/\BB2 w' B E v' (L ++ M)/\AB B w w'/\w.grownBy w' v.ownBlock:=by
 obtain⟨t,H,X,h4,h5⟩:=Bs PP;obtain⟨r,D,p,n⟩:=o;rcases hr with⟨rfl,rfl⟩| ⟨⟨b,d,c⟩,y,rfl,CD,N⟩
 . have s:=run_append_owned_none (P:=Aq) (w:=w) B S C 77 t 1 K H v L.length r n
   exact⟨v,w,s,by rw[Cc];exact⟨r,D,p,n⟩,AP _ _,Y.grownBy.refl w _⟩
 . have l:∀ j,j<M.length->∃ x,w.cell? ⟨b,d+j,J⟩=Z x/\BElt w E x (M.getD j []):=fun j a=>(N j a).2.2
   obtain⟨f,z⟩:∃ f:Nat->O,∀ j,j<M.length->w.cell? ⟨b,d+j,J⟩=Z (f j)/\BElt w E (f j) (M.getD j []):=by
    refine⟨fun j=>if a:j<M.length then (l j a).choose else undef,fun j a=>?_⟩;simp only[a,dif_pos];exact(l j a).choose_spec
   have U:0<M.length->c=J:=fun W=>(N 0 W).2.1
   have T:∀ j x,((BE M.length).map f)[j]? =Z x->w.cell? (Addr.add ⟨b,d,c⟩ j)=Z x:=fun j x a=>by
    have F:j<M.length:=by simpa using (Bo.1 a).1
    obtain rfl:=U Aa;rw[Cd,(z j F).1,<- a];simp[F]
   obtain⟨v',w',s,h6,q,_⟩:=run_append_own (P:=Aq) w B S C 77 t _ 1 24 K H X h4 h5 rfl Af v L.length r n ⟨b,d,c⟩ M.length y ((BE M.length).map f) Ai T (fun x hx=>by
    obtain⟨j,a,rfl⟩:=Ce.1 hx;exact(z j (Bq.1 a)).2.1.one) (by simp only[maxLen];omega) Aa I
   have h:∀ g,v.ownBlock=Z g->E<=g/\∃ i,w.heap[g]? =Z (Ay i 77 (0,0)):=fun g Q=>by
    rcases n.2 with⟨rfl,_⟩| ⟨V,G,i,rfl,A,hh,_⟩
    . simp[O.ownBlock] at Q
    . obtain rfl:V=g:=by simpa [O.ownBlock] using Q
      exact⟨AU qo A,i,hh⟩
   refine⟨v',w',s,⟨r ++ (BE M.length).map f,by simp[D],fun j a=>?_,by rw[AO];exact h6⟩,(AP _ _).grown q I fun k hk=>(BY n k hk).1,q⟩;rw[AO] at a;by_cases e:j<L.length
   . have:=(p j e).grown h q
     rw[Az,Az,BT Aa,BT e,<- Az,<- Az];exact this
   . have m:j-L.length<M.length:=by omega
     have:=(z (j-L.length) m).2.grown h q;rw[Az,Az,B5 Aa,B5 Aa,D];rw[Az] at this
     simpa [m] using this
def Ml(S:Cn)(m:Aq.underlying S=Z (.slice 77))(w:Y){d:Array BK}{rest:List BK}{o:BK}{a:Act}{Q:Exit->Act->Y->Prop}(g:o.guard=J)(s y:Operand)
 (n:o.op=.call { callee:=.builtin .append,args:=#[s,y],argTypes:=#[S,S] })
 (B E:Nat) (r:E<=B) (v:O) (L:Ae) (p:a.eval s=v) (c:BB2 w B E v L) (u:O) (M:Ae) (q:a.eval y=u) (f:BBE w E u M)
 (b:L.length+M.length<=1000000) (k:B<=w.heap.size)
 (h:∀ v' w',BB2 w' B E v' (L ++ M)->AB B w w'->Cj Aq d Q rest (a.put o.dst v') w'):Cj Aq d Q (o :: rest) a w:=by
 obtain⟨v',w',f,i,j,_⟩:=H4 S m w B E r o.type v L c u M f b k;refine CH g fun K l=>?_
 unfold BK.wp execOp;simp only[n,resolve,invoke,builtin,Dm,Sem.run_pure,Result.andThen_ok,Fe,DT,II,p,q,f];exact l _ _ (h v' w' i j)
def GQ(S:Cn)(n:Aq.underlying S=Z (.slice 77))(w1:Y)(x:O)(l:Ab){d:Array BK}{rest:List BK}{o:BK}{a:Act}{Q:Exit->Act->Y->Prop}(k:o.guard=J)(s y:Operand)
 (p:o.op=.call { callee:=.builtin .append,args:=#[s,y],argTypes:=#[S,S] })
 (B E:Nat) (j:E<=B) (v:O) (L:Ae) (t:a.eval s=v) (c:BB2 w1 B E v L) (u:BElt w1 E x l) (q:Nat) (w:a.eval y=Aw (Z ⟨q,0,J⟩) 1 1) (r:q=w1.heap.size) (i:L.length<=100000) (g:B<=w1.heap.size)
 (h:∀ v' w',BB2 w' B E v' (L ++ [l])->AB B w1 w'->Cj Aq d Q rest (a.put o.dst v') w'):Cj Aq d Q (o :: rest) a (w1.alloc (Ay #[x] 77)):=by
 subst r;have b:AB w1.heap.size w1 (w1.alloc (Ay #[x] 77)):=AF _ _;have f:BBE (w1.alloc (Ay #[x] 77)) E (Aw (Z ⟨w1.heap.size,0,J⟩) 1 1) [l]:=(oI u (B:=E) (AU j g)).be;refine Ml S n _ k s y p B E j v L t (c.below b) _ [l] w f Ak Ak fun v' w' f m=>?_
 exact h v' w' f ((b.mono g).trans m)
def ISl(w:Y)(v:O)(l:Ab):Prop:=
 (v=Aw J 0 0/\l=[])\/∃ a b,v=Aw (Z a) l.length b/\∀ j,j<l.length->a.block<w.heap.size/\a.spot=J/\w.cell? ⟨a.block,a.off+j,J⟩=Z (I Ap (l.getD j 0))
def ISl.below{w w':Y}{v:O}{l:Ab}(h:ISl w v l)(hb:AB w.heap.size w w'):ISl w' v l:=by
 rcases h with h| ⟨a,b,k,g⟩
 . exact A4 h
 . refine A8 ⟨a,b,k,fun j i=>?_⟩
   obtain⟨c,d,f⟩:=g j i;exact⟨AL c hb.size,d,by rw[hb.cell (p:=⟨a.block,a.off+j,J⟩) c,f]⟩
def ISl.open'{w:Y}{v:O}{l:Ab}(h:ISl w v l):∃ d cap,v=Aw d l.length cap/\(0<l.length->∃ b off,d=Z ⟨b,off,J⟩/\b<w.heap.size/\
 ∀ j,j<l.length->w.cell? ⟨b,off+j,J⟩=Z (I Ap (l.getD j 0))):=by
 rcases h with⟨c,g⟩| ⟨⟨b,off,a⟩,cap,c,f⟩
 . exact⟨J,0,by rw[c,g];rfl,fun h=>by rw[g] at h;simp at h⟩
 . refine⟨_,cap,c,fun i=>?_⟩
   obtain⟨k,m,_⟩:=f 0 i;obtain rfl:a=J:=m;exact⟨b,off,rfl,k,fun j n=>(f j n).2.2⟩
def ISl.at{w:Y}{v:O}{l:Ab}(h:ISl w v l)(a:0<l.length):∃ b off cap,v=Aw (Z ⟨b,off,J⟩) l.length cap/\b<w.heap.size/\
 ∀ j,j<l.length->w.cell? ⟨b,off+j,J⟩=Z (I Ap (l.getD j 0)):=by
 obtain⟨i,cap,g,f⟩:=h.open';obtain⟨b,off,rfl,c,d⟩:=f a;exact⟨b,off,cap,g,c,d⟩
def ISl.shape{w:Y}{v:O}{l:Ab}(h:ISl w v l):∃ a cap,v=Aw a l.length cap:=by
 obtain⟨a,cap,b,_⟩:=h.open';exact⟨a,cap,b⟩
def iC(l:Ab):List O:=l.map (I Ap)
def CF(l:Ab):(iC l).length=l.length:=Bn _
def Qq(l:Ab):∀ v∈iC l,v.oneCell'=AQ:=fun v a=>by
 obtain⟨x,_,rfl⟩:=Ce.1 a;rfl
def iO(l:Ab)(T:Cn):Obj:=Ay (iC l).toArray T (0,0)
def Gd{W:Y}{g:Nat}{l:Ab}{T:Cn}(h:W.heap[g]? =Z (iO l T))(k:Nat)(a:k<l.length):W.cell? ⟨g,k,J⟩=Z (I Ap (l.getD k 0)):=by
 rw[AD _ _ _ _ _ _ h];simp[iC,a]
def OY{W:Y}{g:Nat}{l:Ab}{T:Cn}(h:W.heap[g]? =Z (iO l T))(k:Nat):W.frozen? ⟨g,k,J⟩=AN:=by
 simp[Y.frozen?,h,iO]
def Td{W:Y}{g:Nat}{l:Ab}{T:Cn}(h:W.heap[g]? =Z (iO l T))(j:Nat)(y:Int):(W.setCell ⟨g,j,J⟩ (I Ap y)).heap[g]? =Z (iO (l.set j y) T):=by
 rw[Bk W g j _ _ _ h];simp[iO,iC]
def Gf{W:Y}{g:Nat}{l:Ab}{T:Cn}(h:W.heap[g]? =Z (iO l T)):W.rangeAt g 0 (iC l):=
 Es h (by rw[CX,BZ])
def IR(w:Y)(B:Nat)(v:O)(l:Ab):Prop:=w.ownsRow B 3 1 v l.length (iC l)
def IR.sl{w:Y}{B:Nat}{v:O}{l:Ab}(h:IR w B v l):ISl w v l:=by
 rcases h.2 with⟨c,i⟩| ⟨g,a,b,c,p,d,m,n,o,k⟩
 . exact A4 ⟨c,A3 i⟩
 . refine A8 ⟨_,a,c,fun j f=>⟨(Au.1 d).1,rfl,?_⟩⟩
   show w.cell? ⟨g,0+j,J⟩=_
   rw[BC,AD _ _ _ _ _ _ d];have:(b.toList.take (l.length*1))[j]? =(iC l)[j]? :=(by rw[k]);rw[Bb,AG Aa] at this
   simpa [iC,f] using this
def IR.below{w w':Y}{B:Nat}{v:O}{l:Ab}(h:IR w B v l)(hb:AB w.heap.size w w'):IR w' B v l:=by
 refine⟨h.1,?_⟩;rcases h.2 with h| ⟨g,a,b,f,d,c,r⟩
 . exact A4 h
 . exact A8 ⟨g,a,b,f,d,by rw[hb.block g (Au.1 c).1];exact c,r⟩
def IR.of_row{w:Y}{B g:Nat}{l:Ab}(a:B<=g)(b:w.heap[g]? =Z (iO l 3))(c:l.length<=maxLen):
 IR w B (Aw (Z ⟨g,0,J⟩) l.length l.length) l:=by
 refine⟨by simp[iC],A8 ⟨g,l.length,_,rfl,a,b,AE _,c,by simp[iC],?_⟩⟩;rw[A2 (by simp[iC])]
def Uf:(Aq.info? 3).map (fun i=>(i.zero,i.size,i.bytes))=Z (Z (I Ap 0),1,8):=Ac
def We(n:Nat):madeCells (I Ap 0).cells n=(iC (AI n 0)).toArray:=by
 apply Array.ext';rw[show(I Ap 0).cells=#[I Ap 0] from rfl,toList_madeCells_one];simp[iC]
def Jy(w:Y){b:Array BK}{rest:List BK}{o:BK}{a:Act}{Q:Exit->Act->Y->Prop}
 (s:o.guard=J) (l c:Operand) (g:o.op=Op.makeSlice 179 l c) (C:Int) (n:Nat) (t:a.eval l=I Ap C) (r:a.eval c=I Ap C) (p:C=n) (u:n<=1000000)
 (q:Cj Aq b Q rest (a.put o.dst (Aw (Z ⟨w.heap.size,0,J⟩) n n)) (w.alloc (iO (AI n 0) 3))):
 Cj Aq b Q (o :: rest) a w:=by
 refine CH s fun K d=>?_
 obtain⟨i,h,j,k,m⟩:=Bs Uf;subst p;have f:=run_make (P:=Aq) w 179 3 i (I Ap 0) underlying179 h j Ap Ap n n Aa Aa (by rw[m];omega) Aa;unfold BK.wp;simp only[Cf,k,Nat.mul_one,We] at f;simp[execOp,g,t,r,f,Result.andThen];exact d _ _ q
section
variable {α:Type}{f:α->List O}{s:Nat}
def Qf{w:Y}{g k:Nat}{t:Cn}{L:List α}(b:w.heap[g]? =Z (Ay (L.flatMap f).toArray t (0,0)))(hf:∀ x∈L,(f x).length=s)(a:k<L.length):w.rangeAt g (k*s) (f L[k]):=by
 refine Es b ?_;rw[hf _ (Br a)];exact Gi hf k a
def EW{b:Array BK}{rest:List BK}{op:BK}{a:Act}{w:Y}{Q:Exit->Act->Y->Prop}(m:op.guard=J)(T:Cn)(x y:Operand)(o:op.op=.store T x y)
 (p:(Aq.info? T).map (·.size)=Z s) (g k:Nat) (L:List α) (z:α) (t:Cn) (q:a.eval x=Ax (Z ⟨g,k*s,J⟩)) (r:a.eval y=BS (f z).toArray)
 (c:w.heap[g]? =Z (Ay (L.flatMap f).toArray t (0,0))) (j:k<L.length) (hf:∀ x∈L,(f x).length=s) (d:(f z).length=s) (i:∀ v∈f z,v.oneCell'=AQ)
 (h:∀ w',Wrote w w' g->w'.heap[g]? =Z (Ay ((L.set k z).flatMap f).toArray t (0,0))->Cj Aq b Q rest (a.put op.dst undef) w'):Cj Aq b Q (op :: rest) a w:=by
 have n:k*s+s<=L.length*s:=by
  have:=Nat.mul_le_mul_right s (show k+1<=L.length from j);rw[Nat.succ_mul] at this;omega
 have l:k*s+(f z).length<=(L.flatMap f).length:=by rw[CR hf,d];exact n
 refine wpList_store_mid m T x y o g (k*s) (f z).toArray q r (Ft c (by simpa using l)) (by rw[p];simp[d]) (Gt i) ?_;have e:=Fp c l i;rw[show(f z).toArray.toList=f z from rfl,e];refine h _ (Wrote.setRow _ _ _) ?_;rw[CJ _ _ _ _ _ _ c,IN hf k j z d]
end
def BG{c:Array BK}{rest:List BK}{op:BK}{a:Act}{w:Y}{Q:Exit->Act->Y->Prop}(f:op.guard=J)(T:Cn)(x:Operand)(i:op.op=.load T x)
 (b o:Nat) (j:a.eval x=Ax (Z ⟨b,o,J⟩)) (l:Ab) (d:TypeDesc) (g:w.rangeAt b o (iC l))
 (hu:Aq.underlying T=Z d) (hd:d.isRow=AQ) (hi:(Aq.info? T).map (·.size)=Z l.length)
 (h:Cj Aq c Q rest (a.put op.dst (BS (iC l).toArray)) w):Cj Aq c Q (op :: rest) a w:=
 wpList_load_mid f T x i b o j (iC l) d g hu hd (by rw[hi,CF]) h
def Nc{w w':Y}{b o:Nat}{cs:List O}(h:w.rangeAt b o cs)(hb:AB w.heap.size w w')(a:b<w.heap.size):w'.rangeAt b o cs:=fun j v c=>by
 rw[hb.cell (p:=⟨b,o+j,J⟩) a];exact h j v c
def KeptG(w w':Y)(g:Nat):Prop:=w'.os=w.os/\w'.tape=w.tape/\w'.output=w.output/\w.heap.size<=w'.heap.size/\∀ k,k<w.heap.size->k≠g->w'.heap[k]? =w.heap[k]?
def KeptG.refl(w:Y)(g:Nat):KeptG w w g:=⟨rfl,rfl,rfl,AE _,fun _ _ _=>rfl⟩
def KeptG.then{w w' a:Y}{g:Nat}(h:KeptG w w' g)(hb:AB w'.heap.size w' a):KeptG w a g:=
 ⟨hb.os.trans h.1,hb.tape.trans h.2.1,hb.output.trans h.2.2.1,AU h.2.2.2.1 hb.size,fun k c b=>by rw[hb.block k (AL c h.2.2.2.1)];exact h.2.2.2.2 k c b⟩
def KeptG.wrote{w w' b:Y}{g:Nat}(h:KeptG w w' g)(hb:Wrote w' b g):KeptG w b g:=
 ⟨hb.1.trans h.1,hb.2.1.trans h.2.1,hb.2.2.1.trans h.2.2.1,by rw[hb.2.2.2.1];exact h.2.2.2.1,fun k c a=>by rw[hb.2.2.2.2 k a];exact h.2.2.2.2 k c a⟩
def KeptG.below{w w':Y}{g B:Nat}(h:KeptG w w' g)(c:B<=g)(b:B<=w.heap.size):AB B w w':=
 ⟨h.1,h.2.1,h.2.2.1,h.2.2.2.1,fun k a=>h.2.2.2.2 k (AL a b) Aa⟩
structure Chg (P P':Nat->Prop) (w w':Y):Prop where
 os:w'.os=w.os
 tape:w'.tape=w.tape
 output:w'.output=w.output
 size:w.heap.size<=w'.heap.size
 keep:∀ k,k<w.heap.size->¬ P k->w'.heap[k]? =w.heap[k]? /\¬ P' k
def Chg.refl(P:Nat->Prop)(w:Y):Chg P P w w:=⟨rfl,rfl,rfl,AE _,fun _ _ h=>⟨rfl,h⟩⟩
def Chg.trans{P f d:Nat->Prop}{a b c:Y}(h:Chg P f a b)(k:Chg f d b c):Chg P d a c:=
 ⟨k.os.trans h.os,k.tape.trans h.tape,k.output.trans h.output,AU h.size k.size,fun i g o=>by
   obtain⟨j,l⟩:=h.keep i g o;obtain⟨m,n⟩:=k.keep i (AL g h.size) l;exact⟨m.trans j,n⟩⟩
def Chg.of_below{P:Nat->Prop}{w w':Y}(h:AB w.heap.size w w'):Chg P P w w':=⟨h.os,h.tape,h.output,h.size,fun k a b=>⟨h.block k a,b⟩⟩
def Chg.below{P c:Nat->Prop}{w w':Y}(h:Chg P c w w'){B:Nat}(a:∀ k,k<B->k<w.heap.size/\¬ P k):AB B w w':=
 ⟨h.os,h.tape,h.output,h.size,fun k b=>(h.keep k (a k b).1 (a k b).2).1⟩
def Apt(P:Nat->Prop)(v:O):Prop:=∀ b n a,v=Aw (Z b) n a->0<n->¬ P b.block
def Apt.nil(P:Nat->Prop):Apt P (Aw J 0 0):=fun b n a h=>by cases h
def Apt.new{P:Nat->Prop}{g off n cap:Nat}(h:¬ P g):Apt P (Aw (Z ⟨g,off,J⟩) n cap):=fun b c a e _=>by
 obtain rfl:=Bc (Be e).1;exact h
def BSl.chg{P g:Nat->Prop}{w w':Y}{v:O}{l:Ab}(h:BSl w v l)(o:Apt P v)(d:Chg P g w w'):BSl w' v l/\Apt g v:=by
 rcases h.2 with⟨b,x⟩| ⟨a,c,b,q,f⟩
 . exact⟨⟨h.1,A4 ⟨b,x⟩⟩,by rw[b];exact Apt.nil _⟩
 . refine⟨⟨h.1,A8 ⟨a,c,b,q,fun j t=>?_⟩⟩,fun i n k e p=>?_⟩
   . obtain⟨m,r,s⟩:=f j t
     have u:=d.keep a.block m (o _ _ _ b Aa);exact⟨AL m d.size,r,by rw[Bi (a:=⟨a.block,a.off+j,J⟩) (w:=w) u.1];exact s⟩
   . obtain⟨rfl,rfl⟩:i=a/\n=l.length:=by
      rw[b] at e;exact⟨(Bc (Be e).1).symm,(Be e).2.1.symm⟩
     exact(d.keep i.block (f 0 p).1 (o _ _ _ b p)).2
def ISl.chg{P g:Nat->Prop}{w w':Y}{v:O}{l:Ab}(h:ISl w v l)(o:Apt P v)(d:Chg P g w w'):ISl w' v l/\Apt g v:=by
 rcases h with⟨b,u⟩| ⟨a,c,b,f⟩
 . exact⟨A4 ⟨b,u⟩,by rw[b];exact Apt.nil _⟩
 . refine⟨A8 ⟨a,c,b,fun j s=>?_⟩,fun i n k e p=>?_⟩
   . obtain⟨m,q,r⟩:=f j s
     have t:=d.keep a.block m (o _ _ _ b Aa);exact⟨AL m d.size,q,by rw[Bi (a:=⟨a.block,a.off+j,J⟩) (w:=w) t.1];exact r⟩
   . obtain⟨rfl,rfl⟩:i=a/\n=l.length:=by
      rw[b] at e;exact⟨(Bc (Be e).1).symm,(Be e).2.1.symm⟩
     exact(d.keep i.block (f 0 p).1 (o _ _ _ b p)).2
def BBa(w:Y)(P:Nat->Prop)(v:O)(L:Ae):Prop:=
 (v=Aw J 0 0/\L=[])\/∃ a b,v=Aw (Z a) L.length b/\L.length<=b/\∀ j,j<L.length->(a.block<w.heap.size/\¬ P a.block)/\a.spot=J/\
   ∃ u,w.cell? ⟨a.block,a.off+j,J⟩=Z u/\BSl w u (L.getD j [])/\Apt P u
def BBa.sl{w:Y}{P:Nat->Prop}{v:O}{L:Ae}(h:BBa w P v L):BBSl w v L:=by
 rcases h with h| ⟨a,b,m,c,k⟩
 . exact A4 h
 . refine A8 ⟨a,b,m,c,fun j l=>?_⟩
   obtain⟨d,f,u,g,i,_⟩:=k j l;exact⟨d.1,f,u,g,i⟩
def BBa.chg{P f:Nat->Prop}{w w':Y}{v:O}{L:Ae}(h:BBa w P v L)(d:Chg P f w w'):BBa w' f v L:=by
 rcases h with h| ⟨a,b,q,i,k⟩
 . exact A4 h
 . refine A8 ⟨a,b,q,i,fun j p=>?_⟩
   obtain⟨⟨g,c⟩,l,u,m,n,o⟩:=k j p;obtain⟨r,s⟩:=d.keep a.block g c;obtain⟨t,x⟩:=n.chg o d;exact⟨⟨AL g d.size,s⟩,l,u,by rw[Bi (a:=⟨a.block,a.off+j,J⟩) (w:=w) r];exact m,t,x⟩
def BBa.nil(w:Y)(P:Nat->Prop):BBa w P (Aw J 0 0) []:=A4 ⟨rfl,rfl⟩
def Cl(U:List (Nat × Ab))(F:Ae):Ae:=U.foldl (fun f x=>f.set x.1 x.2) F
def Od(U W:List (Nat × Ab))(F:Ae):Cl (U ++ W) F=Cl W (Cl U F):=List.foldl_append
def dr(U:List (Nat × Ab))(x:Nat × Ab)(F:Ae):Cl (U ++ [x]) F=(Cl U F).set x.1 x.2:=Od _ _ _
def Ca:∀ (U:List (Nat × Ab)) (F:Ae),(Cl U F).length=F.length
 |[],F=>rfl
 |x :: U,F=>by
  show(Cl U (F.set x.1 x.2)).length=_
  rw[Ca U,AR]
def Do:∀ (U:List (Nat × Ab)) (F:Ae) (i:Nat),(∀ x∈U,x.1≠i)->(Cl U F).getD i []=F.getD i []
 |[],F,i,_=>rfl
 |x :: U,F,i,h=>by
  show(Cl U (F.set x.1 x.2)).getD i []=_
  rw[Do U _ i fun y a=>h y (B9 _ a),Az,BB (h x (CO ..)),<- Az]
def DX(kp:Nat->Bool)(U:List (Nat × Ab)):List (Nat × Ab):=((BE U.length).filter kp).map fun i=>U.getD i (0,[])
def QJ(kp:Nat->Bool)(U:List (Nat × Ab))(F:Ae):∀ k,QY kp U F k=Cl (((BE k).filter kp).map fun i=>U.getD i (0,[])) F
 |0=>rfl
 |k+1=>by
  unfold QY;rw[GW,List.filter_append,Cw,Od,<- QJ kp U F k];cases a:kp k
  . simp[a,Cl]
  . simp[a,Cl]
def R8(U:List (Nat × Ab)):DX (fun _=>AQ) U=U:=by
 unfold DX;rw[List.filter_eq_self.2 (fun _ _=>rfl)];apply Bt
 . simp
 . intro i b a
   simp[a]
def Hj{kp:Nat->Bool}{U:List (Nat × Ab)}{x:Nat × Ab}(h:x∈DX kp U):x∈U:=by
 obtain⟨i,b,rfl⟩:=Ce.1 h;have a:i<U.length:=Bq.1 (List.mem_filter.1 b).1;rw[Az,AX a];exact Br a
def nD(U:List (Nat × Ab))(F:Ae):QY (fun _=>AQ) U F U.length=Cl U F:=by
 rw[QJ];have:=R8 U;unfold DX at this;rw[this]
def aD(U:List (Nat × Ab))(a V:Ae)(k:a.length=V.length)(i:Nat):∀ m,(Xl U a V m).getD i []=if (∃ j,j<m/\(U.getD j (0,[])).1=i) then a.getD i [] else V.getD i []
 |0=>by
  rw[AJ (by rintro⟨j,f,_⟩;omega)];rfl
 |m+1=>by
  have l:=aD U a V k i m;have c:=Ht U a V m;unfold Xl;by_cases e:(U.getD m (0,[])).1=i
  . rw[AG ⟨m,Aa,e⟩,e]
    by_cases g:i<V.length
    . simp[c,g]
    . rw[Az,Bf (by rw[AR];omega),Az,Bf Aa]
  . rw[Az,BB e,<- Az,l]
    by_cases h:∃ j,j<m/\(U.getD j (0,[])).1=i
    . obtain⟨j,f,b⟩:=h
      rw[AG ⟨j,f,b⟩,AG ⟨j,Aa,b⟩]
    . rw[AJ h,AJ]
      rintro⟨j,f,b⟩;by_cases d:j=m
      . subst d;exact e b
      . exact h ⟨j,Aa,b⟩
def qO(kp:Nat->Bool)(U:List (Nat × Ab))(F:Ae):Xl U (QY kp U F U.length) (Cl U F) U.length=Cl (DX kp U) F:=by
 have g:QY kp U F U.length=Cl (DX kp U) F:=QJ kp U F _;have d:(Cl (DX kp U) F).length=(Cl U F).length:=by rw[Ca,Ca]
 rw[g];apply Bt
 . rw[Ht,d]
 . intro i l m
   have:=aD U (Cl (DX kp U) F) (Cl U F) d i U.length;have h:(Xl U (Cl (DX kp U) F) (Cl U F) U.length).getD i []=(Xl U (Cl (DX kp U) F) (Cl U F) U.length)[i]:=(by simp[l]);have k:(Cl (DX kp U) F).getD i []=(Cl (DX kp U) F)[i]:=(by simp[m]);rw[<- h,this,<- k];split
   . rfl
   . rename_i f
     have b:∀ x∈U,x.1≠i:=fun x a e=>by
      obtain⟨j,c,rfl⟩:=CC a;exact f ⟨j,c,by rw[Az,AX c];exact e⟩
     rw[Do U F i b,Do _ F i fun x a=>b x (Hj a)]
structure DS where
 F:Ae
 U:List (Nat × Ab)
 fu:Bool
 le:Int
 dn:Bool
def DS.vis(s:DS):Ae:=Cl s.U s.F
def DS.ok(s:DS):Bool:=lW s.fu s.le s.dn
def DS.pay(s:DS):DS:={ s with le:=Xz s.fu s.le s.dn,dn:=WX s.fu s.le s.dn }
def DS.write(s:DS)(n:Nat)(l:Ab):DS:={ s.pay with U:=s.U ++ [(n,l)] }
def DS.flush(s:DS):DS:={ s.pay with F:=s.vis,U:=[] }
def DS.crash(s:DS)(k:List Bool):DS:=⟨Cl (DX (bH k) s.U) s.F,[],AN,0,AN⟩
def DS.new(n:Nat):DS:=⟨AI n zb,[],AN,0,AN⟩
def DS.vis_length(s:DS):s.vis.length=s.F.length:=Ca _ _
def DS.write_vis(s:DS)(n:Nat)(l:Ab):(s.write n l).vis=s.vis.set n l:=dr _ _ _
def DS.flush_vis(s:DS):s.flush.vis=s.vis:=rfl
def Nk{fu dn:Bool}{le:Int}(h:0<=le/\le<=9223372036854775807):0<=Xz fu le dn/\Xz fu le dn<=9223372036854775807:=by
 unfold Xz;split <;> omega
def Wf(b a c:Nat)(u:O)(k:Nat):Prop:=k=b\/k=a\/k=c\/u.ownBlock=Z k
def Dk(w:Y)(P:Nat->Prop)(p:O)(s:DS):Prop:=
 ∃ a b c u,p=Ax (Z ⟨a,0,J⟩)/\DskAt w 0 a b c u s.F s.vis s.U s.fu s.le s.dn/\(0<=s.le/\s.le<=9223372036854775807)/\∀ k,P k ↔ Wf a b c u k
def DskAt.ownlt{w:Y}{B c b d:Nat}{u:O}{F V:Ae}{U:List (Nat × Ab)}{fu dn:Bool}{le:Int}(h:DskAt w B c b d u F V U fu le dn)(k:Nat)(a:Wf c b d u k):k<w.heap.size:=by
 rcases a with rfl|rfl|rfl|a
 . exact(Au.1 h.hp).1
 . exact(Au.1 h.hf).1
 . exact(Au.1 h.hv).1
 . exact(h.hu.lt k a).2
def Dk.lt{w:Y}{P:Nat->Prop}{p:O}{s:DS}(h:Dk w P p s)(k:Nat)(c:P k):k<w.heap.size:=by
 obtain⟨f,d,g,u,_,b,_,a⟩:=h;exact b.ownlt k ((a k).1 c)
def Dk.below{w w':Y}{P:Nat->Prop}{p:O}{s:DS}(h:Dk w P p s)(hb:AB w.heap.size w w'):Dk w' P p s:=by
 obtain⟨b,a,c,u,i,f,g,d⟩:=h;exact⟨b,a,c,u,i,f.below hb,g,d⟩
def Dk.ptr{w:Y}{P:Nat->Prop}{p:O}{s:DS}(h:Dk w P p s):∃ a,p=Ax (Z ⟨a,0,J⟩):=by
 obtain⟨a,_,_,_,b,_⟩:=h;exact⟨a,b⟩
def DskAt.lower{w:Y}{B d c f:Nat}{u:O}{F V:Ae}{U:List (Nat × Ab)}{fu dn:Bool}{le:Int}(h:DskAt w B d c f u F V U fu le dn):DskAt w 0 d c f u F V U fu le dn:=
 { h with bB:=⟨A7 _,A7 _,A7 _⟩,hu:=⟨h.hu.1,h.hu.2.imp id fun⟨g,a,b,i,_,r⟩=>⟨g,a,b,i,A7 _,r⟩⟩ }
def Chg.of_wrote{a c d:Nat}{u:O}{P:Nat->Prop}(f:∀ k,P k ↔ Wf a c d u k){w w':Y}(h:Wrote w w' a):Chg P P w w':=
 ⟨h.1,h.2.1,h.2.2.1,Nat.le_of_eq h.2.2.2.1.symm,fun k _ b=>⟨h.2.2.2.2 k fun e=>b ((f k).2 (A4 e)),b⟩⟩
def Chg.of_frU{b a c:Nat}{u m:O}{P:Nat->Prop}(d:∀ k,P k ↔ Wf b a c u k){w w':Y}(h:FrU w w' b a c u m):Chg P (Wf b a c m) w w':=
 ⟨h.os,h.tape,h.output,h.size,fun k n f=>by
   have g:k≠b:=fun e=>f ((d k).2 (A4 e))
   have i:k≠a:=fun e=>f ((d k).2 (A8 (A4 e)))
   have j:k≠c:=fun e=>f ((d k).2 (A8 (A8 (A4 e))))
   have l:u.ownBlock≠Z k:=fun e=>f ((d k).2 (A8 (A8 (A8 e))))
   refine⟨h.block k n g i j l,?_⟩;rintro(e|e|e|e)
   . exact g e
   . exact i e
   . exact j e
   . rcases h.own k e with e|e
     . exact l e
     . omega⟩
def Chg.of_fr3{b a c:Nat}{u:O}{P:Nat->Prop}(j:∀ k,P k ↔ Wf b a c u k){w w':Y}(h:Fr3 w w' b a c):Chg P (Wf b a c (Aw J 0 0)) w w':=
 Chg.of_frU j ⟨h.os,h.tape,h.output,h.size,fun k d f g i _=>h.block k d f g i,fun k d=>by simp[O.ownBlock] at d⟩
def Pn(l:Ab)(n:Int):Bool:=l.any fun x=>x==n
def ie{l:Ab}{n:Int}(k:Nat)(a:k<l.length)(h:l.getD k 0=n):Pn l n=AQ:=by
 unfold Pn;rw[List.any_eq_true];refine⟨l[k],Br a,?_⟩;have e:l.getD k 0=l[k]:=by simp[a]
 rw[<- e,h];simp
def nP{l:Ab}{n:Int}(h:∀ k,k<l.length->l.getD k 0≠n):Pn l n=AN:=by
 unfold Pn;rw[List.any_eq_false];intro x b;obtain⟨k,a,rfl⟩:=CC b;have e:l.getD k 0=l[k]:=by simp[a]
 have:=h k a;rw[e] at this
 simpa using this
def iH(N:Ab)(i:Nat):Xy N i=!(Pn (N.take i) (N.getD i 0)):=by
 unfold Xy Pn;rw[List.not_any_eq_all_not]
def lU(N:Ab)(i:Nat):Bool:=TZ (N.getD i 0) && Xy N i
def aM(N:Ab)(k:Nat):Bool:=(BE k).all fun i=>lU N i
def ED(N:Ab):Bool:=decide (N.length<=37) && aM N N.length
def KV(N:Ab)(k:Nat):aM N k=AQ ↔ ∀ i,i<k->lU N i=AQ:=by
 unfold aM;rw[Dn];exact⟨fun h i a=>h i (Bq.2 a),fun h i a=>h i (Bq.1 a)⟩
def iT{N:Ab}(i:Nat)(hi:i<N.length)(h:lU N i=AN):ED N=AN:=by
 cases e:ED N
 . rfl
 . unfold ED at e
   rw[A0] at e;rw[(KV N _).1 e.2 i hi] at h;cases h
def Pj{N:Ab}(h:37<N.length):ED N=AN:=by
 unfold ED;rw[AM Aa];rfl
def dO{N:Ab}(a:N.length<=37)(h:∀ i,i<N.length->lU N i=AQ):ED N=AQ:=by
 unfold ED;rw[AK a,(KV N _).2 h];rfl
def Hy(D:Ae):Bool:=(BE D.length).all fun i=>decide ((D.getD i []).length=256)
def Nn(D:Ae):Hy D=AQ ↔ ∀ i,i<D.length->(D.getD i []).length=256:=by
 unfold Hy;rw[Dn];exact⟨fun h i a=>Ba (h i (Bq.2 a)),fun h i a=>AK (h i (Bq.1 a))⟩
def kS{D:Ae}(i:Nat)(hi:i<D.length)(h:(D.getD i []).length≠256):Hy D=AN:=by
 cases e:Hy D
 . rfl
 . exact absurd ((Nn D).1 e i hi) h
def Jc(N:Ab)(D:Ae):Gc N D=(ED N && (decide (D.length=N.length) && Hy D)):=by
 by_cases d:N.length<=37
 . by_cases b:D.length=N.length
   . unfold Gc ED Hy
     rw[AK d,AK b,b,AS,AS,AS];have:∀ k,aT N D k=(aM N k && (BE k).all fun i=>decide ((D.getD i []).length=256)):=fun k=>by
      rw[Bool.eq_iff_iff,A0,M9,KV,Dn];constructor
      . intro h
        refine⟨fun i a=>?_,fun i a=>?_⟩
        . have:=h i a
          unfold Za at this;unfold lU;rw[A0,A0] at this;rw[this.1,this.2.2];rfl
        . have:=h i (Bq.1 a)
          unfold Za at this;rw[A0,A0] at this;exact this.2.1
      . rintro⟨g,j⟩ i a
        have c:=g i a;have f:=j i (Bq.2 a);unfold lU at c;rw[A0] at c;unfold Za;rw[c.1,c.2,f];rfl
     exact this _
   . rw[iR b,AM b];simp
 . rw[cV Aa,Pj Aa];rfl
def GN{N:Ab}(h:ED N=AQ):N.length<=37/\∀ i,i<N.length->0<=N.getD i 0/\N.getD i 0<=767:=by
 unfold ED at h;rw[A0,Bh,KV] at h;refine⟨h.1,fun i a=>?_⟩;have:=h.2 i a;unfold lU TZ at this;rw[A0,Bh] at this;exact this.1
def YH{w:Y}{v:O}{l:Ab}(D:ISl w v l)(J:l.length<=1000000)(n:Int):AH Aq 246 #[v,I Ap n] w fun e w'=>(∃ r:Int,e=Av (I Ap r)/\decide (0<=r)=Pn l n/\ -1<=r/\r<=1000000)/\w=w':=by
 obtain⟨L,H,rfl,s⟩:=D.open';have a:=fun k (C:k<l.length)=>ie (l:=l) (n:=n) k C
 have m:=nP (l:=l) (n:=n);obtain⟨R,d⟩:=nm (Pn l n);rw[<- d] at a m |-
 obtain⟨N,A⟩:=nm l.length;rw[<- A] at s m a J |-
 have E:=wN s;have o:=wN m;have q:=wN a;clear s m a d D A;go_enter func246,ntmps246;go_wp2
 go_loop [8] (fun i=>∃ k:Nat,k<=N/\i=I Ap k/\Hid (∀ j,j<k->l.getD j 0≠n)) (fun i=>N-(intOf i).toNat)
 case atStart=>exact⟨0,Aa,rfl,fun j B=>absurd B (Bm _)⟩
 case round=>
  obtain⟨k,C,rfl,z⟩:=hrel;by_cases g:k<N
  . obtain⟨b,K,rfl,_,f⟩:=E.out Aa
    have t:=f k g;have c:=q.out k g;obtain⟨x,y⟩:=nm (l.getD k 0);rw[<- y] at t c;have G:=wN y;have p:=wN c;have M:(k:Int)<(N:Int):=Aa;clear y f c;by_cases u:n=x
    . have d:=p.out u.symm
      subst d;subst u;go_wp2;go_ret;exact⟨⟨_,rfl,Ai,Aa,Aa⟩,rfl⟩
    . have F:=wN u
      go_wp2
      go_round
      case rel=>
       refine⟨k+1,Aa,by go_num,fun j B=>?_⟩;by_cases e:j=k
       . subst e;rw[<- G.out];exact fun h=>F.out h.symm
       . exact z.out j Aa
      case measure=>simp[intOf];omega
  . obtain rfl:k=N:=by omega
    have d:=o.out z.out;subst d;go_wp2;go_ret;exact⟨⟨_,rfl,Af,Af,Af⟩,rfl⟩
def dI{w:Y}{v:O}{l:Ab}(c:ISl w v l)(b:l.length<=1000000)(n:Int)(B:Bool)(a:Pn l n=B):AH Aq 222 #[v,I Ap n] w fun e w'=>e=Av (AY B)/\w=w':=by
 have K:=wN (YH c b n);rw[a] at K;clear a c b;go_enter func222,ntmps222;go_wp2_with (go_at_call 246;(with_reducible refine K.out.mono ?_);rintro e h ⟨⟨r,rfl,d,g,f⟩,rfl⟩)
 go_ret;exact⟨by rw[<- d];rfl,rfl⟩
def ISc(w:Y)(v:O)(l:Ab):Prop:=ISl w v l/\∃ b a,v=Aw b l.length a/\l.length<=a
def ISc.below{w w':Y}{v:O}{l:Ab}(h:ISc w v l)(hb:AB w.heap.size w w'):ISc w' v l:=⟨h.1.below hb,h.2⟩
def IR.isc{w:Y}{B:Nat}{v:O}{l:Ab}(h:IR w B v l):ISc w v l:=by
 refine⟨h.sl,?_⟩;rcases h.2 with⟨b,f⟩| ⟨g,a,d,b,i,j,c,_⟩
 . exact⟨J,0,by rw[b,f],Aa⟩
 . exact⟨_,a,b,c⟩
def ISl.take{w:Y}{a:Addr}{cap:Nat}{l:Ab}(h:ISl w (Aw (Z a) l.length cap) l)(n:Nat)(p:n<=l.length):ISl w (Aw (Z a) n cap) (l.take n):=by
 rcases h with⟨b,_⟩| ⟨f,g,b,o⟩
 . simp at b
 . obtain⟨rfl,rfl⟩:a=f/\cap=g:=⟨Bc (Be b).1,(Be b).2.2⟩
   have d:(l.take n).length=n:=(by rw[AV];omega);refine A8 ⟨a,cap,by rw[d],fun j c=>?_⟩;rw[d] at c;obtain⟨i,k,m⟩:=o j Aa;refine⟨i,k,?_⟩;rw[m];simp[c]
def Rv{w:Y}{v:O}{l:Ab}(hs:ISc w v l):AH Aq 208 #[v] w fun e w'=>e=Av (AY (ED l))/\w=w':=by
 obtain⟨D,V,f,rfl,CD⟩:=hs;obtain⟨M,r,F,E⟩:=D.open';obtain⟨rfl,rfl⟩:V=M/\f=r:=⟨(Be F).1,(Be F).2.2⟩;by_cases L:l.length<=37
 . have C:=fun k X h=>iT (N:=l) k X h
   have c:=dO L;obtain⟨R,g⟩:=nm (ED l);have p:=fun(a:Addr) (h:V=Z a) n hn=>ISl.take (w:=w) (a:=a) (cap:=f) (l:=l) (by rw[<- h];exact D) n hn
   have A:=fun i=>iH l i
   have q:=wN (fun n:Nat=>(AV (i:=n) (l:=l)));rw[<- g] at C c |-
   obtain⟨N,t⟩:=nm l.length;rw[<- t] at E C c L CD p q |-
   have HC:=wN E;have G:=wN C;have K:=wN c;have J:=wN p;have H:=wN A;have Lk:¬ 37<(N:Int):=Aa;clear E C c g D t F p A;go_enter func208,ntmps208;go_wp2
   go_loop [10] (fun i=>∃ k:Nat,k<=N/\i=I Ap k/\Hid (∀ j,j<k->lU l j=AQ)) (fun i=>N-(intOf i).toNat)
   case atStart=>exact⟨0,Aa,rfl,fun j W=>absurd W (Bm _)⟩
   case round=>
    obtain⟨k,X,rfl,S⟩:=hrel;by_cases z:k<N
    . obtain⟨b,a5,rfl,_,u⟩:=HC.out Aa
      have P:=u k z;have Q:=G.out k z;have o:lU l k=(TZ (l.getD k 0) && !(Pn (l.take k) (l.getD k 0))):=(by unfold lU;rw[H.out]);have p:=J.out _ rfl k Aa;have lu:(l.take k).length<=1000000:=(by rw[q.out];omega);obtain⟨x,hx⟩:=nm (l.getD k 0);rw[<- hx] at P o;have U:=wN (fun B s=>dI p lu x B s);have d:=wN o;have m:=wN Q;have ek:(k:Int)<(N:Int):=Aa;have a0:(k:Int)<=(f:Int):=Aa;have a1:k<=f:=Aa;clear hx u Q o p lu;by_cases a4:x<0
      . have g:=m.out (by rw[d.out];unfold TZ;rw[AM Aa];rfl)
        subst g;go_wp2;go_ret;exact⟨rfl,rfl⟩
      . by_cases a3:767<x
        . have g:=m.out (by rw[d.out];unfold TZ;rw[AM Aa];rfl)
          subst g;go_wp2;go_ret;exact⟨rfl,rfl⟩
        . have y:TZ x=AQ:=AK Aa
          rw[y,AS] at d;obtain⟨B,s⟩:∃ B,Pn (l.take k) x=B:=⟨_,rfl⟩;have T:=wN (U.out B s);rw[s] at d;have a2:¬ x > 767:=Aa;clear s y U;cases B
          . go_wp2_with (go_at_call 222;(with_reducible refine Ad T.out ?_);rintro w2 rfl)
            go_round
            case rel=>
             refine⟨k+1,Aa,by go_num,fun j W=>?_⟩;by_cases e:j=k
             . subst e;exact d.out
             . exact S.out j Aa
            case measure=>simp[intOf];omega
          . have g:=m.out d.out
            subst g;go_wp2_with (go_at_call 222;(with_reducible refine Ad T.out ?_);rintro w2 rfl)
            go_ret;exact⟨rfl,rfl⟩
    . obtain rfl:k=N:=by omega
      have g:=K.out S.out;subst g;go_wp2;go_ret;exact⟨rfl,rfl⟩
 . rw[Pj Aa]
   obtain⟨N,t⟩:=nm l.length;rw[<- t] at L |-
   have Lk:37<(N:Int):=Aa;clear E D F t;go_enter func208,ntmps208;go_wp2;go_ret;exact⟨rfl,rfl⟩
def Ng{w:Y}{v:O}{L:Ae}(B:BBSl w v L)(H:L.length<=1000000):AH Aq 189 #[v] w fun e w'=>e=Av (AY (Hy L))/\w=w':=by
 obtain⟨M,G,rfl,_,p⟩:=B.open';have g:=fun k A h=>kS (D:=L) k A h
 have a:=(Nn L).2;obtain⟨R,c⟩:=nm (Hy L);rw[<- c] at g a |-
 obtain⟨N,t⟩:=nm L.length;rw[<- t] at p g a H |-
 have E:=wN p;have n:=wN g;have o:=wN a;clear p g a c B t;go_enter func189,ntmps189;go_wp2
 go_loop [7] (fun i=>∃ k:Nat,k<=N/\i=I Ap k/\Hid (∀ j,j<k->(L.getD j []).length=256)) (fun i=>N-(intOf i).toNat)
 case atStart=>exact⟨0,Aa,rfl,fun j z=>absurd z (Bm _)⟩
 case round=>
  obtain⟨k,A,rfl,s⟩:=hrel;by_cases f:k<N
  . obtain⟨b,K,rfl,_,d⟩:=E.out Aa
    obtain⟨u,q,C⟩:=d k f;have l:=n.out k f;obtain⟨T,S,rfl,_⟩:=C.shape;obtain⟨x,r⟩:=nm ((L.getD k []).length);rw[<- r] at q l;have F:=wN r;have m:=wN l;have P:(k:Int)<(N:Int):=Aa;clear r d l C;by_cases y:x=256
    . subst y
      go_wp2
      go_round
      case rel=>
       refine⟨k+1,Aa,by go_num,fun j z=>?_⟩;by_cases e:j=k
       . subst e;exact F.out.symm
       . exact s.out j Aa
      case measure=>simp[intOf];omega
    . have c:=m.out y
      subst c;have Q:¬ (x:Int)=256:=Aa;have J:((x:Int) != 256)=AQ:=Ak;go_wp2;go_ret;exact⟨rfl,rfl⟩
  . obtain rfl:k=N:=by omega
    have c:=o.out s.out;subst c;go_wp2;go_ret;exact⟨rfl,rfl⟩
def TxV(w:Y)(v:O)(q:Int)(N:Ab)(D:Ae):Prop:=
 ∃ no c a b,v=BS #[I .u32 q,Aw no N.length c,Aw a D.length b]/\ISc w (Aw no N.length c) N/\BBSl w (Aw a D.length b) D
def TxV.below{w w':Y}{v:O}{q:Int}{N:Ab}{D:Ae}(h:TxV w v q N D)(hb:AB w.heap.size w w'):TxV w' v q N D:=by
 obtain⟨no,g,a,b,c,d,f⟩:=h;exact⟨no,g,a,b,c,d.below hb,f.below hb⟩
def Vl{w:Y}{v:O}{q:Int}{N:Ab}{D:Ae}(h:TxV w v q N D)(B:Bool)(d:Gc N D=B):AH Aq 191 #[v] w fun e w'=>e=Av (AY B)/\AB w.heap.size w w':=by
 obtain⟨no,r,o,p,rfl,L,K⟩:=h;obtain⟨n,E⟩:=nm N.length;obtain⟨m,C⟩:=nm D.length;rw[Jc,<- E,<- C] at d;have x:=wN (fun W (A:AB w.heap.size w W)=>Rv (L.below A));have s:=wN (fun W (A:AB w.heap.size w W) (R:D.length<=1000000)=>Ng (K.below A) R);have l:=wN (fun(h:ED N=AQ)=>(GN h).1);rw[<- E] at x l |-
 rw[<- C] at s |-
 have a:=AF w (Ay #[I .u32 q,Aw no n r,Aw o m p] 215);have k:=AC w (Ay #[I .u32 q,Aw no n r,Aw o m p] 215);clear L K E C;go_enter func191,ntmps191;go_upto_region 1 with(fail)
 generalize w.alloc (Ay #[I .u32 q,Aw no n r,Aw o m p] 215)=u at a k |-
 have c:=wN (x.out _ a);have b:=wN (s.out _ a);have f:=wN a;clear x s a;have S:u.cell? ⟨w.heap.size,1,J⟩=Z (Aw no n r):=by rw[AD _ _ _ _ _ _ k];rfl
 have T:u.cell? ⟨w.heap.size,2,J⟩=Z (Aw o m p):=by rw[AD _ _ _ _ _ _ k];rfl
 clear k;obtain⟨F,y⟩:∃ F,ED N=F:=⟨_,rfl⟩;obtain⟨G,z⟩:∃ G,Hy D=G:=⟨_,rfl⟩;rw[y,z] at d;rw[y] at c l;rw[z] at b;have g:=wN (fun(h:F=AQ) (U:m=n)=>show m<=1000000 by have:=l.out h;omega);clear y z l;cases F
 . rw[Bool.false_and] at d
   subst d;go_wp2_with (go_at_call 208;(with_reducible refine Ad c.out ?_);rintro Q rfl)
   go_ret;exact⟨rfl,f.out⟩
 . by_cases j:m=n
   . have H:=g.out rfl j
     rw[AK j,AS,AS] at d;subst d;subst j;have t:=wN (b.out H);clear H g b
     go_wp2_with (first|(go_at_call 208;(with_reducible refine Ad c.out ?_);rintro Q rfl)|(go_at_call 189;(with_reducible refine Ad t.out ?_);rintro V rfl))
     go_ret;exact⟨rfl,f.out⟩
   . rw[AM j,Bool.false_and,Bool.and_false] at d
     subst d;have i:¬ (m:Int)=(n:Int):=Aa;have M:((m:Int)==(n:Int))=AN:=by simpa using i
     have P:decide ((m:Int)=(n:Int))=AN:=AM i;clear g b j;go_wp2_with (go_at_call 208;(with_reducible refine Ad c.out ?_);rintro Q rfl)
     go_ret;exact⟨rfl,f.out⟩
def oA(w:Y)(B:Nat):OB w B (Aw J 0 0) []:=⟨EX,Dt w B _ _⟩
def Ny{w:Y}{v:O}{l:Ab}(d:BSl w v l)(i:l.length<=1000000):AH Aq 95 #[v] w (J8 w l):=by
 have b:=d;rcases d.2 with⟨rfl,rfl⟩| ⟨a,f,rfl,s,q⟩
 . clear d b i
   have he:∀ w:Y,(binOp .eql 77 (Aw J 0 0) (Aw J 0 0)).run Aq w=.ok (AY AQ) w:=fun _=>rfl
   go_enter func95,ntmps95;go_wp2;go_ret;exact⟨_,rfl,oA _ _,AP _ _⟩
 . have o:=wN b
   have n:Hid (0+l.length<=140737488355328):=wN Aa;have k:=wN (Qv w);have g:=AF w (Ay #[] 5);have m:=wN (fun(p:Addr) (r:p.block<w.heap.size)=>Dh w (Ay #[] 5) p r);have j:w.heap.size<=(w.alloc (Ay #[] 5)).heap.size:=Ai;clear d b q i;have he:∀ w:Y,(binOp .eql 77 (Aw (Z a) l.length f) (Aw J 0 0)).run Aq w=.ok (AY AN) w:=fun _=>rfl
   go_enter func95,ntmps95
   go_wp2_with (at_builtin;refine B0 _ rfl (.tmp 5) (.tmp 6) rfl w.heap.size _ [] rfl k.out w _ l rfl o.out m.out n.out j ?_
                intro t u c h _)
   go_ret;exact⟨_,rfl,c,g.trans h⟩
def nK(n:Nat):madeCells (Aw J 0 0).cells n=AW n (Aw J 0 0):=by
 apply Array.ext';rw[show(Aw J 0 0).cells=#[Aw J 0 0] from rfl,toList_madeCells_one];simp
def J4(w:Y){b:Array BK}{rest:List BK}{o:BK}{a:Act}{Q:Exit->Act->Y->Prop}
 (s:o.guard=J) (l c:Operand) (g:o.op=Op.makeSlice 95 l c) (C:Int) (n:Nat) (t:a.eval l=I Ap C) (r:a.eval c=I Ap C) (p:C=n) (u:n<=1000000)
 (q:Cj Aq b Q rest (a.put o.dst (Aw (Z ⟨w.heap.size,0,J⟩) n n)) (w.alloc (Ay (AW n (Aw J 0 0)) 77))):
 Cj Aq b Q (o :: rest) a w:=by
 refine CH s fun K d=>?_
 obtain⟨i,h,j,k,m⟩:=Bs PP;subst p;have f:=run_make (P:=Aq) w 95 77 i (Aw J 0 0) underlying95 h j Ap Ap n n Aa Aa (by rw[m];omega) Aa;unfold BK.wp;simp only[Cf,k,Nat.mul_one,nK] at f;simp[execOp,g,t,r,f,Result.andThen];exact d _ _ q
def aI{W:Y}{g:Nat}{vs:List O}{T:Cn}(h:W.heap[g]? =Z (Ay vs.toArray T (0,0)))(k:Nat):W.frozen? ⟨g,k,J⟩=AN:=by
 simp[Y.frozen?,h]
def km{W:Y}{g:Nat}{vs:List O}{T:Cn}(h:W.heap[g]? =Z (Ay vs.toArray T (0,0)))(j:Nat)(y:O):(W.setCell ⟨g,j,J⟩ y).heap[g]? =Z (Ay (vs.set j y).toArray T (0,0)):=by
 rw[Bk W g j _ _ _ h];simp
def RowB(w:Y)(g B n:Nat)(D:Ae)(k:Nat):Prop:=
 ∃ a:List O,a.length=n/\w.heap[g]? =Z (Ay a.toArray 77 (0,0))/\∀ j,j<k->BElt w B (a.getD j undef) (D.getD j [])
def RowB.make(w:Y)(B n:Nat)(D:Ae):RowB (w.alloc (Ay (AW n (Aw J 0 0)) 77)) w.heap.size B n D 0:=
 ⟨AI n (Aw J 0 0),Bg,by rw[AC];simp,fun j a=>absurd a (Bm _)⟩
def RowB.row{w:Y}{g B n:Nat}{D:Ae}{k:Nat}(h:RowB w g B n D k):∃ vs:List O,vs.length=n/\w.heap[g]? =Z (Ay vs.toArray 77 (0,0)):=by
 obtain⟨vs,a,b,_⟩:=h;exact⟨vs,a,b⟩
def RowB.below{w w':Y}{g B n:Nat}{D:Ae}{k:Nat}(h:RowB w g B n D k)(hb:AB w.heap.size w w'):RowB w' g B n D k:=by
 obtain⟨i,b,a,c⟩:=h;have d:g<w.heap.size:=(Au.1 a).1;exact⟨i,b,(hb.block g d).trans a,fun j f=>(c j f).below hb⟩
def RowB.set{w:Y}{g B n:Nat}{D:Ae}{k:Nat}(h:RowB w g B n D k)(q:k<n)(p:B<=g){y:O}(r:BElt w B y (D.getD k [])):RowB (w.setCell ⟨g,k,J⟩ y) g B n D (k+1):=by
 obtain⟨s,l,m,o⟩:=h;have c:w.grownBy (w.setCell ⟨g,k,J⟩ y) (Z g):=by
  have:=Wrote.setCell w g k y;exact⟨this.1,this.2.1,this.2.2.1,by rw[this.2.2.2.1];exact AE _,fun b t i=>this.2.2.2.2 b (fun e=>i (by rw[e]))⟩
 have a:∀ d,Z g=Z d->B<=d/\∃ f,w.heap[d]? =Z (Ay f 77 (0,0)):=fun d e=>by
  obtain rfl:=Bc e;exact⟨p,_,m⟩
 refine⟨s.set k y,by rw[AR];exact l,km m k y,fun j u=>?_⟩;by_cases e:j=k
 . subst e
   have:=r.grown a c
   simpa [l,q] using this
 . have:=(o j Aa).grown a c
   rw[Az,BB Aa,<- Az];exact this
def RowB.done{w:Y}{g B:Nat}{D:Ae}(h:RowB w g B D.length D D.length)(d:B<=g)(i:D.length<=1000000):BBR w B (Aw (Z ⟨g,0,J⟩) D.length D.length) D:=by
 obtain⟨f,a,b,c⟩:=h;refine⟨f,a,c,by rw[a,Nat.mul_one],A8 ⟨g,D.length,_,rfl,d,b,AE _,by unfold maxLen;omega,by simp[a],?_⟩⟩;rw[A2 (by simp[a])]
def PG{w:Y}{v:O}{D:Ae}(X:BBSl w v D)(M:D.length<=1000000)(U:∀ j,(D.getD j []).length<=1000000)
 (B:Nat) (L:B<=w.heap.size):AH Aq 190 #[v] w fun e w'=>∃ u,e=Av u/\BBR w' B u D/\AB w.heap.size w w':=by
 obtain⟨ao,a0,rfl,_,N⟩:=X.open';have c:=wN (fun W (h:RowB W w.heap.size B D.length D D.length)=>h.done L M);have q:=wN L;have E:=wN U;obtain⟨n,V⟩:=nm D.length;rw[<- V] at N M c |-
 have HC:=wN N;have f:=AF w (Ay (AW n (Aw J 0 0)) 77);have H:=RowB.make w B n D;clear X N U V L;go_enter func190,ntmps190;go_wp2_with (at_make;refine J4 w rfl _ _ rfl (n:Int) n rfl rfl rfl M ?_)
 generalize w.alloc (Ay (AW n (Aw J 0 0)) 77)=w1 at f H |-
 have d:=wN H;have r:=wN f;obtain⟨g,Q⟩:=nm w.heap.size;rw[<- Q] at d c q |-
 have HG:=wN Q;clear H f Q;go_loopw [11] (fun i wr=>∃ k:Nat,k<=n/\i=I Ap k/\Hid (RowB wr g B n D k)/\Hid (AB w.heap.size w wr)) (fun i _=>n-(intOf i).toNat)
 case atStart=>exact⟨0,Aa,rfl,d,r⟩
 case round=>
  obtain⟨k,hk,rfl,F,o⟩:=hrel;clear d r;by_cases l:k<n
  . obtain⟨b,R,rfl,T,t⟩:=HC.out Aa
    obtain⟨u,x,hu⟩:=t k l;have a1:=(o.out.cell (p:=⟨b,R+k,J⟩) T).trans x;have KC:=wN (Ny (hu.below o.out) (E.out k));have ek:(k:Int)<(n:Int):=Aa;obtain⟨vs,ui,A⟩:=F.out.row;have a3:g<wr.heap.size:=(Au.1 A).1;clear t x hu T ui A
    go_wp2_with (go_at_call 95;(with_reducible refine KC.out.mono ?_);rintro e w2 ⟨y,rfl,a,s⟩
                 obtain⟨yo,yc,rfl,_⟩:=a.bsl.shape;generalize (D.getD k []).length=yl at a |-
                 have m:=F.out.below s;have HY:=wN (a.elt (B:=B));have G:=wN m;obtain⟨S,lA,K⟩:=m.row;have a2:=aI K k;have P:∃ z,w2.cell? ⟨g,k,J⟩=Z z:=⟨S[k]'Aa,by rw[AD _ _ _ _ _ _ K];simp[lA,l]⟩;obtain⟨z,hz⟩:=P;have C:=wN (o.out.trans (s.mono o.out.size));clear m lA K a)
    go_roundw
    case rel=>exact⟨k+1,Aa,by go_num,G.out.set l q.out HY.out,(C.out.trans ((Wrote.setCell w2 g k _).below (by rw[HG.out];exact AE _)))⟩
    case measure=>simp[intOf];omega
  . obtain rfl:k=n:=by omega
    go_wp2;go_ret;exact⟨_,rfl,c.out _ F.out,o.out⟩
def UU(w:Y)(l:Ab)(hb:Fv l)(n:Nat)(f:l.length=n)(C:Array O)(b:C=(l.map (I .u8)).toArray)(a:Nat × Nat):BSl (w.alloc (Ay C 5 a)) (Aw (Z ⟨w.heap.size,0,J⟩) n n) l:=by
 subst b f;have c:(w.alloc (Ay (l.map (I .u8)).toArray 5 a)).heap[w.heap.size]? =Z (Ay (l.map (I .u8)).toArray 5 a):=by
  show(w.heap.push _)[w.heap.size]? =_
  simp
 refine⟨hb,A8 ⟨⟨w.heap.size,0,J⟩,l.length,rfl,AE _,fun j d=>⟨Ai,rfl,?_⟩⟩⟩;show(w.alloc _).cell? ⟨w.heap.size,0+j,J⟩=_
 rw[BC,AD _ _ _ _ _ _ c];simp[d]
def gT(w:Y):BSl (w.alloc (Ay #[I .u8 106,I .u8 114,I .u8 110,I .u8 108] 5 (4,5))) (Aw (Z ⟨w.heap.size,0,J⟩) 4 4) jrnl:=
 UU w jrnl j9 4 rfl _ rfl _
def kN(w:Y):BSl (w.alloc (Ay #[I .u8 100,I .u8 111,I .u8 110,I .u8 101] 5 (4,5))) (Aw (Z ⟨w.heap.size,0,J⟩) 4 4) Qy:=
 UU w Qy ka 4 rfl _ rfl _
def LF(w:Y)(C:Array O)(T:Cn)(a:Nat × Nat):AB w.heap.size w (w.alloc (Ay C T a)):=AF w _
def Kh(q:Int)(N:Ab)(k:Nat):Ab:=jrnl ++ B8 q 4 ++ B8 (N.length:Int) 2 ++ IM (N.take k)
def XY(q:Int)(N:Ab):Kh q N N.length=CB q N:=by unfold Kh CB;rw[BZ]
def XV(q:Int)(N:Ab)(k:Nat)(a:k<N.length):Kh q N k ++ B8 (N.getD k 0) 2=Kh q N (k+1):=by
 unfold Kh;rw[dY N k a,Bj]
def YY(q:Int)(N:Ab):Kh q N 0=jrnl ++ B8 q 4 ++ B8 (N.length:Int) 2:=by
 unfold Kh;rw[List.take_zero];show _ ++ []=_
 rw[Cc]
def SI(q:Int)(N:Ab)(k:Nat)(h:k<=37):(Kh q N k).length<=252:=by
 unfold Kh;simp only[AO,Bp,Kj,AV];have:jrnl.length=4:=rfl;omega
def PW{w:Y}{v:O}{q:Int}{N:Ab}(V:ISl w v N)(JJ:N.length<=37)(X:∀ i,i<N.length->0<=N.getD i 0/\N.getD i 0<=767)(q0:0<=q)(q1:q<4294967296):
 AH Aq 193 #[I .u32 q,v] w (J8 w (BV (CB q N))):=by
 obtain⟨ao,a0,rfl,F⟩:=V.open';have R:=wN (YY q N);have L:=wN (XV q N);have K:=wN (XY q N);have m:=wN (SI q N);have Q:=wN X;obtain⟨n,U⟩:=nm N.length;rw[<- U] at F JJ R L K Q |-
 have HC:=wN F;have kc:=fun(w:Y) (C:Array O) (n c:Nat)=>E4 (P:=Aq) w 77 5 C n c underlying77 underlying5
 have uj:IntKind.u64.wrap q=q:=Ln _ Aa;have a1:IntKind.u64.wrap (n:Int)=(n:Int):=Ln _ Aa;have K1:=wN (FK (gT w) Af q 4 4 Aa Aa rfl q0 Aa);have K2:=wN (fun W v (hv:BSl W v (jrnl ++ B8 q 4))=>FK hv (by rw[AO,Bp];decide) (n:Int) 2 2 Aa Aa rfl Aa Aa);have f:=LF w #[I .u8 106,I .u8 114,I .u8 110,I .u8 108] 5 (4,5);clear V F X U q1 q0;go_enter func193,ntmps193
 go_wp2_with (first
  |(go_at_call 133;(with_reducible refine K1.out.mono ?_);rintro e w2 ⟨v2,rfl,a,r⟩
    have j:=wN (f.trans (r.mono f.size)))
  |(go_at_call 133;(with_reducible refine(K2.out _ _ a.bsl).mono ?_);rintro e w3 ⟨v3,rfl,d,s⟩
    have l:=wN (j.out.trans (s.mono j.out.size))))
 have o:Hid (BSl w3 v3 (Kh q N 0)):=wN (by rw[R.out];exact d.bsl);clear a d f r s kc;go_loopw [5,22] (fun u i wr=>∃ k:Nat,k<=n/\i=I Ap k/\Hid (BSl wr u (Kh q N k))/\Hid (AB w.heap.size w wr)) (fun _ i _=>n-(intOf i).toNat)
 case atStart=>exact⟨0,Aa,rfl,o,l⟩
 case round=>
  obtain⟨k,hk,rfl,M,h⟩:=hrel;clear o l;by_cases g:k<n
  . obtain⟨b,H,rfl,T,t⟩:=HC.out Aa
    have G:=(h.out.cell (p:=⟨b,H+k,J⟩) T).trans (t k g);obtain⟨Z,x1⟩:=Q.out k g;have B:=L.out k g;obtain⟨x,S⟩:=nm (N.getD k 0);rw[<- S] at G Z x1 B;have A:=wN B;have ek:(k:Int)<(n:Int):=Aa;have sZ:IntKind.u64.wrap x=x:=Ln _ Aa;have KP:=wN (FK M.out (by have:=m.out k Aa;omega) x 2 2 Aa Aa rfl Z Aa);clear t T S B;go_wp2_with (go_at_call 133;(with_reducible refine KP.out.mono ?_);rintro e w4 ⟨v4,rfl,y,D⟩)
    go_roundw
    case rel=>exact⟨k+1,Aa,by go_num,by show BSl _ _ _;rw[<- A.out];exact y.bsl,h.out.trans (D.mono h.out.size)⟩
    case measure=>simp[intOf];omega
  . obtain rfl:k=n:=by omega
    have KS:=wN (Kr M.out (m.out k Aa));go_wp2_with (go_at_call 187;(with_reducible refine KS.out.mono ?_);rintro e w5 ⟨v5,rfl,z,E⟩)
    go_ret;refine⟨_,rfl,?_,h.out.trans (E.mono h.out.size)⟩;rw[<- K.out];exact z.more h.out.size
def Tb(w:Y){q:Int}(q0:0<=q)(q1:q<4294967296):AH Aq 188 #[I .u32 q] w (J8 w (BV (DZ q))):=by
 have l:=fun(w:Y) (C:Array O) (n c:Nat)=>E4 (P:=Aq) w 77 5 C n c underlying77 underlying5
 have m:IntKind.u64.wrap q=q:=Ln _ Aa;have i:=wN (FK (kN w) Af q 4 4 Aa Aa rfl q0 Aa);have j:=wN (fun W v (k:BSl W v (Qy ++ B8 q 4))=>Kr k (by rw[AO,Bp];decide));have b:=LF w #[I .u8 100,I .u8 111,I .u8 110,I .u8 101] 5 (4,5);clear q1 q0;go_enter func188,ntmps188
 go_wp2_with (first
  |(go_at_call 133;(with_reducible refine i.out.mono ?_);rintro e r ⟨o,rfl,d,g⟩
    have a:=wN (b.trans (g.mono b.size)))|(go_at_call 187;(with_reducible refine(j.out _ _ d.bsl).mono ?_);rintro e s ⟨p,rfl,f,h⟩))
 go_ret;exact⟨_,rfl,f.more a.out.size,a.out.trans (h.mono a.out.size)⟩
def Js(S:Cn)(m:Aq.underlying S=Z (.slice 77)){d:Array BK}{o:BK}{a:Act}{w:Y}{K:Act->Y->Prop}{Q:Exit->Act->Y->Prop}{X:Prop}(g:o.guard=J)(s y:Operand)
 (n:o.op=.call { callee:=.builtin .append,args:=#[s,y],argTypes:=#[S,S] })
 (B E:Nat) (t:E<=B) (v:O) (L:Ae) (p:a.eval s=v) (c:BB2 w B E v L) (u:O) (M:Ae) (r:a.eval y=u) (f:BBE w E u M)
 (b:L.length+M.length<=1000000) (l:B<=w.heap.size)
 (h:∀ v' w',BB2 w' B E v' (L ++ M)->AB B w w'->w.grownBy w' v.ownBlock->K (a.put o.dst v') w'):
 if Region.wanted o (yielded d a.tmps)=AQ then BK.wp Aq o a w K Q else X:=by
 have q:Region.wanted o (yielded d a.tmps)=AQ:=by simp[Region.wanted,g]
 rw[AG q];obtain⟨v',w',f,i,j,k⟩:=H4 S m w B E t o.type v L c u M f b l;unfold BK.wp execOp;simp only[n,resolve,invoke,builtin,Dm,Sem.run_pure,Result.andThen_ok,Fe,DT,II,p,r,f];exact h v' w' i j k
def FZ{w w':Y}{row:Option Nat}(h:w.grownBy w' row)(b o:Nat)(hb:b<w.heap.size)(a:∀ k,row=Z k->k≠b):w'.cell? ⟨b,o,J⟩=w.cell? ⟨b,o,J⟩:=by
 apply Bi;exact h.block b hb (fun e=>a b e.symm rfl)
def Lj{g d n c:Nat}(h:d<g):∀ k,(Aw (Z ⟨g,0,J⟩) n c).ownBlock=Z k->k≠d:=fun k a=>by
 obtain rfl:g=k:=by simpa [O.ownBlock] using a
 omega
def fX{w:Y}{v:O}{q:Int}{N:Ab}{D:Ae}(h:TxV w v q N D)(hf:Gc N D=AQ)(q0:0<=q)(q1:q<4294967296):
 AH Aq 172 #[v] w fun e w'=>∃ u,e=Av (AT #[u,I Ap 0])/\BB2 w' w.heap.size 0 u (Iy q N D)/\AB w.heap.size w w':=by
 have h':=h;obtain⟨no,V,P,Q,rfl,hN,hD⟩:=h;obtain⟨R,f2,f3⟩:=EM hf;have KH:=wN (fun W (hb:AB w.heap.size w W)=>PW (hN.1.below hb) R (fun i hi=>(f3 i hi).1) q0 q1);have KC:=wN (fun W (hb:AB w.heap.size w W)=>PG (hD.below hb) Aa (fun j=>by
  by_cases hj:j<N.length
  . rw[(f3 j hj).2.1];omega
  . rw[Az,Bf Aa];exact A7 _) 0 (A7 _))
 have KE:=wN (fun W=>Tb W q0 q1);have a8:D.length<=37:=Aa;have F:Hid ([BV (CB q N)].length+D.length<=1000000):=wN Ak;have a1:Hid (([BV (CB q N)] ++ D).length<=100000):=wN Ak;have K:Hid (Iy q N D=([BV (CB q N)] ++ D) ++ [BV (DZ q)]):=wN rfl;have a3:Hid ((BV (CB q N)).length=256):=wN (Dp _ (by rw[Gk];omega));have a2:Hid ((BV (DZ q)).length=256):=wN (Dp _ (by rw[JZ];omega));obtain⟨n,hn⟩:=nm N.length;obtain⟨m,hm⟩:=nm D.length;rw[<- hn] at KH h' |-
 rw[<- hm] at KC h' |-
 have l:=AF w (Ay #[I .u32 q,Aw no n V,Aw P m Q] 215);have EO:=AC w (Ay #[I .u32 q,Aw no n V,Aw P m Q] 215);have KF:=wN (Vl (h'.below l) AQ hf);generalize BV (CB q N)=HB at KH F a1 K a3;generalize BV (DZ q)=EB at KE K a2;clear hN hD hn hm h' hf R f2 f3 a8 q0 q1;go_enter func172,ntmps172;go_upto_region 1 with(fail)
 have X:w.heap.size<(w.alloc (Ay #[I .u32 q,Aw no n V,Aw P m Q] 215)).heap.size:=Ai;generalize w.alloc (Ay #[I .u32 q,Aw no n V,Aw P m Q] 215)=u at l EO KF X |-
 have d0:u.cell? ⟨w.heap.size,0,J⟩=Z (I .u32 q):=by rw[AD _ _ _ _ _ _ EO];rfl
 have d1:u.cell? ⟨w.heap.size,1,J⟩=Z (Aw no n V):=by rw[AD _ _ _ _ _ _ EO];rfl
 have d2:u.cell? ⟨w.heap.size,2,J⟩=Z (Aw P m Q):=by rw[AD _ _ _ _ _ _ EO];rfl
 clear EO;go_wp2_with (go_at_call 191;(with_reducible refine Ad KF.out ?_);rintro w2 f)
 have A:Hid (AB w.heap.size w w2.drew):=wN (Bd (l.trans (f.mono l.size)) 1);have e0:w2.drew.cell? ⟨w.heap.size,0,J⟩=Z (I .u32 q):=(f.cell (p:=⟨w.heap.size,0,J⟩) X).trans d0;have e1:w2.drew.cell? ⟨w.heap.size,1,J⟩=Z (Aw no n V):=(f.cell (p:=⟨w.heap.size,1,J⟩) X).trans d1;have e2:w2.drew.cell? ⟨w.heap.size,2,J⟩=Z (Aw P m Q):=(f.cell (p:=⟨w.heap.size,2,J⟩) X).trans d2;have g:w.heap.size<w2.drew.heap.size:=AL X f.size;obtain⟨d,hd⟩:=nm w.heap.size;rw[<- hd] at A e0 e1 e2 g KH KC |-
 have HD:=wN hd;clear d0 d1 d2 l f X KF hd
 go_region_held3 (fun W=>W.cell? ⟨d,0,J⟩=Z (I .u32 q)/\W.cell? ⟨d,1,J⟩=Z (Aw no n V)/\W.cell? ⟨d,2,J⟩=Z (Aw P m Q)) (first|exact⟨i0,i1,i2⟩|exact⟨h0 _,h1 _,h2 _⟩|exact⟨g0,g1,g2⟩|exact⟨a5 _,a6 _,a7 _⟩|exact⟨f0,R,f2⟩|exact⟨e0,e1,e2⟩) (first
  |(go_at_call 193;(with_reducible refine(KH.out _ A.out).mono ?_);rintro e z ⟨v3,rfl,r,k⟩
    obtain⟨ho,hc,rfl,_⟩:=r.bsl.shape;have G:=wN (r.elt (B:=0));rw[a3.out] at G |-
    have f0:=(k.cell (p:=⟨d,0,J⟩) g).trans e0;have R:=(k.cell (p:=⟨d,1,J⟩) g).trans e1;have f2:=(k.cell (p:=⟨d,2,J⟩) g).trans e2;have c:=AL g k.size;have a5:=fun o=>((AF z o).cell (p:=⟨d,0,J⟩) c).trans f0
    have a6:=fun o=>((AF z o).cell (p:=⟨d,1,J⟩) c).trans R
    have a7:=fun o=>((AF z o).cell (p:=⟨d,2,J⟩) c).trans f2
    have x:=wN (A.out.trans (k.mono (Cy g)));clear r)
  |(go_at_call 190;(with_reducible refine(KC.out z x.out).mono ?_);rintro e t ⟨v4,rfl,y,a⟩
    have g0:=(a.cell (p:=⟨d,0,J⟩) c).trans f0;have g1:=(a.cell (p:=⟨d,1,J⟩) c).trans R;have g2:=(a.cell (p:=⟨d,2,J⟩) c).trans f2;have b:=AL c a.size;have h0:=fun o=>((AF t o).cell (p:=⟨d,0,J⟩) b).trans g0
    have h1:=fun o=>((AF t o).cell (p:=⟨d,1,J⟩) b).trans g1
    have h2:=fun o=>((AF t o).cell (p:=⟨d,2,J⟩) b).trans g2
    have H:=wN (G.out.below a);have L:=wN y.be;have C:=wN (x.out.trans (a.mono (Cy c))))
  |(go_at_call 190;(with_reducible refine(KC.out (z.alloc _) (x.out.trans ((AF z _).mono (Cy c)))).mono ?_);rintro e t ⟨v4,rfl,y,a⟩
    have uk:d<(z.alloc (Ay #[Aw ho 256 hc] 77)).heap.size:=Ak;have g0:=(a.cell (p:=⟨d,0,J⟩) uk).trans (a5 _);have g1:=(a.cell (p:=⟨d,1,J⟩) uk).trans (a6 _);have g2:=(a.cell (p:=⟨d,2,J⟩) uk).trans (a7 _);have H:=wN ((TN G.out (Cy c)).below a);have L:=wN y.be;have b:=AL uk a.size;have C:=wN ((x.out.trans ((AF z _).mono (Cy c))).trans (a.mono (Cy uk))))
  |(refine Js 95 underlying95 rfl (.tmp 13) (.tmp 16) rfl d 0 (A7 _) _ [HB] rfl H.out v4 D rfl L.out F.out (Cy b) ?_
    intro v5 w5 U S M;have i0:=(FZ M d 0 b (Lj c)).trans g0;have i1:=(FZ M d 1 b (Lj c)).trans g1;have i2:=(FZ M d 2 b (Lj c)).trans g2;have E:=wN (C.out.trans S))
  |(refine Js 95 underlying95 rfl (.tmp 13) (.tmp 16) rfl d 0 (A7 _) _ [HB] rfl (TN H.out (Cy b)) v4 D rfl (L.out.below (AF t _)) F.out (AU (Cy b) (AF t _).size) ?_
    intro v5 w5 U S M;have i0:=(FZ M d 0 (AL b (AF t _).size) (Lj b)).trans (h0 _);have i1:=(FZ M d 1 (AL b (AF t _).size) (Lj b)).trans (h1 _);have i2:=(FZ M d 2 (AL b (AF t _).size) (Lj b)).trans (h2 _);have E:=wN ((C.out.trans ((AF t _).mono (Cy b))).trans S)))
 all_goals (
  have a0:=wN (by have:=E.out.size;rw[<- HD.out] at this;exact this);have b1:=wN U;clear g0 g1 g2 i1 i2 e0 e1 e2 f0 R f2 U y
  go_wp2_with (first
   |(go_at_call 188;(with_reducible refine(KE.out _).mono ?_);rintro e w6 ⟨v6,rfl,s,T⟩
     obtain⟨eo,ec,rfl,_⟩:=s.bsl.shape;have a4:=wN (s.elt (B:=0));rw[a2.out] at a4 |-
     have b2:=wN (b1.out.below T);have b0:=wN (AU a0.out T.size);have a9:=wN (E.out.trans (T.mono a0.out));clear s)|(at_builtin;refine GQ 95 underlying95 w6 (Aw eo 256 ec) EB rfl (.tmp 18) (.tmp 22) rfl d 0 (A7 _) v5 ([HB] ++ D) rfl b2.out a4.out w6.heap.size rfl rfl a1.out b0.out ?_;intro v7 w7 b4 b3))
  go_ret2;exact⟨_,rfl,by rw[K.out,<- HD.out];exact b4,by rw[<- HD.out];exact a9.out.trans b3⟩)
def Ub(n:Int):Bool:=decide (0<=n/\n<=767)
def FN(l:Ab):Bool:=l.all Ub
def E9(l:Ab):FN l=AQ ↔ ∀ j,j<l.length->Ub (l.getD j 0)=AQ:=by
 unfold FN;rw[Dn];constructor
 . intro h j a
   have:l.getD j 0=l[j]:=(by simp[a]);rw[this];exact h _ (Br a)
 . intro h x b
   obtain⟨j,a,rfl⟩:=CC b;have:=h j a
   simpa [a] using this
def aw{l:Ab}{k:Nat}(a:k<l.length)(h:Ub (l.getD k 0)=AN):FN l=AN:=by
 cases b:FN l
 . rfl
 . have:=(E9 l).1 b k a
   rw[h] at this;cases this
def ax(A B:Ab)(n:Int)(k:Nat)(h:0<=n)(a:n<256 ^ k):Cs (A ++ (B8 n k ++ B)) A.length k=n:=by
 unfold Cs;rw[List.drop_left,DC (Bp n k),Ke n k h];exact DV h a
def Nv(l:Ab):Nat->Ab
 |0=>[]
 |k+1=>Nv l k ++ B8 (l.getD k 0) 2
def FY(l:Ab):∀ k,(Nv l k).length=2*k
 |0=>rfl
 |k+1=>by rw[Nv,AO,FY l k,Bp];omega
def FT(l:Ab):Ab:=Nv l 128
def WV(b:Ab)(k:Nat):Ab:=(BE k).map fun j=>Cs b (2*j) 2
def Hp(b:Ab)(k:Nat):(WV b k).length=k:=by simp[WV]
def IG(b:Ab)(n k:Nat):Ab:=(BE n).map fun j=>if j<k then Cs b (2*j) 2 else 0
def GF(b:Ab)(n k:Nat):(IG b n k).length=n:=by simp[IG]
def YQ(b:Ab)(n k:Nat):(IG b n k).set k (Cs b (2*k) 2)=IG b n (k+1):=by
 apply Bt (by rw[AR,GF,GF]);intro i a c;simp only[IG,Eh,Cu,Co];by_cases e:k=i
 . subst e;rw[AG rfl,AG Aa]
 . rw[AJ e]
   by_cases h:i<k
   . rw[AG h,AG Aa]
   . rw[AJ h,AJ Aa]
def VT(b:Ab)(n:Nat):IG b n 0=AI n 0:=by
 rw[List.eq_replicate_iff];refine⟨GF b n 0,fun x a=>?_⟩;obtain⟨i,_,rfl⟩:=Ce.1 a;rw[AJ Aa]
def Wv(b:Ab)(n:Nat):IG b n n=WV b n:=by
 unfold IG WV;apply Cr;intro i a;rw[AG (Bq.1 a)]
def XQ(l:Ab)(i:Nat):∀ j,i<j->∃ B,Nv l j=Nv l i ++ (B8 (l.getD i 0) 2 ++ B):=by
 intro j;induction j with
 |zero=>intro h;omega
 |succ j ih=>
  intro h;by_cases e:i=j
  . subst e;exact⟨[],by rw[Nv];simp⟩
  . obtain⟨B,a⟩:=ih Aa
    exact⟨B ++ B8 (l.getD j 0) 2,by rw[Nv,a];simp⟩
def inB_iff{n:Int}:Ub n=AQ ↔ 0<=n/\n<=767:=decide_eq_true_iff
def jw{l:Ab}(g:l.length=128)(h:FN l=AQ):WV (FT l) 128=l:=by
 apply Bt (by rw[Hp,g]);intro i a b;have f:i<128:=by rw[Hp] at a;exact a
 obtain⟨B,c⟩:=XQ l i 128 f;have d:=inB_iff.1 ((E9 l).1 h i Aa);have e:l.getD i 0=l[i]:=by simp[b]
 simp only[WV,Cu,Co];rw[FT,c,<- FY l i,ax _ _ _ _ d.1 (by have:(256:Int) ^ 2=65536:=rfl;omega),e]
def mX(b:Ab):Prop:=b.length=256/\FN (WV b 128)=AQ
def mD{l:Ab}(a:l.length=128)(h:FN l=AQ):mX (FT l):=⟨by rw[FT,FY],by rw[jw a h];exact h⟩
def i_{l:Ab}(h:∀ x∈l,0<=x/\x<=255)(a:Nat):0<=Cs l a 2/\Cs l a 2<=65535:=by
 have:=EI h a 2;have e:(256:Int) ^ 2=65536:=rfl;omega
def LD(n m:Int)(B:Bool)(h:decide (0<=n/\n<=m)=B)(w:Y):AH Aq 89 #[I Ap n,I Ap m] w fun e w'=>e=Av (AY B)/\w=w':=by
 by_cases a:0<=n
 . by_cases b:n<=m
   . obtain rfl:B=AQ:=by rw[<- h];exact AK ⟨a,b⟩
     clear h;go_enter func89,ntmps89;go_wp2;go_ret;exact⟨rfl,rfl⟩
   . obtain rfl:B=AN:=by rw[<- h];exact AM fun h=>b h.2
     clear h;go_enter func89,ntmps89;go_wp2;go_ret;exact⟨rfl,rfl⟩
 . obtain rfl:B=AN:=by rw[<- h];exact AM fun h=>a h.1
   clear h;go_enter func89,ntmps89;go_wp2;go_ret;exact⟨rfl,rfl⟩
def J2(n:Int)(B:Bool)(h:Ub n=B)(w:Y):AH Aq 91 #[I Ap n] w fun e w'=>e=Av (AY B)/\w=w':=by
 have K:=wN (LD n 767 B h);clear h;go_enter func91,ntmps91;go_wp2_with (go_at_call 89;refine Ad (K.out _) ?_;rintro w' rfl)
 go_ret;exact⟨rfl,rfl⟩
def Nz(n:Int)(B:Bool)(h:Ub n=B)(w:Y):AH Aq 156 #[I Ap n] w fun e w'=>e=Av (AY B)/\w=w':=by
 by_cases a:0<=n
 . by_cases b:n<=767
   . obtain rfl:B=AQ:=by rw[<- h];exact AK ⟨a,b⟩
     clear h;go_enter func156,ntmps156;go_wp2;go_ret;exact⟨rfl,rfl⟩
   . obtain rfl:B=AN:=by rw[<- h];exact AM fun h=>b h.2
     clear h;go_enter func156,ntmps156;go_wp2;go_ret;exact⟨rfl,rfl⟩
 . obtain rfl:B=AN:=by rw[<- h];exact AM fun h=>a h.1
   clear h;go_enter func156,ntmps156;go_wp2;go_ret;exact⟨rfl,rfl⟩
def SS{w:Y}{v:O}{l:Ab}(C:ISl w v l)(G:l.length<=1000000):AH Aq 90 #[v] w fun e w'=>e=Av (AY (FN l))/\w=w':=by
 obtain⟨J,F,rfl,s⟩:=C.open';have m:=fun k B h=>aw (l:=l) (k:=k) B h
 have a:=(E9 l).2;obtain⟨R,c⟩:=nm (FN l);rw[<- c] at m a |-
 obtain⟨N,z⟩:=nm l.length;rw[<- z] at s m a G |-
 have D:=wN s;have q:=wN m;have r:=wN a;clear s m a c C z;go_enter func90,ntmps90;go_wp2
 go_loop [7] (fun i=>∃ k:Nat,k<=N/\i=I Ap k/\Hid (∀ j,j<k->Ub (l.getD j 0)=AQ)) (fun i=>N-(intOf i).toNat)
 case atStart=>exact⟨0,Aa,rfl,fun j A=>absurd A (Bm _)⟩
 case round=>
  obtain⟨k,B,rfl,y⟩:=hrel;by_cases g:k<N
  . obtain⟨b,H,rfl,_,d⟩:=D.out Aa
    have t:=d k g;have o:=q.out k g;obtain⟨x,u⟩:=nm (l.getD k 0);rw[<- u] at t o;have E:=wN u;have p:=wN o;have K:(k:Int)<(N:Int):=Aa;clear u d o;cases f:Ub x
    . have n:=wN f
      have c:=p.out f;subst c;clear f;go_wp2_with (go_at_call 91;refine Ad (J2 x _ n.out _) ?_;rintro w' rfl)
      go_ret;exact⟨rfl,rfl⟩
    . have n:=wN f
      clear f;go_wp2_with (go_at_call 91;refine Ad (J2 x _ n.out _) ?_;rintro w' rfl)
      go_round
      case rel=>
       refine⟨k+1,Aa,by go_num,fun j A=>?_⟩;by_cases e:j=k
       . subst e;rw[<- E.out];exact n.out
       . exact y.out j Aa
      case measure=>simp[intOf];omega
  . obtain rfl:k=N:=by omega
    have c:=r.out y.out;subst c;go_wp2;go_ret;exact⟨rfl,rfl⟩
def Ix{w:Y}{v:O}{l:Ab}(b:ISl w v l)(a:l.length<=1000000)(B:Bool)(h:FN l=B):AH Aq 90 #[v] w fun e w'=>e=Av (AY B)/\w=w':=by
 rw[<- h];exact SS b a
def cK(n:Int)(h:n<1\/47<n)(w:Y):AH Aq 63 #[I Ap n] w fun e w'=>e=Av (AT #[I Ap (-1),I Ap (-1)])/\w=w':=by
 by_cases a:n<1
 . clear h
   go_enter func63,ntmps63;go_wp2;go_ret2;exact⟨rfl,rfl⟩
 . have b:48<=n:=by omega
   clear h;go_enter func63,ntmps63;go_wp2;go_ret2;exact⟨rfl,rfl⟩
def YD(n:Int)(a:1<=n)(b:n<=47)(w:Y):AH Aq 63 #[I Ap n] w fun e w'=>e=Av (AT #[I Ap (n / 8),I Ap (n%8)])/\w=w':=by
 go_enter func63,ntmps63;go_wp2;go_ret2;exact⟨rfl,rfl⟩
def PR{w:Y}{v:O}{c:Ab}(i:BSl w v c)(n:c.length<=100000)(a k:Nat)(A K:Int)(d:A=a)(f:K=k)(l:1<=k)(o:k<=8)(m:a+k<=c.length)(y:Int)(j:y=Cs c a k):
 AH Aq 183 #[v,I Ap A,I Ap K] w fun e w'=>e=Av (AT #[I .u64 y,AY AQ])/\w=w':=by
 subst d f;have b:=Mu i Aa (a:Int) k Aa Aa;have h:QU c (a:Int) k=y:=by unfold QU;rw[AG Aa,j];rfl
 have g:cp c (a:Int) k=AQ:=AK Aa;rw[h,g] at b;exact b
def Tp(w:Y)(M:Nat)(a:M<=1000):OB (w.alloc (Ay (AW M (I .u8 0)) 5)) w.heap.size (Aw (Z ⟨w.heap.size,0,J⟩) 0 M) []:=
 OB.of_heap (w:=w.alloc (Ay (AW M (I .u8 0)) 5)) (B:=w.heap.size) (g:=w.heap.size) (cap:=M) (l:=[]) (rest:=AI M (I .u8 0)) EX (AE _) (by rw[AC];simp) Ai (by unfold maxLen;omega)
def L5(w:Y){b:Array BK}{rest:List BK}{o:BK}{a:Act}{Q:Exit->Act->Y->Prop}
 (s:o.guard=J) (l c:Operand) (g:o.op=Op.makeSlice 179 l c) (C:Int) (n:Nat) (t:a.eval l=I .u64 C) (r:a.eval c=I .u64 C) (p:C=n) (u:n<=1000000)
 (q:Cj Aq b Q rest (a.put o.dst (Aw (Z ⟨w.heap.size,0,J⟩) n n)) (w.alloc (iO (AI n 0) 3))):
 Cj Aq b Q (o :: rest) a w:=by
 refine CH s fun K d=>?_
 obtain⟨i,h,j,k,m⟩:=Bs Uf;subst p;have f:=run_make (P:=Aq) w 179 3 i (I Ap 0) underlying179 h j .u64 .u64 n n Aa Aa (by rw[m];omega) Aa;unfold BK.wp;simp only[Cf,k,Nat.mul_one,We] at f;simp[execOp,g,t,r,f,Result.andThen];exact d _ _ q
def RowI(w:Y)(g:Nat)(N:Ab)(k:Nat):Prop:=∃ l:Ab,l.length=N.length/\w.heap[g]? =Z (iO l 3)/\∀ j,j<k->l.getD j 0=N.getD j 0
def RowI.make(w:Y)(N:Ab):RowI (w.alloc (iO (AI N.length 0) 3)) w.heap.size N 0:=
 ⟨AI N.length 0,Bg,AC w _,fun j a=>absurd a (Bm _)⟩
def RowI.row{w:Y}{g:Nat}{N:Ab}{k:Nat}(h:RowI w g N k):∃ l:Ab,l.length=N.length/\w.heap[g]? =Z (iO l 3):=by
 obtain⟨l,a,b,_⟩:=h;exact⟨l,a,b⟩
def RowI.set{w:Y}{g:Nat}{N:Ab}{k:Nat}(h:RowI w g N k)(m:k<N.length){y:Int}(f:y=N.getD k 0):RowI (w.setCell ⟨g,k,J⟩ (I Ap y)) g N (k+1):=by
 obtain⟨l,b,c,d⟩:=h;refine⟨l.set k y,by rw[AR];exact b,Td c k y,fun j i=>?_⟩;by_cases e:j=k
 . subst e
   have a:j<l.length:=Aa;rw[<- f];simp[a]
 . rw[Az,BB Aa,<- Az]
   exact d j Aa
def RowI.done{w:Y}{B g:Nat}{N:Ab}(h:RowI w g N N.length)(j:B<=g)(k:N.length<=1000000):IR w B (Aw (Z ⟨g,0,J⟩) N.length N.length) N:=by
 obtain⟨l,c,d,f⟩:=h;have e:l=N:=by
  apply Bt c;intro i a b;have:=f i b
  simpa [a,b] using this
 subst e;exact IR.of_row j d (by unfold maxLen;omega)
def IR.more9{w:Y}{B:Nat}{v:O}{l:Ab}(h:IR w B v l):IR w 0 v l:=by
 refine⟨h.1,?_⟩;rcases h.2 with h| ⟨g,a,b,c,d,r⟩
 . exact A4 h
 . exact A8 ⟨g,a,b,c,A7 _,r⟩
def Sr{w:Y}{v:O}{c:Ab}{N:Ab}(C:BSl w v c)(S:c.length=252)(JJ:N.length<=37)(f:Cs c 8 2=(N.length:Int))(ul:∀ i,i<N.length->Cs c (10+2*i) 2=N.getD i 0)
 (X:∀ i,i<N.length->0<=N.getD i 0/\N.getD i 0<=65535) (B:Bool) (R:ED N=B):
 AH Aq 192 #[v] w fun e w'=>∃ u,e=Av (AT #[u,AY B])/\IR w' 0 u N/\AB w.heap.size w w':=by
 have P:=wN (fun W u (h:ISc W u N)=>Rv h);rw[R] at P;have t:=wN (PR C Aa 8 2 8 2 rfl rfl Aa Aa Aa _ f.symm);have F:=wN (fun W (hb:AB w.heap.size w W) i (hi:i<N.length) (A:Int) (hA:A=((10+2*i:Nat):Int))=>PR (C.below hb) Aa (10+2*i) 2 A 2 hA rfl Aa Aa Aa _ (ul i hi).symm);have L:=wN X;have a:=wN (RowI.make w N);have b:=wN (fun W (h:RowI W w.heap.size N N.length)=>(h.done (AE _) Aa).more9);have m:=wN (fun W k (h:RowI W w.heap.size N k) T y hy=>h.set T (y:=y) hy);have j:=wN (fun W k (h:RowI W w.heap.size N k)=>h.row);obtain⟨ao,a0,rfl,_⟩:=C.shape;obtain⟨n,U⟩:=nm N.length;rw[<- U] at t F L a b m j JJ;rw[S] at t F |-
 have o:=AF w (iO (AI n 0) 3);have V:¬ (37:Int)<(n:Int):=Aa;have W6:n<=1000000:=Aa;clear C S f ul X R U;go_enter func192,ntmps192
 go_wp2_with (first|(go_at_call 183;(with_reducible refine Ad t.out ?_);rintro w2 rfl)|(at_make;refine L5 w rfl _ _ rfl (n:Int) n rfl rfl rfl W6 ?_))
 generalize w.alloc (iO (AI n 0) 3)=w1 at o a |-
 have q:=wN o;obtain⟨g,H⟩:=nm w.heap.size;rw[<- H] at a b m j |-
 have HG:=wN H;clear o H;go_loopw [21] (fun i wr=>∃ k:Nat,k<=n/\i=I Ap k/\Hid (RowI wr g N k)/\Hid (AB w.heap.size w wr)) (fun i _=>n-(intOf i).toNat)
 case atStart=>exact⟨0,Aa,rfl,a,q⟩
 case round=>
  obtain⟨k,T,rfl,s,D⟩:=hrel;clear a q t;by_cases d:k<n
  . have M:=wN (F.out _ D.out k d (10+(k:Int)*2) (by push_cast;omega))
    obtain⟨x0,x1⟩:=L.out k d;obtain⟨l,K,G⟩:=j.out _ k s.out;have p:=m.out _ k s.out d _ rfl;obtain⟨x,Q⟩:=nm (N.getD k 0);rw[<- Q] at M x0 x1 p;have E:=wN p;have a1:=OY G k;have mb:∃ z,wr.cell? ⟨g,k,J⟩=Z z:=by
     by_cases r:k<l.length
     . exact⟨_,Gd G k r⟩
     . exact absurd (AL d (Nat.le_of_not_lt fun h=>r Aa)) (Nat.lt_irrefl _)
    obtain⟨z,hz⟩:=mb;have ek:(k:Int)<(n:Int):=Aa;have sZ:Ap.wrap x=x:=Bz _ Aa;clear Q p K G;go_wp2_with (go_at_call 183;(with_reducible refine Ad M.out ?_);rintro w2 rfl)
    go_roundw
    case rel=>exact⟨k+1,Aa,by go_num,E,D.out.trans ((Wrote.setCell wr g k _).below (by rw[HG.out];exact AE _))⟩
    case measure=>simp[intOf];omega
  . obtain rfl:k=n:=by omega
    have KF:=wN (P.out _ _ (b.out _ s.out).isc);go_wp2_with (go_at_call 208;(with_reducible refine Ad KF.out ?_);rintro w2 rfl)
    go_ret2;exact⟨_,rfl,b.out _ s.out,D.out⟩
def IU{w:Y}{v:O}{q:Int}{N:Ab}{L:Ae}(hs:BBSl w v L)(K:0<L.length)(hh:L.getD 0 []=BV (CB q N))(M:ED N=AQ)(q0:0<=q)(q1:q<4294967296):
 AH Aq 167 #[v] w fun e w'=>∃ u,e=Av (AT #[I .u32 q,u,AY AQ])/\IR w' 0 u N/\AB w.heap.size w w':=by
 obtain⟨o,A⟩:=GN M;have D:(CB q N).length<=252:=by rw[Gk];omega
 have U:=EN _ D;obtain⟨ao,a0,rfl,_,hc⟩:=hs.open';obtain⟨b,f,rfl,X,t⟩:=hc K;obtain⟨u0,C,a⟩:=t 0 K;rw[hh] at a;rw[Nat.add_zero] at C;obtain⟨uo,uc,rfl,_⟩:=a.shape;have T:=Dp _ D;rw[T] at C a;have B:=wN (JX a (Ji _ D));rw[Ss q N o] at B;have Q:=wN (fun W v (h:BSl W v (DI (CB q N)))=>PR h Aa 4 4 4 4 rfl rfl Aa Aa Aa q (V6 q N q0 q1).symm);have KR:=wN (fun W v (h:BSl W v (DI (CB q N)))=>Sr h U o (QG q N o) (fun i x=>N9 q N i x (A i x)) (fun i x=>⟨(A i x).1,by have:=(A i x).2;omega⟩) AQ M);have S:=wN (fun W u (h:IR W 0 u N)=>PW h.sl o A q0 q1);have j:=wN a;generalize BV (CB q N)=P at B S j;generalize DI (CB q N)=HC at B Q KR;obtain⟨m,hm⟩:=nm L.length;rw[<- hm] at K |-
 have Ij:¬ (m:Int)=0:=Aa;have a1:((m:Int)==0)=AN:=by simpa using Ij
 have a2:(0:Int)<(m:Int):=Aa;have uj:IntKind.u32.wrap q=q:=IntWalk.u32_in _ Aa;clear hs hc hh t a T U D A M o q0 q1 hm;go_enter func167,ntmps167
 go_wp2_with (first
  |(go_at_call 149;(with_reducible refine B.out.mono ?_);rintro e w2 ⟨v2,rfl,g,r⟩
    have l:=wN g.bsl;have k:=wN r)|(go_at_call 183;(with_reducible refine Ad (Q.out _ _ l.out) ?_);rintro w3 rfl)|(go_at_call 192;(with_reducible refine(KR.out _ _ l.out).mono ?_);rintro e E ⟨v4,rfl,z,s⟩))
 have c:Hid (AB w.heap.size w E.drew):=wN (Bd (k.out.trans (s.mono k.out.size)) 1);have n:Hid (IR E.drew 0 v4 N):=wN z;have V:E.drew.cell? ⟨b,f,J⟩=Z (Aw uo 256 uc):=(c.out.cell (p:=⟨b,f,J⟩) X).trans C;have M6:b<E.drew.heap.size:=AL X c.out.size;have G:=wN (j.out.below c.out);clear g r z s C j
 go_region_held3 (fun W=>W.cell? ⟨b,f,J⟩=Z (Aw uo 256 uc)) (first|exact f0|exact V) (first
  |(go_at_call 193;(with_reducible refine(S.out _ _ n.out).mono ?_);rintro e w5 ⟨v5,rfl,y,d⟩
    have f0:=(d.cell (p:=⟨b,f,J⟩) M6).trans V;have R:=wN (Ep y.bsl (G.out.below d));rw[AK (rfl:P=P)] at R;have F:=wN (c.out.trans (d.mono c.out.size));have H:=wN (n.out.below d))|(go_at_call 152;(with_reducible refine Ad R.out ?_);rintro w6 rfl))
 go_wp2;go_ret3;exact⟨_,rfl,H.out,F.out⟩
def mP{w:Y}{v:O}{q:Int}{N:Ab}{L:Ae}(f:BBSl w v L)(b:0<L.length)(d:L.getD 0 []=BV (CB q N))(c:ED N=AQ)(q0:0<=q)(q1:q<4294967296):
 AH Aq 124 #[v] w fun e w'=>e=Av (AT #[I .u32 q,AY AQ])/\AB w.heap.size w w':=by
 have K:=wN (IU f b d c q0 q1);clear f b d c q0 q1;go_enter func124,ntmps124;go_wp2_with (go_at_call 167;(with_reducible refine K.out.mono ?_);rintro e i ⟨h,rfl,g,a⟩)
 go_ret2;exact⟨rfl,a⟩
def I5(c:Ab)(n:Nat):Ab:=(BE n).map fun i=>Cs c (10+2*i) 2
def Me(c:Ab)(n:Nat):(I5 c n).length=n:=by simp[I5]
def Nt(c:Ab)(n i:Nat)(hi:i<n):(I5 c n).getD i 0=Cs c (10+2*i) 2:=by
 simp[I5,hi]
def DB(b:Ab)(q:Int)(N:Ab):Prop:=ED N=AQ/\(0<=q/\q<4294967296)/\b=BV (CB q N)
def MK{b:Ab}{q:Int}{N:Ab}(h:DB b q N):Fy b/\Cs (b.take 252) 4 4=q/\Cs (b.take 252) 8 2=(N.length:Int)/\I5 (b.take 252) N.length=N:=by
 obtain⟨d,⟨j,k⟩,rfl⟩:=h;obtain⟨c,g⟩:=GN d;have f:(CB q N).length<=252:=by rw[Gk];omega
 rw[Ss q N c];refine⟨Ji _ f,V6 q N j k,QG q N c,?_⟩;apply Bt (Me _ _);intro i a b;have:=Nt (DI (CB q N)) N.length i b;rw[N9 q N i b (g i b)] at this
 simpa [a,b] using this
def QM{b:Ab}{q c:Int}{N a:Ab}(h:DB b q N)(l:DB b c a):q=c/\N=a:=by
 obtain⟨_,d,f,g⟩:=MK h;obtain⟨_,i,j,k⟩:=MK l;have e:N.length=a.length:=by
  have:=f.symm.trans j;omega
 exact⟨d.symm.trans i,by rw[<- g,<- k,e]⟩
def tJ{c:Ab}(h:Fv c)(a:Nat):0<=Cs c a 2/\Cs c a 2<=65535:=by
 have:=EI (Da h) a 2;simp at this;omega
def Zv{w:Y}{v:O}{c:Ab}(b:BSl w v c)(f:c.length=252)(h:37<Cs c 8 2):
 AH Aq 192 #[v] w fun e w'=>e=Av (AT #[Aw J 0 0,AY AN])/\w=w':=by
 have a:=wN (PR b Aa 8 2 8 2 rfl rfl Aa Aa Aa _ rfl);obtain⟨x,d⟩:=nm (Cs c 8 2);rw[<- d] at a h;clear b f d;go_enter func192,ntmps192;go_wp2_with (go_at_call 183;(with_reducible refine Ad a.out ?_);rintro g rfl)
 go_ret2;exact⟨rfl,rfl⟩
def Zp{w:Y}{v:O}{c:Ab}(d:BSl w v c)(j:c.length=252):
 AH Aq 192 #[v] w fun e w'=>∃ u B,e=Av (AT #[u,AY B])/\AB w.heap.size w w'/\
  ((B=AQ/\Cs c 8 2<=37/\ED (I5 c (Cs c 8 2).toNat)=AQ/\IR w' 0 u (I5 c (Cs c 8 2).toNat))\/
   (B=AN/\(Cs c 8 2<=37->ED (I5 c (Cs c 8 2).toNat)=AN)/\∃ f n cap,u=Aw f n cap)):=by
 by_cases h:Cs c 8 2<=37
 . have q:=(tJ d.1 8).1
   obtain⟨n,o⟩:=nm ((Cs c 8 2).toNat);rw[<- o];have b:=Me c n;have g:∀ i,i<n->0<=(I5 c n).getD i 0/\(I5 c n).getD i 0<=65535:=fun i a=>by rw[Nt c n i a];exact tJ d.1 _
   refine(Sr d j (N:=I5 c n) (by rw[b];omega) (by rw[b];omega) (fun i a=>(Nt c n i (by rw[b] at a;exact a)).symm) (fun i a=>g i (by rw[b] at a;exact a)) _ rfl).mono ?_;rintro e w' ⟨u,rfl,k,m⟩;refine⟨u,_,rfl,m,?_⟩;cases r:ED (I5 c n)
   . obtain⟨f,cap,p⟩:=k.sl.shape
     exact A8 ⟨rfl,fun _=>rfl,f,_,cap,p⟩
   . exact A4 ⟨rfl,h,rfl,k⟩
 . refine Ad (Zv d j Aa) ?_
   rintro w' rfl;exact⟨_,_,rfl,AP _ _,A8 ⟨rfl,fun l=>absurd l h,J,0,0,rfl⟩⟩
def YI{w:Y}{cap:Nat}{a:Option Addr}:AH Aq 167 #[Aw a 0 cap] w fun e w'=>e=Av (AT #[I .u32 0,Aw J 0 0,AY AN])/\w=w':=by
 go_enter func167,ntmps167;go_wp2;go_ret3;exact⟨rfl,rfl⟩
def Wk{w:Y}{v:O}{L:Ae}(l:BBSl w v L)(d:0<L.length)(j:¬ Fy (L.getD 0 [])):
 AH Aq 167 #[v] w fun e w'=>e=Av (AT #[I .u32 0,Aw J 0 0,AY AN])/\AB w.heap.size w w':=by
 obtain⟨t,p,rfl,_,i⟩:=l.open';obtain⟨b,s,rfl,u,c⟩:=i d;obtain⟨u0,h,a⟩:=c 0 d;rw[Nat.add_zero] at h;obtain⟨z,x,rfl,_⟩:=a.shape;have g:=wN (R4 a j);obtain⟨y,n⟩:=nm ((L.getD 0 []).length);rw[<- n] at g h;obtain⟨m,k⟩:=nm L.length;rw[<- k] at d |-
 have o:¬ (m:Int)=0:=Aa;have q:((m:Int)==0)=AN:=by simpa using o
 have r:(0:Int)<(m:Int):=Aa;clear l i j c a k n;go_enter func167,ntmps167;go_wp2_with (go_at_call 149;(with_reducible refine Ad g.out ?_);rintro A f)
 go_ret3;exact⟨rfl,f⟩
def Rj{w:Y}{v:O}{L:Ae}(hs:BBSl w v L)(U:0<L.length)(H:Fy (L.getD 0 []))(Q:∀ q N,¬ DB (L.getD 0 []) q N):
 AH Aq 167 #[v] w fun e w'=>e=Av (AT #[I .u32 0,Aw J 0 0,AY AN])/\AB w.heap.size w w':=by
 obtain⟨ao,a2,rfl,_,hc⟩:=hs.open';obtain⟨b,i,rfl,hb,A⟩:=hc U;obtain⟨u0,G,f⟩:=A 0 U;rw[Nat.add_zero] at G;obtain⟨uo,uc,rfl,_⟩:=f.shape;have F:=wN (JX f H);have K:=MJ H;have MX:(L.getD 0 []).length=256:=H.1;have r:=f.1;rw[MX] at G f F;have l:=wN f;generalize L.getD 0 []=bb at F K Q l r;obtain⟨c,s⟩:=nm (bb.take 252);have Q3:Fv c:=by rw[s];exact En r 252
 rw[<- s] at F K;have V:=EI (Da Q3) 4 4;have M:=V.1;have P:Cs c 4 4<4294967296:=by simpa using V.2
 have K4:=wN (fun W v (h:BSl W v c)=>PR h Aa 4 4 4 4 rfl rfl Aa Aa Aa _ rfl);have KR:=wN (fun W v (h:BSl W v c)=>Zp h K);obtain⟨q,C⟩:=nm (Cs c 4 4);rw[<- C] at M P K4;obtain⟨N,hN⟩:=nm (I5 c (Cs c 8 2).toNat);rw[<- hN] at KR;have KH:=wN (fun(t:ED N=AQ) W u (h:IR W 0 u N)=>PW h.sl (GN t).1 (GN t).2 M P);have x:=wN (fun(t:ED N=AQ)=>show ¬ BV (CB q N)=bb from fun e=>Q q N ⟨t,⟨M,P⟩,e.symm⟩);generalize BV (CB q N)=HS at KH x;obtain⟨m,hm⟩:=nm L.length;rw[<- hm] at U |-
 have Ij:¬ (m:Int)=0:=Aa;have a3:((m:Int)==0)=AN:=by simpa using Ij
 have a4:(0:Int)<(m:Int):=Aa;have uj:IntKind.u32.wrap q=q:=IntWalk.u32_in _ Aa;clear hs hc H A f MX K Q r s Q3 V C hN hm M P;go_enter func167,ntmps167
 go_wp2_with (first
  |(go_at_call 149;(with_reducible refine F.out.mono ?_);rintro e w2 ⟨v2,rfl,k,z⟩
    have y:=wN k.bsl;have g:=wN z)|(go_at_call 183;(with_reducible refine Ad (K4.out _ _ y.out) ?_);rintro w3 rfl)
  |(go_at_call 192;(with_reducible refine(KR.out _ _ y.out).mono ?_);rintro e E ⟨v4,B4,rfl,n,Lv⟩
    have a:=wN Lv;clear Lv))
 have d:Hid (AB w.heap.size w E.drew):=wN (Bd (g.out.trans (n.mono g.out.size)) 1);have j:Hid (AB w.heap.size w E):=wN (g.out.trans (n.mono g.out.size));clear k z n;rcases a.out with⟨rfl,_,t,D⟩| ⟨rfl,_,a1,n4,a0,rfl⟩
 . have X:=wN t
   have T:Hid (IR E.drew 0 v4 N):=wN D;have e0:E.drew.cell? ⟨b,i,J⟩=Z (Aw uo 256 uc):=(d.out.cell (p:=⟨b,i,J⟩) hb).trans G;have M6:b<E.drew.heap.size:=AL hb d.out.size;have S:=wN (l.out.below d.out);clear G l t D a j
   go_region_held3 (fun W=>W.cell? ⟨b,i,J⟩=Z (Aw uo 256 uc)) (first|exact f0|exact e0) (first
    |(go_at_call 193;(with_reducible refine(KH.out X.out _ _ T.out).mono ?_);rintro e w5 ⟨v5,rfl,B,o⟩
      have f0:=(o.cell (p:=⟨b,i,J⟩) M6).trans e0;have K6:=wN (Ep B.bsl (S.out.below o));rw[AM (x.out X.out)] at K6;have R:=wN (d.out.trans (o.mono d.out.size)))|(go_at_call 152;(with_reducible refine Ad K6.out ?_);rintro w6 rfl))
   go_wp2;go_ret3;exact⟨rfl,R.out⟩
 . clear a d
   go_quiet (fail)
   go_wp2;go_ret3;exact⟨rfl,Bd j.out nq⟩
def Qa{w:Y}{v:O}{L:Ae}(d:BBSl w v L):
 AH Aq 167 #[v] w fun e w'=>AB w.heap.size w w'/\
  ((∃ q N u,0<L.length/\DB (L.getD 0 []) q N/\e=Av (AT #[I .u32 q,u,AY AQ])/\IR w' 0 u N)\/
   ((∀ q N,¬ (0<L.length/\DB (L.getD 0 []) q N))/\e=Av (AT #[I .u32 0,Aw J 0 0,AY AN]))):=by
 by_cases c:0<L.length
 . by_cases g:∃ q N,DB (L.getD 0 []) q N
   . obtain⟨q,N,b⟩:=g
     refine(IU d c b.2.2 b.1 b.2.1.1 b.2.1.2).mono ?_;rintro e w' ⟨u,rfl,k,a⟩;exact⟨a,A4 ⟨q,N,u,c,b,rfl,k⟩⟩
   . have f:∀ q N,¬ DB (L.getD 0 []) q N:=fun q N h=>g ⟨q,N,h⟩
     by_cases i:Fy (L.getD 0 [])
     . refine Ad (Rj d c i f) ?_
       rintro w' a;exact⟨a,A8 ⟨fun q N h=>f q N h.2,rfl⟩⟩
     . refine Ad (Wk d c i) ?_
       rintro w' a;exact⟨a,A8 ⟨fun q N h=>f q N h.2,rfl⟩⟩
 . obtain⟨l,j,rfl,_⟩:=d.shape
   have e:L.length=0:=Aa;rw[e];refine Ad YI ?_;rintro w' rfl;exact⟨AP _ _,A8 ⟨fun q N h=>absurd h.1 Aa,rfl⟩⟩
def jA{w:Y}{v:O}{L:Ae}(i:BBSl w v L):
 AH Aq 124 #[v] w fun e w'=>AB w.heap.size w w'/\
  ((∃ q N,0<L.length/\DB (L.getD 0 []) q N/\e=Av (AT #[I .u32 q,AY AQ]))\/
   ((∀ q N,¬ (0<L.length/\DB (L.getD 0 []) q N))/\e=Av (AT #[I .u32 0,AY AN]))):=by
 by_cases h:∃ q N,0<L.length/\DB (L.getD 0 []) q N
 . obtain⟨q,N,b,a⟩:=h
   refine Ad (mP i b a.2.2 a.1 a.2.1.1 a.2.1.2) ?_;rintro w' f;exact⟨f,A4 ⟨q,N,b,a,rfl⟩⟩
 . have c:∀ q N,¬ (0<L.length/\DB (L.getD 0 []) q N):=fun q N k=>h ⟨q,N,k⟩
   have K:Hid (AH Aq 167 #[v] w fun e w'=>e=Av (AT #[I .u32 0,Aw J 0 0,AY AN])/\AB w.heap.size w w'):=wN ((Qa i).mono fun e w' ⟨f,j⟩=>by
    rcases j with⟨q,N,u,b,a,_⟩| ⟨_,he⟩
    . exact absurd ⟨b,a⟩ (c q N)
    . exact⟨he,f⟩)
   have d:=wN c;clear i h c;go_enter func124,ntmps124;go_wp2_with (go_at_call 167;(with_reducible refine Ad K.out ?_);rintro l g)
   go_ret2;exact⟨g,A8 ⟨d.out,rfl⟩⟩
end
end Go.Proofs.YtfpdajplfmakhaaGreatDoor
