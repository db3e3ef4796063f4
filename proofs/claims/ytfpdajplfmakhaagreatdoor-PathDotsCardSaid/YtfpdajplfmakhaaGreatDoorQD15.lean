/- What the law rests on. -/
import Derived.Laws.IdiomStrings
import Derived.Test.YtfpdajplfmakhaaGreatDoorQD14
open Go.Value renaming int->J,slice->E,pointer->C,tuple->AT,bool->AY,agg->BS
open Go.IntKind renaming i64->Y
open Go.Proofs.Tryz renaming prog->I
open Option renaming none->H,some->Z
open Go renaming World->G,Value->AA,Calls->AH,strOfNums->B7,TypeId->Cn
open Go.Ending renaming returned->Av
open Go.Obj renaming cells->U
open Go.RowKit renaming Below->o
open Bool renaming false->M,true->AQ
open Or renaming inl->A4,inr->A8
open List renaming length_cons->BJ
open Go.Proofs.Tryz
namespace Go.Proofs.YtfpdajplfmakhaaGreatDoor
set_option linter.defProp false
set_option maxHeartbeats 12000000
set_option linter.unusedVariables false
set_option maxRecDepth 100000
open Go.RowKit BM
def ddS:ByteArray:=⟨#[46,46]⟩
def Xo{s:ByteArray}(h:(s.toList==[46,46])=M):s≠ddS:=fun e=>by
 rw[e] at h;have:ddS.toList=[46,46]:=by rw[Cg];rfl
 rw[this] at h;cases h
structure KnO (T:Fa) (K:Int->ByteArray->Option Int):Prop where
 nm:∀ (a:Nat) s n,K a s=Z n->s≠ddS->∃ x y,∃ k:Nat,n=(k:Int)/\T a=Z x/\x.kd=2/\DM x.L s<x.L.length/\(x.L.getD (DM x.L s) default).1=(k:Int)/\T k=Z y/\y.kd=2
 up:∀ (a:Nat) n,K a ddS=Z n->n=(Tk T a:Int)
 cl:∀ (a:Nat) n,K a ddS=Z n->(K n ddS).isSome=AQ
def m_{T:Fa}{m:Nat}(h:OkU T m):Tk T 1=1:=Vt fun j _=>by
 unfold Ra;cases a:T j with
 |none=>rfl
 |some x=>
  have:(x.L.any fun e=>e.1==(1:Int))=M:=List.any_eq_false.2 fun e he=>by
   have:=(h.up j x a e he).2;rw[beq_iff_eq];omega
  show(decide (x.kd=2) && x.L.any fun e=>e.1==(1:Int))=M
  rw[this,Bool.and_false]
def tN{T:Fa}{m a k:Nat}{x:Nd}{i:Nat}(p:OkT T)(h:OkU T m)(g:T a=Z x)(o:x.kd=2)(hi:i<x.L.length)(n:(x.L.getD i default).1=(k:Int)):Tk T (k:Int)=a:=by
 refine kg (p.hi a x g).2 ?_ fun j r=>?_
 . unfold Ra
   rw[g];show(decide (x.kd=2) && x.L.any fun e=>e.1==(k:Int))=AQ
   rw[AK o,AS];refine List.any_eq_true.2 ⟨x.L.getD i default,by rw[F7 _ hi];exact Br _,by rw[beq_iff_eq];exact n⟩
 . unfold Ra
   cases q:T j with
   |none=>rfl
   |some y=>
    have:(y.L.any fun e=>e.1==(k:Int))=M:=List.any_eq_false.2 fun e he=>by
     rw[beq_iff_eq];intro f;obtain⟨b,l,d⟩:=CC he;have c:y.L.getD b default=e:=(by rw[F7 _ l];exact d);have:=(h.one j y a x q g b i l hi (by rw[c,f,n])).1;omega
    show(decide (y.kd=2) && y.L.any fun e=>e.1==(k:Int))=M
    rw[this,Bool.and_false]
def TSt(w:G)(v:AA)(O:List ByteArray):Prop:=TSl w v O/\(0<O.length->∃ b a n c d z,v=E (Z ⟨b,a,H⟩) n c/\w.heap[b]? =Z (U d 9 z))
def TSt.keep{w w':G}{v:AA}{O:List ByteArray}(h:TSt w v O)(A:w.heap.size<=w'.heap.size)(o:∀ (b:Nat) (cs:Array AA) (z:Nat × Nat),w.heap[b]? =Z (U cs 9 z)->w'.heap[b]? =w.heap[b]?):TSt w' v O:=by
 obtain⟨⟨r,i,p,y,u⟩,m⟩:=h;refine⟨⟨r,i,p,y,fun g=>?_⟩,fun g=>?_⟩
 . obtain⟨b,d,e,k,x⟩:=u g
   obtain⟨s,q,C,B,cs,z,l,f⟩:=m g;rw[p,e] at l;have t:b=s:=(by cases l;rfl);rw[<- t] at f;exact⟨b,d,e,AL k A,fun j h=>(Bi (a:=⟨b,d+j,H⟩) (o b cs z f)).trans (x j h)⟩
 . obtain⟨b,d,n,c,cs,z,e,f⟩:=m g
   exact⟨b,d,n,c,cs,z,e,(o b cs z f).trans f⟩
def TSt.below{w w':G}{v:AA}{O:List ByteArray}(h:TSt w v O)(hb:o w.heap.size w w'):TSt w' v O:=h.keep hb.size fun b c z a=>hb.block b (Au.1 a).1
def TR.st{w:G}{B:Nat}{v:AA}{O:List ByteArray}(h:TR w B v O):TSt w v O:=by
 refine⟨h.sl,fun f=>?_⟩;rcases h.2 with⟨_,j⟩| ⟨g,a,b,d,i,c,r⟩
 . omega
 . exact⟨g,0,_,a,b,(0,0),d,c⟩
def TSt.tail{w:G}{b off cap n:Nat}{O:List ByteArray}(h:TSt w (E (Z ⟨b,off,H⟩) n cap) O)(d:0<O.length):TSt w (.slice (if cap=1 then Z ⟨b,off,H⟩ else Z ⟨b,off+1,H⟩) (n-1) (cap-1)) (O.drop 1):=by
 refine⟨h.1.tail d,fun _=>?_⟩;obtain⟨g,f,k,j,c,z,e,a⟩:=h.2 d;have i:b=g:=by cases e;rfl
 rw[<- i] at a;split
 . exact⟨b,off,_,_,c,z,rfl,a⟩
 . exact⟨b,off+1,_,_,c,z,rfl,a⟩
structure WkS (W1:G) (T:Fa) (fo:Bool) (bf bw bm a f:Nat) (l:List ByteArray) (K:Int->ByteArray->Option Int) (n:Nat) (w:G):Prop where
 row:∃ v,w.heap[bw]? =Z (U #[C (Z ⟨bf,0,H⟩),AY fo,J Y a,v,.map (Z bm),J Y f] 82 (0,0))/\TSt w v l
 mp:MpK w bm K n
 lo:W1.heap.size<=bw/\W1.heap.size<=bm
 be:o W1.heap.size W1 w
 dir:∃ x,T a=Z x/\x.kd=2
 f4:f<=4
 len:l.length<=20
 ne:∀ s∈l,s.size≠0/\s.size<=13
 kn:KnO T K
 up:(K a ddS).isSome=AQ
 up1:(K 1 ddS).isSome=AQ
section
variable {W1:G}{T:Fa}{fo:Bool}{bf bw bm a f:Nat}{l:List ByteArray}{K:Int->ByteArray->Option Int}{n:Nat}{w w':G}
def WkS.cells(h:WkS W1 T fo bf bw bm a f l K n w):∃ b cap,w.heap[bw]? =Z (U #[C (Z ⟨bf,0,H⟩),AY fo,J Y a,E b l.length cap,.map (Z bm),J Y f] 82 (0,0))/\TSt w (E b l.length cap) l:=by
 obtain⟨v,d,c⟩:=h.row;obtain⟨b,cap,rfl,_⟩:=id c.1;exact⟨b,cap,d,c⟩
def WkS.lt(h:WkS W1 T fo bf bw bm a f l K n w):bw<w.heap.size/\bm<w.heap.size:=by
 obtain⟨v,b,_⟩:=h.row;exact⟨(Au.1 b).1,h.mp.lt⟩
def WkS.low(h:WkS W1 T fo bf bw bm a f l K n w)(hb:o w.heap.size w w'):WkS W1 T fo bf bw bm a f l K n w':=by
 obtain⟨d,g⟩:=h.lt;obtain⟨v,b,c⟩:=h.row;exact { h with row:=⟨v,(hb.block _ d).trans b,c.below hb⟩,mp:=h.mp.keep (hb.block _ g),be:=h.be.trans (hb.mono h.be.size) }
def WkS.turn(h:WkS W1 T fo bf bw bm a f l K n w){i a' f':Nat}{l':List ByteArray}{u d:AA}
 (t:(w.setCell ⟨bw,i,H⟩ u).heap[bw]? =Z (U #[C (Z ⟨bf,0,H⟩),AY fo,J Y a',d,.map (Z bm),J Y f'] 82 (0,0))) (c:TSt w d l')
 (hd:∃ x,T a'=Z x/\x.kd=2) (hf:f'<=4) (q:l'.length<=20) (r:∀ s∈l',s.size≠0/\s.size<=13) (hu:(K a' ddS).isSome=AQ):WkS W1 T fo bf bw bm a' f' l' K n (w.setCell ⟨bw,i,H⟩ u):=by
 obtain⟨A,o,j,B⟩:=h.cells;have m:∀ (b:Nat) (g:Array AA) (z:Nat × Nat),w.heap[b]? =Z (U g 9 z)->(w.setCell ⟨bw,i,H⟩ u).heap[b]? =w.heap[b]? :=fun b g z k=>AZ w ⟨bw,i,H⟩ b _ (fun e=>by
  have e:b=bw:=e;rw[e,j] at k;cases k)
 have y:=h.mp.not_cells j;have v:w.heap.size<=(w.setCell ⟨bw,i,H⟩ u).heap.size:=by rw[G.size_setCell];exact AE _
 exact { h with row:=⟨d,t,c.keep v m⟩,mp:=h.mp.keep (AZ w ⟨bw,i,H⟩ bm _ y),be:=h.be.setCell (p:=⟨bw,i,H⟩) h.lo.1 _,dir:=hd,f4:=hf,len:=q,ne:=r,up:=hu }
def WkS.setA(h:WkS W1 T fo bf bw bm a f l K n w){a':Nat}(hd:∃ x,T a'=Z x/\x.kd=2)(hu:(K a' ddS).isSome=AQ):WkS W1 T fo bf bw bm a' f l K n (w.setCell ⟨bw,2,H⟩ (J Y a')):=by
 obtain⟨v,b,c⟩:=h.row;exact h.turn (i:=2) (by rw[Bk w bw 2 _ _ _ b];rfl) c hd h.f4 h.len h.ne hu
def WkS.setL(h:WkS W1 T fo bf bw bm a f l K n w){b:AA}{l':List ByteArray}(hv:TSt w b l')(d:l'.length<=20)(g:∀ s∈l',s.size≠0/\s.size<=13):WkS W1 T fo bf bw bm a f l' K n (w.setCell ⟨bw,3,H⟩ b):=by
 obtain⟨v,c,j⟩:=h.row;exact h.turn (i:=3) (by rw[Bk w bw 3 _ _ _ c];rfl) hv h.dir h.f4 d g h.up
def WkS.setF(h:WkS W1 T fo bf bw bm a f l K n w){f':Nat}(hf:f'<=4):WkS W1 T fo bf bw bm a f' l K n (w.setCell ⟨bw,5,H⟩ (J Y f')):=by
 obtain⟨v,b,c⟩:=h.row;exact h.turn (i:=5) (by rw[Bk w bw 5 _ _ _ b];rfl) c h.dir hf h.len h.ne h.up
def WkS.know(h:WkS W1 T fo bf bw bm a f l K n w){d:Int}{s:ByteArray}{v:Int}(t:MpK w' bm (Jj K d s v) (n+1))(c:w.grownBy w' (Z bm))(r:KnO T (Jj K d s v)):WkS W1 T fo bf bw bm a f l (Jj K d s v) (n+1) w':=by
 obtain⟨x,p,m,q⟩:=h.cells;have u:=h.mp.not_cells m;have j:∀ g i,(K g i).isSome=AQ->(Jj K d s v g i).isSome=AQ:=fun g i h=>by
  unfold Jj;split
  . rfl
  . exact h
 refine { h with row:=⟨_,(c.block bw h.lt.1 (fun e=>u (Bc e).symm)).trans m,q.keep c.size fun b y z o=>c.block b (Au.1 o).1 fun e=>?_⟩,mp:=t,be:=h.be.grown c h.be.size (fun k e=>by cases e;exact h.lo.2),kn:=r,up:=j _ _ h.up,up1:=j _ _ h.up1 };exact h.mp.not_cells o (Bc e).symm
def WkS.wrote(h:WkS W1 T fo bf bw bm a f l K n w){g:Nat}(c:Wrote w w' g){cs:Array AA}{t:Cn}{z:Nat × Nat}(d:w.heap[g]? =Z (U cs t z))(q:t≠9)(k:g≠bw)(j:W1.heap.size<=g):WkS W1 T fo bf bw bm a f l K n w':=by
 obtain⟨s,m,o,p⟩:=h.cells;have r:=h.mp.not_cells d;refine { h with row:=⟨_,(c.2.2.2.2 bw (fun e=>k e.symm)).trans o,p.keep (by rw[c.2.2.2.1];exact AE _) fun b cs z i=>c.2.2.2.2 b fun e=>?_⟩,mp:=h.mp.keep (c.2.2.2.2 bm r),be:=h.be.trans (c.below j) };rw[e,d] at i;cases i
 exact q rfl
def Yh(h:KnO T K){a:Nat}{s:ByteArray}{v:Int}(j:s≠ddS->∃ x y,∃ k:Nat,v=(k:Int)/\T a=Z x/\x.kd=2/\DM x.L s<x.L.length/\(x.L.getD (DM x.L s) default).1=(k:Int)/\T k=Z y/\y.kd=2)(l:s=ddS->v=(Tk T a:Int))(m:s=ddS->(Jj K a s v v ddS).isSome=AQ):KnO T (Jj K a s v):=by
 refine⟨fun b n d e f=>?_,fun b d e=>?_,fun b d e=>?_⟩
 . unfold Jj at e
   split at e
   . next c=>
     obtain⟨g,rfl⟩:=c;obtain rfl:b=a:=Aa;cases e
     exact j f
   . exact h.nm b n d e f
 . unfold Jj at e
   split at e
   . next c=>
     obtain⟨g,i⟩:=c;obtain rfl:b=a:=Aa;cases e
     exact l i.symm
   . exact h.up b d e
 . unfold Jj at e
   split at e
   . next c=>
     cases e
     exact m c.2.symm
   . have:=h.cl b d e
     unfold Jj;split
     . rfl
     . exact this
end
def FrK(bw bm:Nat)(w w':G):Prop:=w.heap.size<=w'.heap.size/\∀ k,k<w.heap.size->k≠bw->k≠bm->w'.heap[k]? =w.heap[k]?
section
variable {bw bm:Nat}{w w4 w5:G}
def FrK.refl(bw bm:Nat)(w:G):FrK bw bm w w:=⟨AE _,fun _ _ _ _=>rfl⟩
def FrK.low(h:FrK bw bm w w4)(hb:o w4.heap.size w4 w5):FrK bw bm w w5:=⟨AU h.1 hb.size,fun k a b c=>(hb.block k (AL a h.1)).trans (h.2 k a b c)⟩
def FrK.set(h:FrK bw bm w w4)(i:Nat)(u:AA):FrK bw bm w (w4.setCell ⟨bw,i,H⟩ u):=⟨by rw[G.size_setCell];exact h.1,fun k c a b=>(AZ w4 ⟨bw,i,H⟩ k u a).trans (h.2 k c a b)⟩
def FrK.gr(h:FrK bw bm w w4)(b:w4.grownBy w5 (Z bm)):FrK bw bm w w5:=⟨AU h.1 b.size,fun k c d a=>(b.block k (AL c h.1) (fun e=>a (Bc e))).trans (h.2 k c d a)⟩
def FrK.wr(h:FrK bw bm w w4){g:Nat}(a:Wrote w4 w5 g)(f:w.heap.size<=g):FrK bw bm w w5:=⟨by rw[a.2.2.2.1];exact h.1,fun k d b c=>(a.2.2.2.2 k Aa).trans (h.2 k d b c)⟩
def FrK.trans(h:FrK bw bm w w4)(k:FrK bw bm w4 w5):FrK bw bm w w5:=⟨AU h.1 k.1,fun j c a b=>(k.2 j (AL c h.1) a b).trans (h.2 j c a b)⟩
end
def NxO(W1 w:G)(T:Fa)(fo:Bool)(bf bw bm:Nat)(R:gD)(μ n:Nat)(e:Ending)(w':G):Prop:=
 FrK bw bm w w'/\o W1.heap.size W1 w'/\((e=Av (rB R)/\(R.2≠0\/R.1.2.1.size≠0))\/
  (e=Av (rB (M0 0))/\∃ a f l K b,WkS W1 T fo bf bw bm a f l K b w'/\IE T fo a f l=R/\(5-f)*21+l.length<μ/\b<=n+2))
def kQ{T:Fa}{m:Nat}(b:OkU T m):KnO T (Jj (fun _ _=>H) 1 ddS 1):=
 Yh (a:=1) ⟨fun a s n e=>(by cases e),fun a n e=>(by cases e),fun a n e=>(by cases e)⟩ (fun h=>absurd rfl h) (fun _=>by rw[show((1:Nat):Int)=1 from rfl,m_ b];rfl) fun _=>rfl
def Yx{r:G}{T:Fa}{fo:Bool}{y g f m:Nat}{l:List ByteArray}(HF:FsW r y T)(hT:OkT T)(hU:OkU T m){w:G}(hb:o r.heap.size r w)(B:r.heap.size<=g/\r.heap.size<=f){v:AA}
 (F:w.heap[g]? =Z (U #[C (Z ⟨y,0,H⟩),AY fo,J Y 1,v,.map (Z f),J Y 0] 82 (0,0))) (h2:TSt w v l) (hm:MpK w f (fun _ _=>H) 0) (hl:l.length<=20) (hn:∀ s∈l,s.size≠0/\s.size<=13):
 AH I 60 #[C (Z ⟨g,0,H⟩)] w fun e w'=>e=Av (J Y 0)/\(∃ K,WkS r T fo y g f 1 0 l K 1 w')/\FrK g f w w':=by
 obtain⟨x,hx,hk⟩:=hT.root;have X:Hid (AH I 13 #[C (Z ⟨y,0,H⟩),J Y 1] w fun e w'=>∃ L M N O P Q R S i j n p,e=Av (AT #[BS #[J Y 2,J Y L,J Y x.sz,J Y M,J Y N,J Y O,J Y P,J Y Q,J Y R,J Y S,J Y i,J Y j,J Y n,J Y p],J Y 0])/\o w.heap.size w w'):=wN (by
  have:=HF.get w hb 1 x hx;rw[hk] at this;exact this)
 have c0:w.cell? ⟨g,0,H⟩=Z (C (Z ⟨y,0,H⟩)):=by rw[AD _ _ _ _ _ _ F];rfl
 have a2:=(Au.1 F).1;obtain⟨ao,a0,rfl,_⟩:=id h2.1;have H1:=wN F;have H2:=wN h2;have u:=wN hm;have V:=wN hb;obtain⟨z,hz⟩:=nm x.sz;rw[<- hz] at X;clear F h2 hm hb hz;go_enter func60,ntmps60
 go_upto_region 6 with(first|(go_at_call 13;(with_reducible refine X.out.mono ?_);rintro e w2 ⟨L,M,N,O,P,Q,R,S,i,j,n,p,rfl,q⟩))
 have h:o w.heap.size w (w2.alloc (U #[J Y 2,J Y L,J Y z,J Y M,J Y N,J Y O,J Y P,J Y Q,J Y R,J Y S,J Y i,J Y j,J Y n,J Y p] 44)):=q.alloc q.size _;generalize w2.alloc (U #[J Y 2,J Y L,J Y z,J Y M,J Y N,J Y O,J Y P,J Y Q,J Y R,J Y S,J Y i,J Y j,J Y n,J Y p] 44)=w3 at h |-
 have k1:=(h.block g a2).trans H1.out;have c4:w3.cell? ⟨g,4,H⟩=Z (.map (Z f)):=by rw[AD _ _ _ _ _ _ k1];rfl
 obtain⟨w4,C6,lG,A,a4⟩:=(u.out.keep (h.block f u.out.lt)).store (d:=1) (s:=ddS) (v:=1) Af Af Af Af;have C6:(Instr.mapUpdate 80 (.map (Z f)) (BS #[J Y 1,.string ⟨#[46,46]⟩]) (J Y 1)).run I w3=.ok () w4:=C6;have W:=wN lG;have c:=wN A;have t:=wN k1;have a:=wN h;clear lG A a4 k1 h q X;go_wp2;go_ret;have h3:TSt w3 (E ao l.length a0) l:=H2.out.below a.out;have a3:g≠f:=fun e=>by
  obtain⟨D,⟨es,a1,hb,_⟩,_⟩:=u.out;rw[<- e,H1.out] at hb;cases hb
 refine⟨rfl,⟨_,⟨⟨_,(c.out.block g (Au.1 t.out).1 (fun e=>a3 (Bc e))).trans t.out,h3.keep c.out.size fun b cs z hs=>c.out.block b (Au.1 hs).1 fun e=>?_⟩,W.out,B,(V.out.trans (a.out.mono V.out.size)).grown c.out (AU V.out.size a.out.size) (fun k e=>by cases e;exact B.2),⟨x,hx,hk⟩,Af,hl,hn,kQ hU,rfl,rfl⟩⟩,((FrK.refl g f w).low a.out).gr c.out⟩;exact(u.out.keep (a.out.block f u.out.lt)).not_cells hs (Bc e).symm
def C2:(I.info? 35).map (·.size)=Z 3:=Ac
def NW{l:G}{T:Fa}{fo:Bool}{o b p a f n:Nat}{r:List ByteArray}{K:Int->ByteArray->Option Int}{w:G}(h:WkS l T fo o b p a f r K n w)(s:ByteArray)(u kd:Nat)(x:s.size≠0)(μ:Nat)(k:r=[]\/kd≠2):
 AH I 105 #[C (Z ⟨b,0,H⟩),.string s,J Y u,J Y kd] w (NxO l w T fo o b p (if r=[] then (((a:Int),s,(u:Int)),0) else M0 6) μ n):=by
 obtain⟨m,d,i,_⟩:=h.cells;have v:=h.lt.1;have z:w.cell? ⟨b,2,H⟩=Z (J Y a):=by rw[AD _ _ _ _ _ _ i];rfl
 have j:w.cell? ⟨b,3,H⟩=Z (E m r.length d):=by rw[AD _ _ _ _ _ _ i];rfl
 have g:=wN h.be;by_cases c:r=[]
 . rw[AG c]
   subst c;have j:w.cell? ⟨b,3,H⟩=Z (E m 0 d):=j;clear h i k;go_enter func105,ntmps105;go_wp2;exact A9 (BH rfl underlying35 C2 _ _ w.heap.size _ _ _ _ _ rfl (AC w _) rfl) rfl ⟨(FrK.refl _ _ _).low (AF w _),g.out.trans ((AF w _).mono g.out.size),A4 ⟨rfl,A8 x⟩⟩
 . rw[AJ c]
   have A:((kd:Int) != 2)=AQ:=by rw[bne_iff_ne];rcases k with e|e;exact absurd e c;omega
   obtain⟨q,t⟩:=nm r.length;have y:((q:Int)==0)=M:=by rw[beq_eq_false_iff_ne];have:r.length≠0:=fun e=>c (A3 e);omega
   rw[<- t] at j;clear h i k t c;go_enter func105,ntmps105;go_wp2;exact A9 (BH rfl underlying35 C2 _ _ w.heap.size _ _ _ _ _ rfl (AC w _) rfl) rfl ⟨(FrK.refl _ _ _).low (AF w _),g.out.trans ((AF w _).mono g.out.size),A4 ⟨rfl,A4 (by show(6:Int)≠0;decide)⟩⟩
def Zj{X:G}{T:Fa}{fo:Bool}{bf b g a f n m:Nat}{r:List ByteArray}{K:Int->ByteArray->Option Int}{w:G}(h:WkS X T fo bf b g a f r K n w)(hT:OkT T)(hU:OkU T m){s:ByteArray}{c:Nat}{x y:Nd}(A:T a=Z x)(hi:DM x.L s<x.L.length)(he:(x.L.getD (DM x.L s) default).1=(c:Int))(hy:T c=Z y)(hk:y.kd=2)
 (hs:s.size<=13) (hd:s≠ddS) (hr:r≠[]) (hn:n<=1000) {μ:Nat} (hμ:(5-f)*21+r.length<μ):
 AH I 105 #[C (Z ⟨b,0,H⟩),.string s,J Y c,J Y 2] w (NxO X w T fo bf b g (IE T fo c f r) μ n):=by
 obtain⟨x',S,JH⟩:=h.dir;rw[A] at S;cases S
 have L0:(2:Int)<=c:=by
  have:=(hU.up a x A _ (by rw[F7 _ hi];exact Br _:x.L.getD (DM x.L s) default∈x.L)).2;rw[he] at this;exact this
 have a8:=(hT.hi a x A).2;have gy:=(hT.hi c y hy).2;have Q:=tN hT hU A JH hi he;obtain⟨q,hq⟩:=nm r.length;have ZM:((q:Int)==0)=M:=by rw[beq_eq_false_iff_ne];have:r.length≠0:=fun e=>hr (A3 e);omega
 have i:=AF w (U #[J Y 0,.string ⟨#[]⟩,J Y 0] 35);have V:=AC w (U #[J Y 0,.string ⟨#[]⟩,J Y 0] 35);obtain⟨l,u⟩:=nm (w.alloc (U #[J Y 0,.string ⟨#[]⟩,J Y 0] 35));rw[<- u] at i V;have a2:Hid (w.alloc (U #[J Y 0,.string ⟨#[]⟩,J Y 0] 35)=l):=wN u.symm;have W:=h.low i;have p:WkS X T fo bf b g a f r K n l.drew:=W.low (Bd (AP _ l) 1);obtain⟨o,qG,N,j,Oq⟩:=p.mp.store (d:=(a:Int)) (s:=s) (v:=(c:Int)) (Ls Aa) Aa (Ls Aa) Aa;have qG:(Instr.mapUpdate 80 (.map (Z g)) (BS #[J Y a,.string s]) (J Y c)).run I l.drew=.ok () o:=qG;have D:=p.know N j (Yh W.kn (fun _=>⟨x,y,c,rfl,A,JH,hi,he,hy,hk⟩) (fun e=>absurd e hd) (fun e=>absurd e hd));have t:WkS X T fo bf b g a f r (Jj K a s c) (n+1) o.drew:=D.low (Bd (AP _ o) 1);obtain⟨z,qH,qf,k,a5⟩:=t.mp.store (d:=(c:Int)) (s:=ddS) (v:=(a:Int)) (Ls Aa) Af (Ls Aa) Aa;have qH:(Instr.mapUpdate 80 (.map (Z g)) (BS #[J Y c,.string ⟨#[46,46]⟩]) (J Y a)).run I o.drew=.ok () z:=qH;have S3:=t.know qf k (Yh D.kn (fun e=>absurd rfl e) (fun _=>by rw[Q]) (fun _=>by
  have:=D.up;show(Jj (Jj K a s c) c ddS a (a:Int) ddS).isSome=AQ
  unfold Jj;split
  . rfl
  . exact this))
 have S4:=S3.setA (a':=c) ⟨y,hy,hk⟩ (by unfold Jj;rw[AG ⟨rfl,rfl⟩];rfl);obtain⟨ao,a4,r1,_⟩:=W.cells;obtain⟨b0,a6,r2,_⟩:=D.cells;obtain⟨b1,a7,r3,_⟩:=S3.cells;have b2:l.cell? ⟨b,2,H⟩=Z (J Y a):=by rw[AD _ _ _ _ _ _ r1];rfl
 have a3:l.cell? ⟨b,3,H⟩=Z (E ao r.length a4):=by rw[AD _ _ _ _ _ _ r1];rfl
 have b3:l.cell? ⟨b,4,H⟩=Z (.map (Z g)):=by rw[AD _ _ _ _ _ _ r1];rfl
 have b4:o.cell? ⟨b,2,H⟩=Z (J Y a):=by rw[AD _ _ _ _ _ _ r2];rfl
 have b5:o.cell? ⟨b,4,H⟩=Z (.map (Z g)):=by rw[AD _ _ _ _ _ _ r2];rfl
 have b6:z.cell? ⟨b,2,H⟩=Z (J Y a):=by rw[AD _ _ _ _ _ _ r3];rfl
 have b7:z.frozen? ⟨b,2,H⟩=M:=by simp[G.frozen?,r3]
 rw[<- hq] at a3;have a9:((c:Int) != 1)=AQ:=by rw[bne_iff_ne];omega
 have mg:o.heap[w.heap.size]? =Z (U #[J Y 0,.string ⟨#[]⟩,J Y 0] 35 (0,0)):=(j.block _ (Au.1 V).1 (fun e=>by have:=h.lt.2;have:=Bc e;omega)).trans V;have O:z.heap[w.heap.size]? =Z (U #[J Y 0,.string ⟨#[]⟩,J Y 0] 35 (0,0)):=(k.block _ (Au.1 mg).1 (fun e=>by have:=h.lt.2;have:=Bc e;omega)).trans mg;have P:(z.setCell ⟨b,2,H⟩ (J Y c)).heap[w.heap.size]? =Z (U #[J Y 0,.string ⟨#[]⟩,J Y 0] 35 (0,0)):=(AZ z ⟨b,2,H⟩ _ _ (by show w.heap.size≠b;have:=h.lt.1;omega)).trans O;have a1:=wN S4;have a0:Hid (FrK b g w (z.setCell ⟨b,2,H⟩ (J Y c))):=wN ((((((FrK.refl b g w).low i).low (Bd (AP _ l) 1)).gr j).low (Bd (AP _ o) 1)).gr k |>.set 2 _);have F:=h.be.size;have gz:=h.lt.1;have B:=wN P;have HM:=wN hμ;clear h hT hU A hi he hy Q hr hq i V u W p N j Oq D t qf k a5 S3 S4 r1 r2 r3 mg O P hμ hn hk JH;go_enter func105,ntmps105;go_upto_region 1 with(fail)
 rw[a2.out];go_wp2
 go_region
 go_wp2
 go_region
 have HL:=wN (And.intro F gz);go_wp2_with (with_reducible refine Bw rfl 35 C2 (.tmp 8) (.tmp 53) rfl w.heap.size rfl _ _ _ _ _ _ rfl rfl rfl rfl _ B.out ?_;intro w5 R Du)
 have S5:=a1.out.wrote R B.out Af (Nat.ne_of_gt HL.out.2) HL.out.1;exact A9 (BH rfl underlying35 C2 _ _ w.heap.size _ _ _ _ _ rfl Du rfl) rfl ⟨a0.out.wr R (AE _),S5.be,A8 ⟨rfl,_,_,_,_,_,S5,rfl,HM.out,AE _⟩⟩
def US{s:ByteArray}(h:OkP s):∀ p∈BX s,p.size≠0/\p.size<=13:=fun p a=>⟨by
 rw[Kt] at a;have:=(List.mem_filter.1 a).2;exact Ba this,h.ln p a⟩
def wA(W1 w:G)(T:Fa)(fo:Bool)(bf bw bm:Nat)(R:gD)(μ n:Nat)(e:Ending)(w':G):Prop:=
 FrK bw bm w w'/\o W1.heap.size W1 w'/\((∃ b:Int,b≠0/\e=Av (J Y b)/\R=M0 b)\/
  (e=Av (J Y 0)/\∃ a f l K,WkS W1 T fo bf bw bm a f l K n w'/\IE T fo a f l=R/\(5-f)*21+l.length<μ))
section
variable {W1:G}{T:Fa}{fo:Bool}{bf bw bm a f n:Nat}{r:List ByteArray}{K:Int->ByteArray->Option Int}{w:G}
def Q4(h:WkS W1 T fo bf bw bm a 4 r K n w)(g sz:Nat)(R:gD)(f:R=M0 11)(μ:Nat):AH I 148 #[C (Z ⟨bw,0,H⟩),J Y g,J Y sz] w (wA W1 w T fo bf bw bm R μ n):=by
 obtain⟨i,d,b,_⟩:=h.cells;have j:w.cell? ⟨bw,5,H⟩=Z (J Y 4):=by rw[AD _ _ _ _ _ _ b];rfl
 have c:=wN h.be;clear h b;go_enter func148,ntmps148;go_wp2;go_ret;exact⟨FrK.refl _ _ _,c.out,A4 ⟨11,Af,rfl,f⟩⟩
def Wy(h:WkS W1 T fo bf bw bm a f r K n w)(HF:FsW W1 bf T)(hT:OkT T){nn:Nat}{y:Nd}(hy:T nn=Z y)(hk:y.kd=3)(hf:¬ 4<f+1){R:gD}
 (C3:¬ OkP (B7 y.tg)->R=M0 10) (b:OkP (B7 y.tg)->R=if 20<(BX (B7 y.tg) ++ r).length then M0 10 else IE T fo (if (B7 y.tg).data.toList.head? =Z 47 then 1 else a) (f+1) (BX (B7 y.tg) ++ r)) {μ:Nat} (hμ:(5-f)*21<=μ):
 AH I 148 #[C (Z ⟨bw,0,H⟩),J Y nn,J Y y.sz] w (wA W1 w T fo bf bw bm R μ n):=by
 obtain⟨ao,l,h1,h2⟩:=h.cells;have S1:=h.setF (f':=f+1) Aa;have gy:=(hT.hi nn y hy).2;have gC:(B7 y.tg).size≠0:=by
  have h3:=(hT.link nn y hy).2.2.1 hk;rw[strOfNums_size];omega
 obtain⟨S,hS⟩:=nm (B7 y.tg);rw[<- hS] at C3 b gC;have d4:(S.toList==[])=M:=by
  rw[beq_eq_false_iff_ne,Cg];intro e;exact gC (by rw[<- GH,e];rfl)
 have c5:w.cell? ⟨bw,5,H⟩=Z (J Y f):=by rw[AD _ _ _ _ _ _ h1];rfl
 have f5:w.frozen? ⟨bw,5,H⟩=M:=by simp[G.frozen?,h1]
 obtain⟨w1,L⟩:=nm (w.setCell ⟨bw,5,H⟩ (J Y ((f+1:Nat):Int)));rw[<- L] at S1;have a1:Hid (w.setCell ⟨bw,5,H⟩ (J Y ((f:Int)+1))=w1):=wN (by rw[L];rfl);obtain⟨j,d,r1,t1⟩:=S1.cells;have d1:w1.cell? ⟨bw,0,H⟩=Z (C (Z ⟨bf,0,H⟩)):=by rw[AD _ _ _ _ _ _ r1];rfl
 have KR:=wN (HF.read w1 S1.be nn y hy hk);have KC:Hid (∀ W v,BSl W v y.tg->(convert 77 9 v).run I W=.ok (.string S) W):=wN fun W v hv=>by rw[hS];exact Hw hv
 have KS:=wN (fun W=>RZ S W);have KP:=wN (fun W=>av S W);obtain⟨z,hz⟩:=nm y.sz;obtain⟨tg,tB⟩:=nm y.tg;rw[<- hz,<- tB] at KR;rw[<- tB] at KC;rw[<- hz];have p:=wN S1;have a0:Hid (FrK bw bm w w1):=wN (by rw[L];exact(FrK.refl bw bm w).set 5 _);obtain⟨q,hq⟩:=nm r.length;have HQ:=wN hq;rw[<- hq] at r1 t1;have P:=wN r1;have b6:=wN t1;have d5:((f:Int)==4)=M:=by rw[beq_eq_false_iff_ne];omega
 have d6:(f:Int)<=3:=Aa;have c9:(q:Int)<=20:=by have:=h.len;omega
 have d0:=wN hT;have N:=S1.lt.1;have c0:=wN h.ne;by_cases ho:OkP S
 . have HO:=wN ho
   have b:=b ho;have a8:Hid (∀ V,AH I 17 #[.string S] V fun e O=>∃ v,e=Av (AT #[v,J Y 0])/\TR O V.heap.size v (BX S)/\o V.heap.size V O):=wN fun V=>(KS.out V).mono fun e O ⟨h1,hb⟩=>by
    rcases h1 with⟨_,v,he,hv⟩| ⟨hn,_⟩
    . exact⟨v,he,hv,hb⟩
    . exact absurd HO.out hn
   obtain⟨pn,mi⟩:=nm ((BX S).length);have c8:(pn:Int)<=20:=(by have:=ho.ct;omega);have c1:=wN mi;have a4:Hid (∀ (W:G) (v:AA) (B:Nat),TR W B v (BX S)->∃ ao l,v=E ao pn l):=wN fun W v B h=>by
    obtain⟨ao,l,e,_⟩:=h.sl;exact⟨ao,l,by rw[e,mi]⟩
   rw[AO,<- mi,<- hq] at b;by_cases X:20<pn+q
   . rw[AG X] at b
     have HR:=wN b;have c7:(20:Int)<(pn:Int)+(q:Int):=Aa;clear h hy hk C3 b gC S1 L KS KP t1 ho mi hq HF hT hz tB hS gy hμ hf X h1 h2 r1;go_enter func148,ntmps148;go_upto_region 4 with(fail)
     rw[a1.out];clear c5 f5
     go_wp2_with (first|(go_at_call 96;(with_reducible refine KR.out.mono ?_);rintro e w2 ⟨v2,rfl,F,k⟩;have WQ:=KC.out _ _ F;have i:=wN k)|(go_at_call 17;(with_reducible refine(a8.out _).mono ?_);rintro e w3 ⟨v3,rfl,Um,D⟩;obtain⟨b7,a3,rfl⟩:=a4.out _ _ _ Um;have c:=wN D;have r3:=(c.out.block bw (by exact AL N i.out.size)).trans ((i.out.block bw N).trans P.out);have b8:w3.cell? ⟨bw,3,H⟩=Z (E j q d):=(by rw[AD _ _ _ _ _ _ r3];rfl)))
     go_ret;exact⟨(a0.out.low i.out).low c.out,p.out.be.trans ((i.out.mono p.out.be.size).trans (c.out.mono (AU p.out.be.size i.out.size))),A4 ⟨10,Af,rfl,HR.out⟩⟩
   . rw[AJ X] at b
     have c7:¬ (20:Int)<(pn:Int)+(q:Int):=Aa;have m:Hid ((BX S ++ r).length<=20/\(BX S).length<=100/\r.length<=100):=wN ⟨by rw[AO];omega,Aa,Aa⟩;have b5:Hid (∀ s∈BX S ++ r,s.size≠0/\s.size<=13):=wN fun s hs=>by
      rcases BU.1 hs with hs|hs
      . exact US HO.out s hs
      . exact c0.out s hs
     have b4:Hid ((5-(f+1))*21+(BX S ++ r).length<μ):=wN (by have:=m.out.1;omega);have b2:Hid (∀ (W:G) (vA:AA) (B:Nat),TR W B vA (BX S)->TSl W (E j q d) r->AH I 182 #[E (Z ⟨W.heap.size,0,H⟩) 2 2] (W.alloc (U #[vA,E j q d] 23)) fun e O=>∃ ao l,e=Av (E ao (pn+q) l)/\TR O (W.heap.size+1) (E ao (pn+q) l) (BX S ++ r)/\o W.heap.size W O):=wN fun W vA B hA hB=>by
      have hb:=AF W (U #[vA,E j q d] 23);have hn:=AC W (U #[vA,E j q d] 23);refine(TF (g:=W.heap.size) (vA:=vA) (vB:=E j q d) (A:=BX S) (B:=r) (by rw[AD _ _ _ _ _ _ hn];rfl) (by rw[AD _ _ _ _ _ _ hn];rfl) (hA.sl.below hb) (hB.below hb) m.out.2.1 m.out.2.2).mono ?_;rintro e O ⟨v,he,hv,k⟩;obtain⟨ao,l,e2,_⟩:=hv.sl;rw[AO,<- c1.out,<- HQ.out] at e2;subst e2;rw[G.size_alloc] at hv k;exact⟨ao,l,he,hv,hb.trans (k.mono Aa)⟩
     have b3:Hid (∃ x,T 1=Z x/\x.kd=2):=wN hT.root;have a2:∀ (B:Bool),B=decide (S.data.toList.head? =Z 47)->Hid (∀ V,AH I 16 #[.string S,.string ⟨#[47]⟩] V fun e O=>e=Av (AY B)/\V=O):=fun B hB=>wN fun V=>by rw[hB];exact KP.out V
     by_cases lQ:S.data.toList.head? =Z 47
     . rw[AG lQ] at b
       have a7:=a2 AQ (by rw[AK lQ]);have HR:=wN b;clear h hy hk C3 b gC S1 L KS KP t1 ho mi hq HF hT hz tB hS gy hμ hf X h1 h2 r1 a2 lQ;go_enter func148,ntmps148;go_upto_region 4 with(fail)
       rw[a1.out];clear c5 f5
       go_wp2_with (first|(go_at_call 96;(with_reducible refine KR.out.mono ?_);rintro e w2 ⟨v2,rfl,F,k⟩;have WQ:=KC.out _ _ F;have i:=wN k)|(go_at_call 17;(with_reducible refine(a8.out _).mono ?_);rintro e w3 ⟨v3,rfl,Um,D⟩;obtain⟨b7,a3,rfl⟩:=a4.out _ _ _ Um;have c:=wN (i.out.trans (D.mono i.out.size));have r3:=(c.out.block bw N).trans P.out;have b8:w3.cell? ⟨bw,3,H⟩=Z (E j q d):=(by rw[AD _ _ _ _ _ _ r3];rfl);have a6:=wN (b2.out _ _ _ Um (b6.out.1.below c.out)))|(go_at_call 182;(refine a6.out.mono ?_);rintro e w5 ⟨a9,Q,rfl,b1,b0⟩;have a5:=wN b1;have t:=wN (c.out.trans (b0.mono c.out.size));have r5:=(t.out.block bw N).trans P.out;have c4:w5.cell? ⟨bw,3,H⟩=Z (E j q d):=(by rw[AD _ _ _ _ _ _ r5];rfl);have c6:w5.frozen? ⟨bw,3,H⟩=M:=(by simp[G.frozen?,r5]);have u:=wN ((p.out.low t.out).setL a5.out.st m.out.1 b5.out);have d2:(w5.setCell ⟨bw,3,H⟩ (E a9 (pn+q) Q)).cell? ⟨bw,2,H⟩=Z (J Y a):=(by obtain⟨c3,b9,r6,_⟩:=u.out.cells;rw[AD _ _ _ _ _ _ r6];rfl);have d3:(w5.setCell ⟨bw,3,H⟩ (E a9 (pn+q) Q)).frozen? ⟨bw,2,H⟩=M:=(by obtain⟨c3,b9,r6,_⟩:=u.out.cells;simp[G.frozen?,r6]))|(go_at_call 16;(with_reducible refine Ad (a7.out _) ?_);rintro w6 rfl))
       go_ret;have S7:=u.out.setA b3.out u.out.up1;exact⟨((a0.out.low t.out).set 3 _).set 2 _,S7.be,A8 ⟨rfl,_,_,_,_,S7,HR.out.symm,b4.out⟩⟩
     . rw[AJ lQ] at b
       have a7:=a2 M (by rw[AM lQ]);have HR:=wN b;clear h hy hk C3 b gC S1 L KS KP t1 ho mi hq HF hT hz tB hS gy hμ hf X h1 h2 r1 a2 lQ;go_enter func148,ntmps148;go_upto_region 4 with(fail)
       rw[a1.out];clear c5 f5
       go_wp2_with (first|(go_at_call 96;(with_reducible refine KR.out.mono ?_);rintro e w2 ⟨v2,rfl,F,k⟩;have WQ:=KC.out _ _ F;have i:=wN k)|(go_at_call 17;(with_reducible refine(a8.out _).mono ?_);rintro e w3 ⟨v3,rfl,Um,D⟩;obtain⟨b7,a3,rfl⟩:=a4.out _ _ _ Um;have c:=wN (i.out.trans (D.mono i.out.size));have r3:=(c.out.block bw N).trans P.out;have b8:w3.cell? ⟨bw,3,H⟩=Z (E j q d):=(by rw[AD _ _ _ _ _ _ r3];rfl);have a6:=wN (b2.out _ _ _ Um (b6.out.1.below c.out)))|(go_at_call 182;(refine a6.out.mono ?_);rintro e w5 ⟨a9,Q,rfl,b1,b0⟩;have a5:=wN b1;have t:=wN (c.out.trans (b0.mono c.out.size));have r5:=(t.out.block bw N).trans P.out;have c4:w5.cell? ⟨bw,3,H⟩=Z (E j q d):=(by rw[AD _ _ _ _ _ _ r5];rfl);have c6:w5.frozen? ⟨bw,3,H⟩=M:=(by simp[G.frozen?,r5]);have u:=wN ((p.out.low t.out).setL a5.out.st m.out.1 b5.out))|(go_at_call 16;(with_reducible refine Ad (a7.out _) ?_);rintro w6 rfl))
       go_ret;exact⟨(a0.out.low t.out).set 3 _,u.out.be,A8 ⟨rfl,_,_,_,_,u.out,HR.out.symm,b4.out⟩⟩
 . have HR:=wN (C3 ho)
   have c2:Hid (∀ V,AH I 17 #[.string S] V fun e O=>e=Av (AT #[E H 0 0,J Y 10])/\o V.heap.size V O):=wN fun V=>(KS.out V).mono fun e O ⟨h1,hb⟩=>by
    rcases h1 with⟨hn,_⟩| ⟨_,he⟩
    . exact absurd hn ho
    . exact⟨he,hb⟩
   clear h hy hk C3 b gC S1 L KS KP t1 ho hq HF hT hz tB hS gy hμ hf h1 h2 r1;go_enter func148,ntmps148;go_upto_region 4 with(fail)
   rw[a1.out];clear c5 f5
   go_wp2_with (first|(go_at_call 96;(with_reducible refine KR.out.mono ?_);rintro e w2 ⟨v2,rfl,F,k⟩;have WQ:=KC.out _ _ F;have i:=wN k)|(go_at_call 17;(with_reducible refine Ad (c2.out _) ?_);rintro w3 D;have c:=wN D))
   go_ret;exact⟨(a0.out.low i.out).low c.out,p.out.be.trans ((i.out.mono p.out.be.size).trans (c.out.mono (AU p.out.be.size i.out.size))),A4 ⟨10,Af,rfl,HR.out⟩⟩
end
def NxO.open_{W1 w:G}{T:Fa}{fo:Bool}{bf bw bm:Nat}{R:gD}{μ n:Nat}{e:Ending}{w':G}(h:NxO W1 w T fo bf bw bm R μ n e w'):
 FrK bw bm w w'/\o W1.heap.size W1 w'/\((∃ d c g b,R=((d,c,g),b)/\e=Av (AT #[BS #[J Y d,.string c,J Y g],J Y b])/\(b≠0\/c.size≠0))\/
 (e=Av (AT #[BS #[J Y 0,.string ⟨#[]⟩,J Y 0],J Y 0])/\∃ a f l K j,WkS W1 T fo bf bw bm a f l K j w'/\IE T fo a f l=R/\(5-f)*21+l.length<μ/\j<=n+2)):=by
 obtain⟨p,q,i⟩:=h;refine⟨p,q,?_⟩;rcases i with⟨k,m⟩|i
 . obtain⟨⟨d,c,g⟩,b⟩:=R
   exact A4 ⟨d,c,g,b,rfl,k,m⟩
 . exact A8 i
def On{W1:G}{T:Fa}{fo:Bool}{bf bw bm a f n m:Nat}{r:List ByteArray}{K:Int->ByteArray->Option Int}{w:G}(h:WkS W1 T fo bf bw bm a f r K n w)(i:OkT T)(j:OkU T m){s:ByteArray}{b:Nat}{x y:Nd}(o:T a=Z x)(hi:DM x.L s<x.L.length)(he:(x.L.getD (DM x.L s) default).1=(b:Int))(p:T b=Z y)
 (g:s.size≠0) (l:s.size<=13) (hd:s≠ddS) (k:n<=1000) {μ:Nat} (q:(5-f)*21+r.length<μ):
 AH I 105 #[C (Z ⟨bw,0,H⟩),.string s,J Y b,J Y y.kd] w (NxO W1 w T fo bf bw bm (if r=[] then (((a:Int),s,(b:Int)),0) else if y.kd≠2 then M0 6 else IE T fo b f r) μ n):=by
 by_cases c:r=[]
 . have:=NW h s b y.kd g μ (A4 c)
   rw[AG c] at this |-
   exact this
 . rw[AJ c]
   by_cases d:y.kd=2
   . rw[AJ (fun h=>h d),d]
     exact Zj h i j o hi he p d l hd c k q
   . have:=NW h s b y.kd g μ (A8 d)
     rw[AJ c] at this;rw[AG d];exact this
section
variable {W1:G}{T:Fa}{fo:Bool}{bf bw bm a f n m:Nat}{r:List ByteArray}{K:Int->ByteArray->Option Int}{w:G}{s:ByteArray}{x:Nd}
def Vx(h:WkS W1 T fo bf bw bm a f r K n w)(HF:FsW W1 bf T)(hx:T a=Z x)(hk:x.kd=2){R:gD}{μ:Nat}
 (O:(¬ DM x.L s<x.L.length/\(r=[]->s.size≠0)/\R=if r=[] then (((a:Int),s,0),0) else M0 4)\/∃ nn:Nat,DM x.L s<x.L.length/\(x.L.getD (DM x.L s) default).1=(nn:Int)/\
   ((r=[]/\fo=M/\s.size≠0/\R=(((a:Int),s,(nn:Int)),0))\/((r=[]->fo=AQ)/\∃ y,T nn=Z y/\
     ((y.kd=3/\∀ V,WkS W1 T fo bf bw bm a f r K n V->AH I 148 #[C (Z ⟨bw,0,H⟩),J Y nn,J Y y.sz] V (wA W1 V T fo bf bw bm R μ n))\/
      (y.kd≠3/\∀ V,WkS W1 T fo bf bw bm a f r K n V->AH I 105 #[C (Z ⟨bw,0,H⟩),.string s,J Y nn,J Y y.kd] V (NxO W1 V T fo bf bw bm R μ n)))))):
 AH I 106 #[C (Z ⟨bw,0,H⟩),.string s] w (NxO W1 w T fo bf bw bm R μ n):=by
 obtain⟨q,hq⟩:=nm r.length;have B:=AF w (U #[J Y 0,.string ⟨#[]⟩,J Y 0] 35);have Iz:=AC w (U #[J Y 0,.string ⟨#[]⟩,J Y 0] 35);obtain⟨p,a1⟩:=nm (w.alloc (U #[J Y 0,.string ⟨#[]⟩,J Y 0] 35));rw[<- a1] at B Iz;have b5:Hid (w.alloc (U #[J Y 0,.string ⟨#[]⟩,J Y 0] 35)=p):=wN a1.symm;have S1:=h.low B;have W:WkS W1 T fo bf bw bm a f r K n p.drew:=S1.low (Bd (AP _ p) 1);have b4:=wN W;have b1:Hid (FrK bw bm w p.drew):=wN (((FrK.refl bw bm w).low B).low (Bd (AP _ p) 1));have m:=HF.find p.drew W.be a x hx hk s;obtain⟨fi,D⟩:=nm (Wq x.L s);obtain⟨fe,F⟩:=nm (Wr x.L s);rw[<- D,<- F] at m;have b6:=wN m;have a2:Hid (p.drew.heap[w.heap.size]? =Z (U #[J Y 0,.string ⟨#[]⟩,J Y 0] 35 (0,0))):=wN Iz;obtain⟨ao,a6,r1,_⟩:=S1.cells;rw[<- hq] at r1;have v:Hid (p.drew.heap[bw]? =Z (U #[C (Z ⟨bf,0,H⟩),AY fo,J Y a,E ao q a6,.map (Z bm),J Y f] 82 (0,0))):=wN r1;have c4:p.cell? ⟨bw,3,H⟩=Z (E ao q a6):=by rw[AD _ _ _ _ _ _ r1];rfl
 have d0:p.drew.cell? ⟨bw,0,H⟩=Z (C (Z ⟨bf,0,H⟩)):=by rw[AD _ _ _ _ _ _ v.out];rfl
 have d2:p.drew.cell? ⟨bw,2,H⟩=Z (J Y a):=by rw[AD _ _ _ _ _ _ v.out];rfl
 have k:=wN h.lt;have j:=wN h.be.size;have HC:=wN O;have HQ:=wN hq;have b0:=wN D;have a9:=wN F;have b2:=wN HF;clear h HF hx hk B Iz a1 S1 W m r1 O hq D F;go_enter func106,ntmps106;go_upto_region 1 with(fail)
 rw[b5.out];go_wp2
 go_region_held3 (fun V=>V.cell? ⟨bw,0,H⟩=Z (C (Z ⟨bf,0,H⟩))/\V.cell? ⟨bw,2,H⟩=Z (J Y a)) (first|exact⟨d0,d2⟩|exact s9) (first|(go_at_call 147;(with_reducible refine Ad b6.out ?_);rintro w2 c;have c3:=wN c;have l:=wN ((c.block _ (Au.1 a2.out).1).trans a2.out);have r2:=(c.block bw (Au.1 v.out).1).trans v.out;have A:=wN (b4.out.low c);have g:=wN (b1.out.low c);have e0:w2.cell? ⟨bw,0,H⟩=Z (C (Z ⟨bf,0,H⟩)):=(by rw[AD _ _ _ _ _ _ r2];rfl);have e1:w2.cell? ⟨bw,1,H⟩=Z (AY fo):=(by rw[AD _ _ _ _ _ _ r2];rfl);have e2:w2.cell? ⟨bw,2,H⟩=Z (J Y a):=(by rw[AD _ _ _ _ _ _ r2];rfl);have s9:=And.intro e0 e2;clear r2 c))
 have D:=b0.out;have F:=a9.out;unfold Wq at D;unfold Wr at F;have hq:=HQ.out;have HZ:Hid (r=[]->q=0):=wN fun h=>by rw[hq,h];rfl
 have HN:Hid (r≠[]->q≠0):=wN fun h e=>h (A3 Aa)
 clear HQ hq;rcases HC.out with⟨hi,LZ,rfl⟩| ⟨nn,hi,he,O⟩
 . rw[AJ hi] at D F
   subst D;subst F;clear hi HC;have b3:=wN LZ;clear LZ;by_cases d:r=[]
   case' pos=>obtain rfl:=HZ.out d
   case' neg=>have ZM:((q:Int)==0)=M:=by rw[beq_eq_false_iff_ne];have:=HN.out d;omega
   case' pos=>rw[AG d]
   case' neg=>rw[AJ d]
   all_goals
    clear HZ HN;go_wp2_with (first|(with_reducible refine Bw rfl 35 C2 (.tmp 4) (.tmp 39) rfl w.heap.size rfl _ _ _ _ _ _ rfl rfl rfl rfl _ l.out ?_;intro w5 b G)|(with_reducible refine Bw rfl 35 C2 (.tmp 4) (.tmp 42) rfl w.heap.size rfl _ _ _ _ _ _ rfl rfl rfl rfl _ l.out ?_;intro w5 b G))
    exact A9 (BH rfl underlying35 C2 _ _ w.heap.size _ _ _ _ _ rfl G rfl) rfl ⟨g.out.wr b (AE _),A.out.be.trans (b.below j.out),A4 ⟨rfl,by first|exact A8 (b3.out d)|exact A4 (by show(4:Int)≠0;decide)⟩⟩
 . rw[AG hi,he] at D
   rw[AG hi] at F;subst D;subst F;clear hi he HC;rcases O with⟨d,rfl,LZ,rfl⟩| ⟨Rm,y,hy,O⟩
   . obtain rfl:=HZ.out d
     clear HZ HN;go_wp2_with (with_reducible refine Bw rfl 35 C2 (.tmp 4) (.tmp 58) rfl w.heap.size rfl _ _ _ _ _ _ rfl rfl rfl rfl _ l.out ?_;intro w5 b G)
     exact A9 (BH rfl underlying35 C2 _ _ w.heap.size _ _ _ _ _ rfl G rfl) rfl ⟨g.out.wr b (AE _),A.out.be.trans (b.below j.out),A4 ⟨rfl,A8 LZ⟩⟩
   . have a5:=wN (fun V hV=>b2.out.get V hV nn y hy)
     obtain⟨z,hz⟩:=nm y.sz;obtain⟨kd,O6⟩:∃ kd:Int,kd=(y.kd:Int):=⟨_,rfl⟩;rw[<- hz,<- O6] at a5 O;have a3:=wN O;have Q:=wN O6;clear O hz O6 hy;by_cases d:r=[]
     case' pos=>
      obtain rfl:=Rm d;obtain rfl:=HZ.out d
     case' neg=>have ZM:((q:Int)==0)=M:=by rw[beq_eq_false_iff_ne];have:=HN.out d;omega
     all_goals
      clear Rm HZ HN d;rcases a3.out with⟨a8,S⟩| ⟨a8,S⟩
      case' inl=>have b7:(kd==3)=AQ:=by rw[Q.out,a8];rfl
      case' inr=>have b7:(kd==3)=M:=by rw[beq_eq_false_iff_ne,Q.out];omega
      all_goals
       have KI:=wN S;clear S a3 Q
       go_wp2_with (first|(go_at_call 13;(with_reducible refine(a5.out _ A.out.be).mono ?_);rintro e w3 ⟨x1,x3,x4,x5,x6,x7,x8,x9,b9,c0,c1,c2,rfl,a7⟩;have P:=wN (a7.alloc a7.size (U #[J Y kd,J Y x1,J Y z,J Y x3,J Y x4,J Y x5,J Y x6,J Y x7,J Y x8,J Y x9,J Y b9,J Y c0,J Y c1,J Y c2] 44));have a4:=wN (A.out.low P.out);have N:=wN (g.out.low P.out);have t:=wN ((P.out.block _ (Au.1 l.out).1).trans l.out))|(go_at_call 148;(refine(KI.out _ a4.out).mono ?_);rintro e w5 ⟨o,X,(⟨er,a0,rfl,hR⟩| ⟨rfl,a',f',l',K',hS,hw,pz⟩)⟩ <;> (have u:=wN ((o.2 w.heap.size (Au.1 t.out).1 (Nat.ne_of_gt k.out.1) (Nat.ne_of_gt k.out.2)).trans t.out);have i:=wN (N.out.trans o)))|(go_at_call 105;(refine(KI.out _ a4.out).mono ?_);rintro e w5 h5;obtain⟨o,X,(⟨p1,p2,p3,er,hR,rfl,a0⟩| ⟨rfl,a',f',l',K',n',hS,hw,pz,b8⟩)⟩:=h5.open_ <;> (have u:=wN ((o.2 w.heap.size (Au.1 t.out).1 (Nat.ne_of_gt k.out.1) (Nat.ne_of_gt k.out.2)).trans t.out);have i:=wN (N.out.trans o)))|(with_reducible refine Bw rfl 35 C2 (.tmp 4) (.tmp 75) rfl w.heap.size rfl _ _ _ _ _ _ rfl rfl rfl rfl _ u.out ?_;intro w5 b G)|(with_reducible refine Bw rfl 35 C2 (.tmp 4) (.tmp 87) rfl w.heap.size rfl _ _ _ _ _ _ rfl rfl rfl rfl _ u.out ?_;intro w5 b G))
       all_goals first
        |(subst hR;exact A9 (BH rfl underlying35 C2 _ _ w.heap.size _ _ _ _ _ rfl G rfl) rfl ⟨i.out.wr b (AE _),X.trans (b.below j.out),A4 ⟨rfl,by first|exact a0|exact A4 a0⟩⟩)
        |exact A9 (BH rfl underlying35 C2 _ _ w.heap.size _ _ _ _ _ rfl G rfl) rfl ⟨i.out.wr b (AE _),X.trans (b.below j.out),A8 ⟨rfl,a',f',l',K',_,hS.wrote b u.out Af (Nat.ne_of_gt k.out.1) j.out,hw,pz,by first|exact b8|omega⟩⟩
end
def Vp(W:G)(b off m cap:Nat):(Instr.slice 23 (E (Z ⟨b,off,H⟩) (m+1) cap) (Z (J Y 1)) H H).run I W=.ok (.slice (if cap=1 then Z ⟨b,off,H⟩ else Z ⟨b,off+1,H⟩) m (cap-1)) W:=by
 obtain⟨t,a,g,c,i⟩:=Bs Im;have he:I.elem 23=9:=Ac;have d:I.underlying 23=Z (.slice (I.elem 23)):=by rw[he];exact underlying23
 rw[run_slice_l W 23 _ _ _ d Y 1 Af Aa,he];have f:(sizeOf 9).run I W=.ok 1 W:=by simp[sizeOf,typeInfo,a,c]
 rw[f];simp only[Result.andThen,sliced];by_cases h:cap=1
 . rw[AG h,AG (by rw[h];rfl)];rfl
 . rw[AJ h,AJ (by intro e;exact h (by simpa using e))]
   rfl
section
variable {W1:G}{T:Fa}{fo:Bool}{bf bw bm a f n m:Nat}{r:List ByteArray}{K:Int->ByteArray->Option Int}{w:G}{s:ByteArray}
def ep(h:WkS W1 T fo bf bw bm a f r K n w)(v:FsW W1 bf T)(q:OkT T)(J:OkU T m)(i:(s.toList==[46])=M)(d:(s.toList==[46,46])=M)(p:s.size≠0)(P:s.size<=13)(O:n<=1000){μ:Nat}(Q:(5-f)*21+r.length<μ):
 AH I 106 #[C (Z ⟨bw,0,H⟩),.string s] w (NxO W1 w T fo bf bw bm (IE T fo a f (s :: r)) μ n):=by
 obtain⟨x,j,N⟩:=h.dir;refine Vx h v j N ?_;by_cases g:DM x.L s<x.L.length
 . obtain⟨B,y,he,k⟩:=q.ent a x j _ (by rw[F7 _ g];exact Br _:x.L.getD (DM x.L s) default∈x.L)
   have c:=TL (fo:=fo) (f:=f) (r:=r) i d j g he k;refine A8 ⟨B,g,he,?_⟩;by_cases b:y.kd=3/\(r≠[]\/fo=AQ)
   . refine A8 ⟨fun l=>b.2.resolve_left fun h=>h l,y,k,A4 ⟨b.1,fun V o=>?_⟩⟩
     have z:=c.1 b;by_cases u:4<f+1
     . obtain rfl:f=4:=by have:=h.f4;omega
       exact Q4 o B y.sz _ (z.1 u) μ
     . obtain⟨F,G⟩:=z.2 u
       exact Wy o v q k b.1 u F G Aa
   . rw[c.2 b]
     by_cases t:r=[]->fo=AQ
     . exact A8 ⟨t,y,k,A8 ⟨fun E=>b ⟨E,by by_cases l:r=[];exact A8 (t l);exact A4 l⟩,fun V o=>On o q J j g he k p P (Xo d) O Q⟩⟩
     . obtain⟨A,D⟩:=Classical.not_imp.1 t
       exact A4 ⟨A,by simpa using D,p,by rw[AG A]⟩
 . exact A4 ⟨g,fun _=>p,SP i d j g⟩
end
section
variable {W1:G}{T:Fa}{fo:Bool}{bf bw bm a f n m:Nat}{r:List ByteArray}{K:Int->ByteArray->Option Int}{w:G}{s:ByteArray}
def fh(h:WkS W1 T fo bf bw bm a f (s :: r) K n w)(HF:FsW W1 bf T)(hT:OkT T)(hU:OkU T m)(hn:n<=1000){μ:Nat}(hμ:(5-f)*21+r.length<μ):
 AH I 61 #[C (Z ⟨bw,0,H⟩)] w (NxO W1 w T fo bf bw bm (IE T fo a f (s :: r)) μ n):=by
 obtain⟨R,a4⟩:=nm (IE T fo a f (s :: r));rw[<- a4];have P:=wN a4;clear a4;have V:=AF w (U #[J Y 0,.string ⟨#[]⟩,J Y 0] 35);have Iz:=AC w (U #[J Y 0,.string ⟨#[]⟩,J Y 0] 35);obtain⟨w1,a8⟩:=nm (w.alloc (U #[J Y 0,.string ⟨#[]⟩,J Y 0] 35));rw[<- a8] at V Iz;have b7:Hid (w.alloc (U #[J Y 0,.string ⟨#[]⟩,J Y 0] 35)=w1):=wN a8.symm;have S1:=h.low V;obtain⟨ao,z,r1,t1⟩:=S1.cells;obtain⟨q,hq⟩:=nm r.length;rw[BJ,<- hq] at r1 t1;have ht:∃ b o,ao=Z ⟨b,o,H⟩/\w1.cell? ⟨b,o,H⟩=Z (.string s):=by
  obtain⟨c6,c4,c2,_,hc⟩:=t1.1;obtain⟨b,o,e,_,hj⟩:=hc Ai;exact⟨b,o,by rw[<- e];exact(Be c2).1,hj 0 Ai⟩
 obtain⟨b,o,rfl,c0⟩:=ht;have tt:=t1.tail Ai;have c1:=fun W=>Vp W b o q z
 obtain⟨a3,vY⟩:=nm ((if z=1 then Z (⟨b,o,H⟩:Addr) else Z ⟨b,o+1,H⟩));rw[<- vY] at c1 tt;have tt:TSt w1 (E a3 q (z-1)) r:=tt;have S2:=S1.setL tt (by have:=h.len;rw[BJ] at this;omega) fun s' b9=>h.ne s' (B9 _ b9)
 obtain⟨j,L⟩:=nm (w1.setCell ⟨bw,3,H⟩ (E a3 q (z-1)));rw[<- L] at S2;have b8:Hid (w1.setCell ⟨bw,3,H⟩ (E a3 q (z-1))=j):=wN L.symm;have l:=wN h.lt;have g:=wN h.be.size;have v:Hid (j.heap[w.heap.size]? =Z (U #[J Y 0,.string ⟨#[]⟩,J Y 0] 35 (0,0))):=wN (by rw[L];exact(AZ w1 ⟨bw,3,H⟩ _ _ (by show w.heap.size≠bw;have:=h.lt.1;omega)).trans Iz);have a2:Hid (FrK bw bm w j):=wN (by rw[L];exact((FrK.refl bw bm w).low V).set 3 _);have b3:=wN S2;have S:WkS W1 T fo bf bw bm a f r K n j.drew:=S2.low (Bd (AP _ j) 1);have c3:=wN S;have a0:Hid (FrK bw bm w j.drew):=wN (a2.out.low (Bd (AP _ j) 1));obtain⟨c7,c5,r4,_⟩:=S.cells;have c8:w1.cell? ⟨bw,3,H⟩=Z (E (Z ⟨b,o,H⟩) (q+1) z):=by rw[AD _ _ _ _ _ _ r1];rfl
 have c9:w1.frozen? ⟨bw,3,H⟩=M:=by simp[G.frozen?,r1]
 have e2:j.cell? ⟨bw,2,H⟩=Z (J Y a):=by show j.drew.cell? _=_;rw[AD _ _ _ _ _ _ r4];rfl
 have e4:j.cell? ⟨bw,4,H⟩=Z (.map (Z bm)):=by show j.drew.cell? _=_;rw[AD _ _ _ _ _ _ r4];rfl
 have d0:j.frozen? ⟨bw,2,H⟩=M:=by
  have:j.drew.frozen? ⟨bw,2,H⟩=M:=by simp[G.frozen?,r4]
  exact this
 have sr:(0:Int)<(q:Int)+1:=Aa;have HH:=wN h;have HX:=wN S;have HZ:=wN S2;have b6:=wN HF;have O:=wN hT;have b0:=wN hU;have HM:=wN hμ;have b1:=wN hn;clear h V Iz a8 S1 r1 t1 tt vY S2 L S r4 hq HF hT hU hμ hn;go_enter func61,ntmps61;go_upto_region 1 with(fail)
 rw[b7.out];go_upto_region 3 with(fail)
 rw[b8.out];cases X:(s.toList==[46])
 . obtain⟨x,hx,hk⟩:=HH.out.dir
   have a5:=(O.out.hi a x hx).2;cases D:(s.toList==[46,46])
   . obtain⟨LZ,hs⟩:=HH.out.ne s CO
     have i:=HX.out.mp.look (d:=(a:Int)) (s:=s) (Ls Aa) Aa;cases hK:K a s with
     |none=>
      rw[hK] at i;have i:(Instr.lookup 80 (.map (Z bm)) (BS #[J Y a,.string s]) AQ).run I j.drew=.ok (AT #[J Y 0,AY M]) j.drew:=i;have Q:=ep HX.out b6.out O.out b0.out X D LZ hs b1.out HM.out;rw[<- P.out] at Q;have Q:=wN Q;clear hx hk hK LZ hs a5;go_wp2
      go_region
      go_wp2_with (first|(go_at_call 106;(refine Q.out.mono ?_);rintro e w5 h5;obtain⟨F,B,(⟨p1,p2,p3,er,hR,rfl,a7⟩| ⟨rfl,a',f',l',K',n',hS,hw,pz,a6⟩)⟩:=h5.open_ <;> (have A:=wN ((F.2 w.heap.size (Au.1 v.out).1 (Nat.ne_of_gt l.out.1) (Nat.ne_of_gt l.out.2)).trans v.out);have t:=wN (a0.out.trans F)))|(with_reducible refine Bw rfl 35 C2 (.tmp 2) (.tmp 65) rfl w.heap.size rfl _ _ _ _ _ _ rfl rfl rfl rfl _ A.out ?_;intro w5 c N))
      all_goals first
       |(subst hR;exact A9 (BH rfl underlying35 C2 _ _ w.heap.size _ _ _ _ _ rfl N rfl) rfl ⟨t.out.wr c (AE _),B.trans (c.below g.out),A4 ⟨rfl,a7⟩⟩)
       |exact A9 (BH rfl underlying35 C2 _ _ w.heap.size _ _ _ _ _ rfl N rfl) rfl ⟨t.out.wr c (AE _),B.trans (c.below g.out),A8 ⟨rfl,a',f',l',K',n',hS.wrote c A.out Af (Nat.ne_of_gt l.out.1) g.out,hw,pz,a6⟩⟩
     |some u=>
      obtain⟨x,y,k,rfl,hx,hk,hi,he,hy,vZ⟩:=HH.out.kn.nm a s u hK (Xo D);have a1:=TL (fo:=fo) (f:=f) (r:=r) X D hx hi he hy;have Q:=On HX.out O.out b0.out hx hi he hy LZ hs (Xo D) b1.out HM.out;rw[<- a1.2 (fun h3=>by have:=h3.1;omega),<- P.out,vZ] at Q;have Q:=wN Q;rw[hK] at i;have i:(Instr.lookup 80 (.map (Z bm)) (BS #[J Y a,.string s]) AQ).run I j.drew=.ok (AT #[J Y k,AY AQ]) j.drew:=i;clear hx hk hi he hy vZ a1 hK LZ hs a5;go_wp2
      go_region
      go_wp2_with (first|(go_at_call 105;(refine Q.out.mono ?_);rintro e w5 h5;obtain⟨F,B,(⟨p1,p2,p3,er,hR,rfl,a7⟩| ⟨rfl,a',f',l',K',n',hS,hw,pz,a6⟩)⟩:=h5.open_ <;> (have A:=wN ((F.2 w.heap.size (Au.1 v.out).1 (Nat.ne_of_gt l.out.1) (Nat.ne_of_gt l.out.2)).trans v.out);have t:=wN (a0.out.trans F)))|(with_reducible refine Bw rfl 35 C2 (.tmp 2) (.tmp 60) rfl w.heap.size rfl _ _ _ _ _ _ rfl rfl rfl rfl _ A.out ?_;intro w5 c N))
      all_goals first
       |(subst hR;exact A9 (BH rfl underlying35 C2 _ _ w.heap.size _ _ _ _ _ rfl N rfl) rfl ⟨t.out.wr c (AE _),B.trans (c.below g.out),A4 ⟨rfl,a7⟩⟩)
       |exact A9 (BH rfl underlying35 C2 _ _ w.heap.size _ _ _ _ _ rfl N rfl) rfl ⟨t.out.wr c (AE _),B.trans (c.below g.out),A8 ⟨rfl,a',f',l',K',n',hS.wrote c A.out Af (Nat.ne_of_gt l.out.1) g.out,hw,pz,a6⟩⟩
   . obtain⟨u,hu⟩:=Option.isSome_iff_exists.1 HH.out.up
     have sI:=HH.out.kn.up a u hu;have b5:=HH.out.kn.cl a u hu;have i:=HX.out.mp.get (d:=(a:Int)) (s:=ddS) (Ls Aa) Af;rw[hu] at i;obtain⟨p,hp⟩:=nm (Tk T a);rw[<- hp] at sI;subst sI;have i:(Instr.lookup 80 (.map (Z bm)) (BS #[J Y a,.string ⟨#[46,46]⟩]) M).run I j.drew=.ok (J Y p) j.drew:=i;obtain⟨y,hy,vZ,_⟩:=aF O.out a;rw[<- hp] at hy;have b4:=wN ((HZ.out.setA (a':=p) ⟨y,hy,vZ⟩ b5).low (Bd (AP _ _) 1));have a9:=wN ((a2.out.set 2 (J Y p)).low (Bd (AP _ _) 1));have HR:=wN (P.out.trans (by rw[hp];exact kb X D:_=IE T fo p f r));have b2:Hid ((j.setCell ⟨bw,2,H⟩ (J Y p)).drew.heap[w.heap.size]? =Z (U #[J Y 0,.string ⟨#[]⟩,J Y 0] 35 (0,0))):=wN ((AZ j ⟨bw,2,H⟩ _ _ (by show w.heap.size≠bw;have:=l.out.1;omega)).trans v.out);clear hu b5 hx hk hy vZ hp a5;go_wp2
     go_region
     go_wp2_with (with_reducible refine Bw rfl 35 C2 (.tmp 2) (.tmp 40) rfl w.heap.size rfl _ _ _ _ _ _ rfl rfl rfl rfl _ b2.out ?_;intro w5 c N)
     exact A9 (BH rfl underlying35 C2 _ _ w.heap.size _ _ _ _ _ rfl N rfl) rfl ⟨a9.out.wr c (AE _),b4.out.be.trans (c.below g.out),A8 ⟨rfl,p,f,r,K,n,b4.out.wrote c b2.out Af (Nat.ne_of_gt l.out.1) g.out,HR.out.symm,HM.out,Aa⟩⟩
 . have HR:=wN (P.out.trans (Z5 X))
   go_wp2_with (with_reducible refine Bw rfl 35 C2 (.tmp 2) (.tmp 24) rfl w.heap.size rfl _ _ _ _ _ _ rfl rfl rfl rfl _ v.out ?_;intro w5 c N)
   exact A9 (BH rfl underlying35 C2 _ _ w.heap.size _ _ _ _ _ rfl N rfl) rfl ⟨a2.out.wr c (AE _),b3.out.be.trans (c.below g.out),A8 ⟨rfl,a,f,r,K,n,b3.out.wrote c v.out Af (Nat.ne_of_gt l.out.1) g.out,HR.out.symm,HM.out,Aa⟩⟩
end
def wh(bw:Nat)(w:G):Nat:=match w.cell? ⟨bw,5,H⟩,w.cell? ⟨bw,3,H⟩ with
 |some (J _ f),Z (.slice _ n _)=>(5-f.toNat)*21+n
 |_,_=>0
def jB{w:G}{g:Nat}{x y z a b c:AA}{T:Cn}(h:w.heap[g]? =Z (U #[x,y,z] T (0,0))):
 (((w.setCell ⟨g,0,H⟩ a).setCell ⟨g,1,H⟩ b).setCell ⟨g,2,H⟩ c).drew.heap[g]? =Z (U #[a,b,c] T (0,0))/\Wrote w (((w.setCell ⟨g,0,H⟩ a).setCell ⟨g,1,H⟩ b).setCell ⟨g,2,H⟩ c).drew g:=by
 have l:(w.setCell ⟨g,0,H⟩ a).heap[g]? =Z (U #[a,y,z] T (0,0)):=by rw[Bk w g 0 _ _ a h];rfl
 have m:((w.setCell ⟨g,0,H⟩ a).setCell ⟨g,1,H⟩ b).heap[g]? =Z (U #[a,b,z] T (0,0)):=by rw[Bk _ g 1 _ _ b l];rfl
 have n:(((w.setCell ⟨g,0,H⟩ a).setCell ⟨g,1,H⟩ b).setCell ⟨g,2,H⟩ c).heap[g]? =Z (U #[a,b,c] T (0,0)):=by rw[Bk _ g 2 _ _ c m];rfl
 refine⟨n,?_⟩;have d:=Wrote.setCell w g 0 a;have f:=Wrote.setCell (w.setCell ⟨g,0,H⟩ a) g 1 b;have i:=Wrote.setCell ((w.setCell ⟨g,0,H⟩ a).setCell ⟨g,1,H⟩ b) g 2 c;exact⟨i.1.trans (f.1.trans d.1),i.2.1.trans (f.2.1.trans d.2.1),i.2.2.1.trans (f.2.2.1.trans d.2.2.1),i.2.2.2.1.trans (f.2.2.2.1.trans d.2.2.2.1),fun k j=>(i.2.2.2.2 k j).trans ((f.2.2.2.2 k j).trans (d.2.2.2.2 k j))⟩
structure RsI (W1 w:G) (T:Fa) (fo:Bool) (bf bw bm:Nat) (R:gD) (a f:Nat) (l:List ByteArray) (K:Int->ByteArray->Option Int) (n:Nat) (wr:G):Prop where
 st:WkS W1 T fo bf bw bm a f l K n wr
 res:IE T fo a f l=R
 bd:n+2*((5-f)*21+l.length)<=400
 fr:FrK bw bm w wr
 pl:wr.heap[w.heap.size]? =Z (U #[J Y 0,.string ⟨#[]⟩,J Y 0] 35 (0,0))
section
variable {W1:G}{T:Fa}{fo:Bool}{bf bw bm a f n m:Nat}{l:List ByteArray}{K:Int->ByteArray->Option Int}{w:G}
def WkS.ms(h:WkS W1 T fo bf bw bm a f l K n w):wh bw w=(5-f)*21+l.length:=by
 obtain⟨d,c,b,_⟩:=h.cells;unfold wh;rw[AD _ _ _ _ _ _ b,AD _ _ _ _ _ _ b];rfl
def Pq(HF:FsW W1 bf T)(hT:OkT T)(hU:OkU T m)(hb:o W1.heap.size W1 w)(a2:W1.heap.size<=bw/\W1.heap.size<=bm){v:AA}
 (h1:w.heap[bw]? =Z (U #[C (Z ⟨bf,0,H⟩),AY fo,J Y 1,v,.map (Z bm),J Y 0] 82 (0,0))) (h2:TSt w v l) (hm:MpK w bm (fun _ _=>H) 0) (hl:l.length<=20) (hn:∀ s∈l,s.size≠0/\s.size<=13) (h0:l≠[]):
 AH I 30 #[C (Z ⟨bw,0,H⟩)] w fun e w'=>e=Av (rB (IE T fo 1 0 l))/\o W1.heap.size W1 w'/\FrK bw bm w w':=by
 have i:=AF w (U #[J Y 0,.string ⟨#[]⟩,J Y 0] 35);have Iz:=AC w (U #[J Y 0,.string ⟨#[]⟩,J Y 0] 35);obtain⟨w1,N⟩:=nm (w.alloc (U #[J Y 0,.string ⟨#[]⟩,J Y 0] 35));rw[<- N] at i Iz;have b0:Hid (w.alloc (U #[J Y 0,.string ⟨#[]⟩,J Y 0] 35)=w1):=wN N.symm;have gz:=(Au.1 h1).1;have t:=wN (And.intro gz hm.lt);have D:=wN hb.size;have z:=(i.block bw gz).trans h1;obtain⟨ao,y,rfl,_⟩:=id h2.1;obtain⟨q,hq⟩:=nm l.length;have b2:w1.cell? ⟨bw,3,H⟩=Z (E ao q y):=by rw[hq,AD _ _ _ _ _ _ z];rfl
 have sr:(0:Int)<(q:Int):=by
  have:l.length≠0:=fun e=>h0 (A3 e)
  omega
 have KS:=wN (Yx (fo:=fo) (m:=m) HF hT hU (hb.trans (i.mono hb.size)) a2 z (h2.below i) (hm.keep (i.block bm hm.lt)) hl hn);have Q:Hid (FrK bw bm w w1):=wN ((FrK.refl bw bm w).low i);have W:=wN Iz;obtain⟨R,O⟩:=nm (IE T fo 1 0 l);have HR:=wN O;rw[<- O];have a6:=wN HF;have a7:=wN hT;have a8:=wN hU;have HL:=wN hl;clear hb a2 h1 h2 hm hn h0 i Iz N z hq O HF hT hU hl;go_enter func30,ntmps30;go_upto_region 1 with(fail)
 rw[b0.out];go_wp2_with (go_at_call 60;(with_reducible refine Ad KS.out ?_);rintro w2 ⟨⟨K,S2⟩,F2⟩)
 have S:Hid (RsI W1 w T fo bf bw bm R 1 0 l K 1 w2):=wN ⟨S2,HR.out.symm,by have:=HL.out;omega,Q.out.trans F2,(F2.2 w.heap.size (Au.1 W.out).1 (Nat.ne_of_gt t.out.1) (Nat.ne_of_gt t.out.2)).trans W.out⟩;clear S2 F2 KS HR;go_loopw [6] (fun s6 wr=>∃ a f l K n,Hid (RsI W1 w T fo bf bw bm R a f l K n wr)) (fun _ wr=>wh bw wr)
 case atStart=>exact⟨1,0,l,K,1,S⟩
 case round=>
  obtain⟨a,f,l,K,n,d⟩:=hrel;clear S;obtain⟨ao,y,z,_⟩:=d.out.st.cells;cases l with
  |nil=>
   have c3:wr.cell? ⟨bw,3,H⟩=Z (E ao 0 y):=(by rw[AD _ _ _ _ _ _ z];rfl);have c2:wr.cell? ⟨bw,2,H⟩=Z (J Y a):=(by rw[AD _ _ _ _ _ _ z];rfl);have F:Hid (R=(((a:Int),⟨#[]⟩,(a:Int)),0)):=wN (by rw[<- d.out.res,Tc]);have p0:wr.cell? ⟨w.heap.size,0,H⟩=Z (J Y 0):=(by rw[AD _ _ _ _ _ _ d.out.pl];rfl);have p1:wr.cell? ⟨w.heap.size,1,H⟩=Z (.string ⟨#[]⟩):=(by rw[AD _ _ _ _ _ _ d.out.pl];rfl);have p2:wr.cell? ⟨w.heap.size,2,H⟩=Z (J Y 0):=(by rw[AD _ _ _ _ _ _ d.out.pl];rfl);have b4:wr.frozen? ⟨w.heap.size,0,H⟩=M:=(by simp[G.frozen?,d.out.pl]);have b5:wr.frozen? ⟨w.heap.size,1,H⟩=M:=(by simp[G.frozen?,d.out.pl]);have b6:wr.frozen? ⟨w.heap.size,2,H⟩=M:=(by simp[G.frozen?,d.out.pl]);clear z;have k:=wN (jB (a:=J Y a) (b:=.string ⟨#[]⟩) (c:=J Y a) d.out.pl);go_wp2
   go_region
   go_wp2;exact A9 (BH rfl underlying35 C2 _ _ w.heap.size _ _ _ _ _ rfl k.out.1 rfl) rfl ⟨by rw[F.out];rfl,d.out.st.be.trans (k.out.2.below D.out),d.out.fr.wr k.out.2 (AE _)⟩
  |cons s r=>
   have c3:wr.cell? ⟨bw,3,H⟩=Z (E ao (r.length+1) y):=(by rw[AD _ _ _ _ _ _ z];rfl);have sr:(0:Int)<(r.length:Int)+1:=Aa;have a4:Hid (n+2*((5-f)*21+(r.length+1))<=400):=wN d.out.bd;have a9:Hid (wh bw wr=(5-f)*21+(r.length+1)):=wN d.out.st.ms;have KN:=wN (fh (m:=m) d.out.st a6.out a7.out a8.out (by have:=d.out.bd;omega) (Nat.lt_succ_self ((5-f)*21+r.length)));have F:=wN d.out.res;have a5:=wN d.out.fr;have k:=wN d.out.pl;obtain⟨q',L⟩:=nm r.length;rw[<- L] at c3 sr;have HQ:=wN L;rw[F.out] at KN;clear z d L;go_upto_region 7 with(go_at_call 61;(with_reducible refine KN.out.mono ?_);rintro e B h5;obtain⟨a1,a0,(⟨p1,p2,p3,er,O,rfl,b1⟩| ⟨rfl,a',f',l',K',n',hS,hw,pz,a3⟩)⟩:=h5.open_ <;> (have u:=wN ((a1.2 w.heap.size (Au.1 k.out).1 (Nat.ne_of_gt t.out.1) (Nat.ne_of_gt t.out.2)).trans k.out);have A:=wN (a5.out.trans a1)))
   . have g:o B.heap.size B (B.alloc (U #[J Y p1,.string p2,J Y p3] 35)):=AF B _
     have x:=wN ((g.block _ (Au.1 u.out).1).trans u.out);have j:=wN (A.out.low g);have P:=wN (a0.trans (g.mono a0.size));by_cases hz:er=0
     . subst hz
       have mg:(p2.toList==[])=M:=by
        rw[beq_eq_false_iff_ne,Cg];intro e;have h0:p2.size≠0:=b1.resolve_left (fun h=>h rfl);exact h0 (by rw[<- GH,e];rfl)
       go_wp2_with (with_reducible refine Bw rfl 35 C2 (.tmp 2) (.tmp 37) rfl w.heap.size rfl _ _ _ _ _ _ rfl rfl rfl rfl _ x.out ?_;intro w7 p NS)
       exact A9 (BH rfl underlying35 C2 _ _ w.heap.size _ _ _ _ _ rfl NS rfl) rfl ⟨by rw[O];rfl,P.out.trans (p.below D.out),j.out.wr p (AE _)⟩
     . have b3:(er != 0)=AQ:=by rw[bne_iff_ne];exact hz
       go_wp2_with (with_reducible refine Bw rfl 35 C2 (.tmp 2) (.tmp 37) rfl w.heap.size rfl _ _ _ _ _ _ rfl rfl rfl rfl _ x.out ?_;intro w7 p NS)
       exact A9 (BH rfl underlying35 C2 _ _ w.heap.size _ _ _ _ _ rfl NS rfl) rfl ⟨by rw[O];rfl,P.out.trans (p.below D.out),j.out.wr p (AE _)⟩
   . have g:o B.heap.size B (B.alloc (U #[J Y 0,.string ⟨#[]⟩,J Y 0] 35)):=AF B _
     have x:=wN ((g.block _ (Au.1 u.out).1).trans u.out);have j:=wN (A.out.low g);have X:=wN (hS.low g);have HW:=wN hw;have V:=wN (And.intro pz a3);clear hS hw pz a3 g;go_wp2;go_roundw
     case rel=>exact⟨a',f',l',K',n',wN ⟨X.out,HW.out,by have:=a4.out;have:=V.out;have:=HQ.out;omega,j.out,x.out⟩⟩
     case measure=>rw[a9.out,X.out.ms];have:=V.out;have:=HQ.out;omega
end
section
variable {W1:G}{T:Fa}{fo:Bool}{bf bw bm m:Nat}{l:List ByteArray}{w:G}
def Rl(hb:o W1.heap.size W1 w){v:AA}
 (n:w.heap[bw]? =Z (U #[C (Z ⟨bf,0,H⟩),AY fo,J Y 1,v,.map (Z bm),J Y 0] 82 (0,0))) (q:TSt w v []):
 AH I 30 #[C (Z ⟨bw,0,H⟩)] w fun e w'=>e=Av (rB (IE T fo 1 0 []))/\o W1.heap.size W1 w'/\FrK bw bm w w':=by
 have d:=AF w (U #[J Y 0,.string ⟨#[]⟩,J Y 0] 35);have g:=AC w (U #[J Y 0,.string ⟨#[]⟩,J Y 0] 35);obtain⟨f,i⟩:=nm (w.alloc (U #[J Y 0,.string ⟨#[]⟩,J Y 0] 35));rw[<- i] at d g;have l:Hid (w.alloc (U #[J Y 0,.string ⟨#[]⟩,J Y 0] 35)=f):=wN i.symm;have x:=(Au.1 n).1;have p:=(d.block bw x).trans n;obtain⟨s,m,rfl,_⟩:=id q.1;have u:f.cell? ⟨bw,3,H⟩=Z (E s 0 m):=by rw[AD _ _ _ _ _ _ p];rfl
 have t:f.cell? ⟨bw,2,H⟩=Z (J Y 1):=by rw[AD _ _ _ _ _ _ p];rfl
 have h:=wN (jB (a:=J Y 1) (b:=.string ⟨#[]⟩) (c:=J Y 1) g);have B:f.cell? ⟨w.heap.size,0,H⟩=Z (J Y 0):=by rw[AD _ _ _ _ _ _ g];rfl
 have D:f.cell? ⟨w.heap.size,1,H⟩=Z (.string ⟨#[]⟩):=by rw[AD _ _ _ _ _ _ g];rfl
 have F:f.cell? ⟨w.heap.size,2,H⟩=Z (J Y 0):=by rw[AD _ _ _ _ _ _ g];rfl
 have y:f.frozen? ⟨w.heap.size,0,H⟩=M:=by simp[G.frozen?,g]
 have z:f.frozen? ⟨w.heap.size,1,H⟩=M:=by simp[G.frozen?,g]
 have A:f.frozen? ⟨w.heap.size,2,H⟩=M:=by simp[G.frozen?,g]
 have r:=wN (hb.trans (d.mono hb.size));have k:=wN hb.size;have j:Hid (FrK bw bm w f):=wN ((FrK.refl bw bm w).low d);clear hb n q d g i p;go_enter func30,ntmps30;go_upto_region 1 with(fail)
 rw[l.out];go_wp2;go_loopw [6] (fun K wr=>f=wr) (fun _ _=>0)
 case atStart=>rfl
 case round=>
  subst hrel;go_wp2
  go_region
  go_wp2;exact A9 (BH rfl underlying35 C2 _ _ w.heap.size _ _ _ _ _ rfl h.out.1 rfl) rfl ⟨by rw[Tc];rfl,r.out.trans (h.out.2.below k.out),j.out.wr h.out.2 (AE _)⟩
def TH(f:FsW W1 bf T)(g:OkT T)(h:OkU T m)(hb:o W1.heap.size W1 w)(a:W1.heap.size<=bw/\W1.heap.size<=bm){v:AA}
 (c:w.heap[bw]? =Z (U #[C (Z ⟨bf,0,H⟩),AY fo,J Y 1,v,.map (Z bm),J Y 0] 82 (0,0))) (d:TSt w v l) (j:MpK w bm (fun _ _=>H) 0) (i:l.length<=20) (k:∀ s∈l,s.size≠0/\s.size<=13):
 AH I 30 #[C (Z ⟨bw,0,H⟩)] w fun e w'=>e=Av (rB (IE T fo 1 0 l))/\o W1.heap.size W1 w'/\FrK bw bm w w':=by
 by_cases b:l=[]
 . subst b
   exact Rl hb c d
 . exact Pq f g h hb a c d j i k b
def U5(s:ByteArray)(w:G)(T:Fa)(fo:Bool):
 (Nf T s fo=IE T fo 1 0 (BX s)/\OkP s/\AH I 7 #[.string s] w fun e w'=>∃ v,e=Av (AT #[v,J Y 0])/\TR w' w.heap.size v (BX s)/\o w.heap.size w w')\/
 (∃ d:Int,(d=10\/d=9)/\Nf T s fo=M0 d/\AH I 7 #[.string s] w fun e w'=>e=Av (AT #[E H 0 0,J Y d])/\o w.heap.size w w'):=by
 have h:=dX s w;unfold Nf;by_cases a:s.data.toList.head? =Z 47
 . rw[AG a]
   by_cases b:OkP s
   . rw[AG b]
     refine A4 ⟨rfl,b,h.mono ?_⟩;rintro e w' (⟨_,⟨_,v,he,i⟩| ⟨c,_⟩,f⟩| ⟨c,_⟩)
     . exact⟨v,he,i,f⟩
     . exact absurd b c
     . exact absurd a c
   . rw[AJ b]
     refine A8 ⟨10,A4 rfl,rfl,h.mono ?_⟩;rintro e w' (⟨_,⟨g,_⟩| ⟨_,he⟩,f⟩| ⟨c,_⟩)
     . exact absurd g b
     . exact⟨he,f⟩
     . exact absurd a c
 . rw[AJ a]
   refine A8 ⟨9,A8 rfl,rfl,h.mono ?_⟩;rintro e w' (⟨g,_⟩| ⟨_,he,rfl⟩)
   . exact absurd g a
   . exact⟨he,AP _ _⟩
def Ve(X:FsW W1 bf T)(hT:OkT T)(hU:OkU T m)(s:ByteArray)(fo:Bool):
 AH I 11 #[C (Z ⟨bf,0,H⟩),.string s,AY fo] W1 fun e w'=>e=Av (rB (Nf T s fo))/\o W1.heap.size W1 w':=by
 have l:=AF W1 (U #[J Y 0,.string ⟨#[]⟩,J Y 0] 35);have L:=AC W1 (U #[J Y 0,.string ⟨#[]⟩,J Y 0] 35);obtain⟨w1,n⟩:=nm (W1.alloc (U #[J Y 0,.string ⟨#[]⟩,J Y 0] 35));rw[<- n] at l L;have t:Hid (W1.alloc (U #[J Y 0,.string ⟨#[]⟩,J Y 0] 35)=w1):=wN n.symm;have h:=wN l;have d:=wN L;have f:=U5 s w1 T fo;obtain⟨R,hR⟩:=nm (Nf T s fo);rw[<- hR] at f |-
 have A:=wN X;have B:=wN hT;have D:=wN hU;clear l L n hR X hT hU;rcases f with⟨g,ho,f⟩| ⟨P,u,g,f⟩
 . have HO:=wN ho
   have f:=wN f;have K:=wN g;clear g ho;go_enter func11,ntmps11;go_upto_region 1 with(fail)
   rw[t.out];go_upto_region 6 with(go_at_call 7;(with_reducible refine f.out.mono ?_);rintro e a ⟨v,rfl,V,b⟩;(obtain⟨x,k,W,_⟩:=id V.sl))
   subst W;have HV:=wN V;have i:=wN b;have j:=wN ((b.block _ (Au.1 d.out).1).trans d.out);clear V b f;have a1:=@run_makeMap I;go_upto_region 7 with(fail)
   have b3:=AF a (.map #[] 0);have m3:=MpK.made a;have z3:(a.alloc (.map #[] 0)).heap.size=a.heap.size+1:=G.size_alloc _ _;have y:=AC (a.alloc (.map #[] 0)) (U #[C (Z ⟨bf,0,H⟩),AY fo,J Y 1,E x (BX s).length k,.map (Z a.heap.size),J Y 0] 82);have O:=AF (a.alloc (.map #[] 0)) (U #[C (Z ⟨bf,0,H⟩),AY fo,J Y 1,E x (BX s).length k,.map (Z a.heap.size),J Y 0] 82);rw[z3] at y;have c:o a.heap.size a ((a.alloc (.map #[] 0)).alloc (U #[C (Z ⟨bf,0,H⟩),AY fo,J Y 1,E x (BX s).length k,.map (Z a.heap.size),J Y 0] 82)):=b3.trans (O.mono Aa);have M:=m3.keep (O.block _ Aa);generalize (a.alloc (.map #[] 0)).alloc (U #[C (Z ⟨bf,0,H⟩),AY fo,J Y 1,E x (BX s).length k,.map (Z a.heap.size),J Y 0] 82)=w4 at y c M |-
   have Ef:W1.heap.size<a.heap.size:=AL (Au.1 d.out).1 i.out.size;have q:=wN ((h.out.trans (i.out.mono h.out.size)).trans (c.mono (Cy Ef)));have w:=wN (TH A.out B.out D.out q.out ⟨Aa,Aa⟩ y (HV.out.st.below c) M HO.out.ct (US HO.out));have r:=wN ((c.block _ (Au.1 j.out).1).trans j.out);rw[<- K.out] at w;obtain⟨⟨p1,p2,p3⟩,P⟩:=R;have w:Hid (AH I 30 #[C (Z ⟨a.heap.size+1,0,H⟩)] w4 fun e w'=>e=Av (AT #[BS #[J Y p1,.string p2,J Y p3],J Y P])/\o W1.heap.size W1 w'/\FrK (a.heap.size+1) a.heap.size w4 w'):=w;clear b3 m3 y O c M
   go_wp2_with (first|(go_at_call 30;(with_reducible refine Ad w.out ?_);rintro w5 ⟨Q,S⟩;have z:=wN Q;have F:=wN ((S.2 W1.heap.size (Au.1 r.out).1 Aa Aa).trans r.out))|(with_reducible refine Bw rfl 35 C2 (.tmp 6) (.tmp 31) rfl W1.heap.size rfl _ _ _ _ _ _ rfl rfl rfl rfl _ F.out ?_;intro w7 p N))
   exact A9 (BH rfl underlying35 C2 _ _ W1.heap.size _ _ _ _ _ rfl N rfl) rfl ⟨rfl,z.out.trans (p.below (AE _))⟩
 . have K:=wN g
   have f:=wN f;have a0:(P != 0)=AQ:=by rcases u with rfl|rfl <;> rfl
   clear g u;go_enter func11,ntmps11;go_upto_region 1 with(fail)
   rw[t.out]
   go_wp2_with (first|(go_at_call 7;(with_reducible refine Ad f.out ?_);rintro a b;have i:=wN b;have j:=wN ((b.block _ (Au.1 d.out).1).trans d.out))|(with_reducible refine Bw rfl 35 C2 (.tmp 6) (.tmp 21) rfl W1.heap.size rfl _ _ _ _ _ _ rfl rfl rfl rfl _ j.out ?_;intro w7 p N))
   exact A9 (BH rfl underlying35 C2 _ _ W1.heap.size _ _ _ _ _ rfl N rfl) rfl ⟨by rw[K.out];rfl,(h.out.trans (i.out.mono h.out.size)).trans (p.below (AE _))⟩
end
def dj:Nf T0 ⟨#[47,97]⟩ AQ=(((1:Int),⟨#[97]⟩,0),0):=by
 have a:BX ⟨#[47,97]⟩=[⟨#[97]⟩]:=by decide +kernel
 have c:OkP ⟨#[47,97]⟩:=⟨Af,Af,by rw[a];decide,by rw[a];decide⟩;unfold Nf;have b:(⟨#[47,97]⟩:ByteArray).data.toList.head? =Z 47:=rfl;rw[AG b,AG c,a,SP (x:=⟨2,[],[]⟩) (by decide +kernel) (by decide +kernel) rfl (by decide +kernel)];rfl
def Oa(w:G):AH I 6 #[] w fun e w'=>e=Av (AY AQ)/\o w.heap.size w w':=by
 have k:=wN (aR (kk:=1) Af Af w (AP _ w));rw[show(64*((1:Nat):Int))=64 from rfl] at k;have m:Hid (∀ (V:G) (P:Nat->Prop) (d p:AA) (g:Nat),RestT w d p 1 g T0 6 P V->AH I 11 #[C (Z ⟨g,0,H⟩),.string ⟨#[47,97]⟩,AY AQ] V fun e w'=>e=Av (AT #[BS #[J Y 1,.string ⟨#[97]⟩,J Y 0],J Y 0])/\o w.heap.size w w'):=wN fun V P d p g h=>by
  refine(Ve (h.fsw wz) wz tD ⟨#[47,97]⟩ AQ).mono ?_;rintro e w' ⟨he,n⟩;rw[dj] at he;have f:o w.heap.size w V:=by obtain⟨X,N,O,F,a,_⟩:=h;exact a.be
  exact⟨he,f.trans (n.mono f.size)⟩
 go_enter func6,ntmps6
 go_wp2_with (first|(go_at_call 15;refine k.out.mono ?_;rintro e s ⟨b,rfl,q,l⟩)|(go_at_call 14;refine l.mono ?_;rintro e t ⟨g,P2,r,rfl,j⟩)|(go_at_call 11;refine Ad (m.out _ _ _ _ _ j) ?_;rintro u c;have i:=wN (c.alloc c.size (U #[J Y 1,.string ⟨#[97]⟩,J Y 0] 35))))
 go_ret;exact⟨rfl,i.out⟩
def oE(w:G)(s:ByteArray):∃ cap a,(convert 9 77 (.string s)).run I w=.ok (E (Z ⟨w.heap.size,0,H⟩) s.size cap) a/\o w.heap.size w a/\BSl a (E (Z ⟨w.heap.size,0,H⟩) s.size cap) (Ey s):=by
 refine⟨_,_,run_bytes_of_string w 9 77 5 s underlying9 underlying77 underlying5,(((AP _ w).drew).trans (LF w.drew _ 5 _)),Mr s,A8 ⟨_,_,by rw[DG],?_,fun j b=>?_⟩⟩
 . rw[DG]
   exact grownCap_ge w s.size 0 _
 . rw[DG] at b
   have c:(w.drew.alloc (U (bytesRow s (grownCap w s.size 0 5)) 5 ((bytesRow s (grownCap w s.size 0 5)).size,(bytesRow s (grownCap w s.size 0 5)).size+1))).heap[w.heap.size]? =Z (U (bytesRow s (grownCap w s.size 0 5)) 5 ((bytesRow s (grownCap w s.size 0 5)).size,(bytesRow s (grownCap w s.size 0 5)).size+1)):=by
    show(w.heap.push _)[w.heap.size]? =_
    simp
   refine⟨by rw[G.alloc];simp,rfl,?_⟩;show G.cell? _ ⟨w.heap.size,0+j,H⟩=_
   rw[BC,AD _ _ _ _ _ _ c,UW s j b];unfold bytesRow;have:j<s.data.size:=b;simp only[Array.getElem?_append,Array.size_map,AG this,Array.getElem?_map,Array.getElem?_eq_getElem this];rfl
section
variable {w:G}{B bt n:Nat}{T:Fa}{A Q:Nat->Nat}
def TreH.write(h:TreH w B bt T A Q)(o:n<48)(t:T n=Z ⟨3,[],[]⟩){v:AA}{l:Ab}(hv:BSl w v l)(p:Apt (NP (A n) (Q n)) v)(r:1<=l.length)(L:l.length<=200):
 AH I 28 #[C (Z ⟨A n,0,H⟩),J Y 0,v] w fun e w'=>e=Av (AT #[J Y l.length,J Y 0])/\TreH w' B bt (upd T n (Z ⟨3,[],l⟩)) A Q/\Chg (QZ w bt T A Q) (QZ w' bt (upd T n (Z ⟨3,[],l⟩)) A Q) w w':=by
 have j:=h.nd n _ o t;refine(j.write rfl rfl hv p L r).mono ?_;rintro e w' ⟨he,D,b,G⟩;have M:=h.node o t (P:=NP (A n) (Q n)) (fun k q=>q) b D;refine⟨he,M,b.os,b.tape,b.output,b.size,fun k q x=>?_⟩;have s:(T n).isSome=AQ:=by rw[t];rfl
 obtain⟨F,_⟩:=b.keep k q fun m=>x (A4 (A8 ⟨n,o,s,m⟩))
 refine⟨F,fun m=>x ?_⟩;have u:∀ i,(upd T n (Z ⟨3,[],l⟩) i).isSome=AQ->(T i).isSome=AQ:=fun i c=>by
  by_cases f:i=n
  . rw[f];exact s
  . rwa [Cx _ _ f] at c
 rcases m with(e| ⟨i,c,a,e⟩)| ⟨i,c,a,O,d,K⟩
 . exact A4 (A4 e)
 . exact A4 (A8 ⟨i,c,u i a,e⟩)
 . refine A8 ⟨i,c,u i a,O,?_,K⟩
   by_cases f:i=n
   . rw[f] at d |-
     rw[<- G];exact d
   . obtain⟨y,z⟩:=Option.isSome_iff_exists.1 (u i a)
     have g:=h.nd i y c z;obtain⟨N,S⟩:=h.inj i n c o (by rw[z];rfl) s f;have:w'.cell? ⟨A i,4,H⟩=w.cell? ⟨A i,4,H⟩:=Bi (b.keep (A i) g.lt.1 fun m=>by
      rcases m with e|e
      . exact N e
      . obtain⟨R,E⟩:=g.rowAt
        exact j.mapAt (by rw[<- e];exact E)).1
     rw[<- this];exact d
end
end Go.Proofs.YtfpdajplfmakhaaGreatDoor
