/- What the law rests on. -/
import Derived.RangeFuncCalls
import Derived.RangeFuncLeaves
import Derived.Shelf.Abstract
import Derived.OwnWalkIn
import Derived.TacticsInMore
import Derived.LoopNIn
import Derived.LoopIn
import Derived.Deep.Upon
import Derived.Deep.RegionLawGrows
import Derived.Test.YtfpdajplfmakhaaGreatDoorQD12
open Go.Value renaming int->H,slice->Aw,pointer->Ax,tuple->AT,bool->AY,agg->BS
open Go.IntKind renaming i64->G
open Go.Proofs.Tryz renaming prog->Aq
open Option renaming none->Z,some->Y
open Go renaming World->At,Value->AA,Calls->AH,Oper->BK,strOfNums->B7,wpList->Cj,TypeId->Cn
open Go.Ending renaming returned->Av
open Go.Obj renaming cells->I
open Go.RowKit renaming Below->AB
open List renaming replicate->AI,range->BE,length_cons->BJ
open Bool renaming false->AN,true->AQ
open Array renaming replicate->AW
open Or renaming inl->A4,inr->A8
open Int renaming toNat_natCast->Cf
open Go.Proofs.Tryz
namespace Go.Proofs.YtfpdajplfmakhaaGreatDoor
set_option linter.defProp false
set_option maxHeartbeats 12000000
set_option linter.unusedVariables false
set_option maxRecDepth 100000
section
open Go.RowKit
attribute [local go_sem] BK.semAt_some
def Of(o:BK):Bool:=match o.op with |.defer _=>AN|_=>AQ
def iJ{o:BK}(h:Of o=AQ):∀ c,o.op≠.defer c:=fun c e=>by unfold Of at h;rw[e] at h;cases h
section
variable {P:Program}{ops:Array BK}{Q:Exit->Act->At->Prop}{a:Act}{w:At}{l n:Nat}
def aj{o:BK}(hd:Of o=AQ){next b:Act->At->Prop}(g:∀ a w,next a w->b a w)(h:o.wp P a w next Q):o.wpIn (Fence.wide.inRound l) n P a w b Q:=by
 refine⟨fun _ _=>trivial,?_⟩;rw[BK.semAt_eq _ _ _ (iJ hd)];unfold BK.wp at h;generalize (execOp a.eval o).run P w=r at h |-
 match r,h with
 |.ok (.value v) w',h=>exact g _ _ h
 |.ok .skip w',h=>exact g _ _ h
 |.ok (.defer d) w',h=>exact g _ _ h
 |.ok (.enter f args) w',h=>
  refine⟨fun e=>(by cases e),CallsIn.inRound l (callsIn_wide.2 (AH.mono h ?_))⟩;intro e p k;cases e with
  |returned v=>exact g _ _ k
  |panicked c=>exact k
  |outgrown=>exact k
 |.ok (.row row args) w',h=>
  refine⟨fun e=>(by cases e),fun c i _=>?_⟩;obtain⟨v,q,j,m⟩:=h c i;exact⟨v,q,g _ _ j,stepsIn_wide.2 m⟩
 |.ok (.round l' f t asg bd) w',h=>exact h.elim
 |.halt (.panic v) w',h=>exact h
def Nl(b:¬ LetsOut Q):∀ (L:List BK) (a:Act) (w:At),L.all Of=AQ->Cj P ops Q L a w->wpListIn (Fence.wide.inRound l) n P ops Q L a w
 |[],_,_,_,h=>h
 |o :: L,a,w,hd,h=>by
  rw[List.all_cons,A0] at hd;unfold wpListIn;unfold Cj at h;split
  . next c=>
    rw[AG c] at h;rcases h with h|h
    . exact aj hd.1 (fun a w k=>Nl b L a w hd.2 k) h
    . exact absurd h.2 b
  . next c=>
    rw[AJ c] at h;exact⟨fun _ _=>trivial,Nl b L _ w hd.2 h⟩
def Ho{c:Nat}{L:List BK}(hd:L.all Of=AQ)(b:¬ LetsOut Q)(h:Cj P L.toArray Q L a w):(Code.region c L.toArray AN).wpIn (Fence.wide.inRound l) n P Q a w:=
 wpIn_region_lit (Nl b L a w hd h)
end
def X4(b off n cap l h:Nat)(o:l<h)(p:h<=cap)(W:At):
 (Instr.slice 77 (Aw (Y ⟨b,off,Z⟩) n cap) (Y (H G (l:Int))) (Y (H G (h:Int))) (Y (H G (h:Int)))).run Aq W=.ok (Aw (Y ⟨b,off+l,Z⟩) (h-l) (h-l)) W:=by
 obtain⟨i,d,k,f,m⟩:=Bs IA;have a:h≠l:=Aa;have c:Aq.elem 77=5:=Ac;have j:(sizeOf 5).run Aq W=.ok 1 W:=by simp[sizeOf,typeInfo,d,f]
 have g:(Instr.sliceBounds AQ n cap (Y (H G (l:Int))) (Y (H G (h:Int))) (Y (H G (h:Int)))).run Aq W=.ok (l,h,h) W:=by
  simp[Instr.sliceBounds,run_sliceBound,(by omega:(h:Int)<=(cap:Int)),(by omega:(l:Int)<=(h:Int))]
 rw[run_slice_any W 77 _ n cap (by rw[c];exact underlying77),g,c];simp only[Result.andThen_ok,j];simp[sliced,a,Cd]
abbrev VG (L:Nat):={ j:Nat // 256*j<L }
def MO(L:Nat):Nat->List (VG L)
 |0=>[]
 |k+1=>if h:256*k<L then MO L k ++ [⟨k,h⟩] else MO L k
def NC{L:Nat}:∀ k,256*k<L+256->(MO L k).map (·.1)=BE k
 |0,_=>rfl
 |k+1,h=>by
  have a:256*k<L:=Aa;rw[MO,dif_pos a,Cw,NC k Aa,GW];rfl
def fI{L k:Nat}(h:256*k<L+256):(MO L k).length=k:=by
 have:=BF List.length (NC (L:=L) k h)
 rwa [Bn,List.length_range] at this
def oK(a b L:Nat)(x:VG L):Array AA:=#[Aw (Y ⟨a,b+256*x.1,Z⟩) (min 256 (L-256*x.1)) (min 256 (L-256*x.1))]
def wM(sB nB:Nat)(W a:At):Prop:=a.heap[sB]? =W.heap[sB]? /\a.heap[nB]? =W.heap[nB]?
def bU(a:Option Addr)(L cap:Nat)(w:At):AH Aq 136 #[Aw a L cap,H G 256] w fun e w'=>e=Av (.func (.func 176) #[] #[Ax (Y ⟨w.heap.size,0,Z⟩),Ax (Y ⟨w.heap.size+1,0,Z⟩)])/\w'=(w.alloc (I #[Aw a L cap] 77)).alloc (I #[H G 256] 3):=by
 go_enter func136,ntmps136;go_wp2;go_ret;exact⟨rfl,rfl⟩
def Wi{n:Nat}(hn:1<=n){sB nB b c L cap:Nat}{y:Option Addr}(vI:0<L->y=Y ⟨b,c,Z⟩)(CD:L<=cap)(hL:L<=1000000){w:At}(h1:sB<w.heap.size)(h2:nB<w.heap.size)(hs:w.cell? ⟨sB,0,Z⟩=Y (Aw y L cap))(hN:w.cell? ⟨nB,0,Z⟩=Y (H G 256)):
 SeqStopsK Fence.wide n Aq 176 #[Ax (Y ⟨sB,0,Z⟩),Ax (Y ⟨nB,0,Z⟩)] (oK b c L) (wM sB nB) (fun xs=>xs.map (·.1)=BE ((L+255) / 256)) (fun _=>True) ((L+255) / 256) w:=by
 intro l J Jx W M hJ K hY h0;have P:W.cell? ⟨sB,0,Z⟩=Y (Aw y L cap):=(M.cell (p:=⟨sB,0,Z⟩) h1).trans hs;have q:W.cell? ⟨nB,0,Z⟩=Y (H G 256):=(M.cell (p:=⟨nB,0,Z⟩) h2).trans hN;have F:=wN P;have E:=wN q;have H0:=wN h0;have HJ:=wN hJ;have HY:=wN hY;clear M hs hN P q h0 hJ K hY h1 h2;refine callsIn_of_wp func176 rfl trivial ?_ rfl;simp only[ntmps176,List.size_toArray,BJ,List.length_nil,Nat.reduceAdd,Nat.reduceSub,Array.replicate_succ,Array.replicate_zero,List.push_toArray,List.append_toArray,List.nil_append,List.cons_append]
 gi_wp2
 gi_loopw [4] (fun N wr=>∃ k i:Nat,256*k=i/\i<L+256/\N=H G i/\Hid (J (MO L k) wr)/\Hid (wr.cell? ⟨sB,0,Z⟩=Y (Aw y L cap))/\Hid (wr.cell? ⟨nB,0,Z⟩=Y (H G 256))) (fun N _=>L-(intOf N).toNat)
 case atStart=>exact⟨0,0,rfl,Aa,rfl,H0,F,E⟩
 case round=>
  obtain⟨k,i,u,a1,rfl,m,HS,HN⟩:=hrel;have c1:=HS.out;have c2:=HN.out;by_cases a2:i<L
  . have lO:(i:Int)<(L:Int):=by omega
    obtain rfl:=vI Aa;have x:256*k<L:=Aa;obtain⟨t,ht⟩:=nm (min 256 (L-i));obtain⟨e,he⟩:=nm (i+t);obtain⟨fn,a0,z,T,hy,hR⟩:=HY.out _ ⟨k,x⟩ wr.drew (HJ.out _ _ _ Z m.out ⟨rfl,rfl,rfl,AE _,fun _ _ _=>rfl⟩ (fun r e=>by cases e)) (by rw[fI Aa];omega);have U:oK b c L ⟨k,x⟩=#[Aw (Y ⟨b,c+i,Z⟩) t t]:=(by unfold oK;rw[u,<- ht]);rw[U] at hy;have X:MO L (k+1)=MO L k ++ [⟨k,x⟩]:=(by rw[MO,dif_pos x]);have A:=wN X;have e3:(i:Int)+(t:Int)=(e:Int):=Aa;have e4:G.wrap (e:Int)=(e:Int):=Bz _ Aa;have e5:G.wrap ((i:Int)+(t:Int))=(e:Int):=(by rw[e3];exact e4);have f1:∀ W,(Instr.slice 77 (Aw (Y ⟨b,c,Z⟩) L cap) (Y (H G (i:Int))) Z Z).run Aq W=.ok (Aw (Y ⟨b,c+i,Z⟩) (L-i) (cap-i)) W:=fun W=>by
     have:=F9 W b c L cap i L Z (A4 ⟨rfl,rfl⟩) Aa CD Aa;rw[run_sliceAt_slice W 77 _ _ _ _ (by rw[show Aq.elem 77=5 from Ac];exact underlying77)] at this;exact this
    have f2:∀ W,(Instr.slice 77 (Aw (Y ⟨b,c,Z⟩) L cap) (Y (H G (i:Int))) (Y (H G (e:Int))) (Y (H G (e:Int)))).run Aq W=.ok (Aw (Y ⟨b,c+i,Z⟩) t t) W:=fun W=>by
     have:=X4 b c L cap i e Aa Aa W;rw[show e-i=t from Aa] at this;exact this
    have f3:(if ((L-i:Nat):Int)<256 then ((L-i:Nat):Int) else 256)=(t:Int):=by split <;> omega
    have b1:t<=256:=Aa;have b2:i+256<L+512:=Aa;have b3:(256:Int)<=1000000:=Aa;have O:256*(k+1)=i+256:=Aa;have D:Hid (L-(i+256)<L-i):=wN Aa;have HI:Hid (i+256<L+256):=wN Aa;have C:=wN O;obtain⟨Q,o⟩:=nm (L-i);rw[<- o] at f1 f3;clear ht he U X u O o
    gi_wp2
    refine wpIn_wide.2 ?_;have s:wr.drew.cell? ⟨sB,0,Z⟩=Y (Aw (Y ⟨b,c,Z⟩) L cap)/\wr.drew.cell? ⟨nB,0,Z⟩=Y (H G 256):=⟨c1,c2⟩;refine wp_region_held_drew (S:=fun V=>V.cell? ⟨sB,0,Z⟩=Y (Aw (Y ⟨b,c,Z⟩) L cap)/\V.cell? ⟨nB,0,Z⟩=Y (H G 256)) Ac s (fun I=>?_);refine NK (i:=0) (v:=H G 256) rfl Ac Ac Ac (fun _ _ _ h=>h) (A4 ⟨Aj,?_⟩) Ah ?_
    . intro V d;obtain⟨g,j⟩:=d;go_simp;(try omega)
    (try simp only[Act.put,A5,List.set_cons_zero,List.set_cons_succ,List.getElem_toArray,List.getElem_cons_zero])
    refine NK (i:=1) (v:=Aw (Y ⟨b,c,Z⟩) L cap) rfl Ac Ac Ac (fun _ _ _ h=>h) (A4 ⟨Aj,?_⟩) Ah ?_
    . intro V d;obtain⟨g,j⟩:=d;go_simp;(try omega)
    (try simp only[Act.put,A5,List.set_cons_zero,List.set_cons_succ,List.getElem_toArray,List.getElem_cons_zero,List.getElem_cons_succ])
    refine NK (i:=2) (v:=H G i) rfl Ac Ac Ac (fun _ _ _ h=>h) (A4 ⟨Aj,?_⟩) Ah ?_
    . intro V d;obtain⟨g,j⟩:=d;go_simp;(try omega)
    (try simp only[Act.put,A5,List.set_cons_zero,List.set_cons_succ,List.getElem_toArray,List.getElem_cons_zero,List.getElem_cons_succ])
    refine NK (i:=3) (v:=Aw (Y ⟨b,c+i,Z⟩) Q (cap-i)) rfl Ac Ac Ac (fun _ _ _ h=>h) (A4 ⟨Aj,?_⟩) Ah ?_
    . intro V d;obtain⟨g,j⟩:=d;go_simp;(try omega)
    (try simp only[Act.put,A5,List.set_cons_zero,List.set_cons_succ,List.getElem_toArray,List.getElem_cons_zero,List.getElem_cons_succ])
    refine NK (i:=4) (v:=H G Q) rfl Ac Ac Ac (fun _ _ _ h=>h) (A4 ⟨Aj,?_⟩) Ah ?_
    . intro V d;obtain⟨g,j⟩:=d;go_simp;(try omega)
    (try simp only[Act.put,A5,List.set_cons_zero,List.set_cons_succ,List.getElem_toArray,List.getElem_cons_zero,List.getElem_cons_succ])
    refine NK (i:=5) (v:=H G t) rfl Ac Ac Ac (fun _ _ _ h=>h) (A4 ⟨Aj,?_⟩) Ah ?_
    . intro V d;obtain⟨g,j⟩:=d;go_simp;(try omega)
    (try simp only[Act.put,A5,List.set_cons_zero,List.set_cons_succ,List.getElem_toArray,List.getElem_cons_zero,List.getElem_cons_succ])
    refine NK (i:=6) (v:=H G t) rfl Ac Ac Ac (fun _ _ _ h=>h) (A4 ⟨Aj,?_⟩) Ah ?_
    . intro V d;obtain⟨g,j⟩:=d;go_simp;(try omega)
    (try simp only[Act.put,A5,List.set_cons_zero,List.set_cons_succ,List.getElem_toArray,List.getElem_cons_zero,List.getElem_cons_succ])
    refine wpAnyH_done Ac ?_ _;obtain⟨c3,c4⟩:=s
    gi_wp2
    refine hR.mono ?_;rintro e R (⟨rfl,sN,f⟩| ⟨rfl,lP⟩)
    . have c5:R.cell? ⟨sB,0,Z⟩=Y (Aw (Y ⟨b,c,Z⟩) L cap):=(Bi (a:=⟨sB,0,Z⟩) f.1).trans c3
      have c6:R.cell? ⟨nB,0,Z⟩=Y (H G 256):=(Bi (a:=⟨nB,0,Z⟩) f.2).trans c4;have B:=wN sN;clear sN f
      gi_wp2
      go_roundw
      case rel=>exact⟨k+1,i+256,C.out,HI.out,by go_num,wN (by rw[A.out];exact B.out),wN c5,wN c6⟩
      case measure=>have:=D.out;simp[intOf];omega
    . gi_wp2
      refine A9 (results_none rfl _ _ _) rfl ?_;exact⟨⟨_,rfl⟩,A8 ⟨_,trivial,lP⟩⟩
  . have lO:¬ (i:Int)<(L:Int):=by omega
    have SE:k=(L+255) / 256:=Aa;subst SE
    gi_wp2
    go_end0
    exact⟨⟨_,rfl⟩,A4 ⟨_,NC _ Aa,m.out⟩⟩
end
section
open Go.RowKit BM
attribute [local go_sem] BK.semAt_some
def gV(l:Ab)(w:At)(e:Ending)(w':At):Prop:=
 (∃ O,FrmL O/\Fl O=l/\∃ v,e=Av (AT #[v,H G 0])/\ER w' w.heap.size 75 v O/\AB w.heap.size w w')\/
 ((¬ ∃ O,FrmL O/\Fl O=l)/\e=Av (AT #[Aw Z 0 0,H G 3])/\AB w.heap.size w w')
def wF(c:At)(l:Ab)(b d r1 r2:Nat){L:Nat}(a:List (VG L))(W:At):Prop:=
 (∃ v E,W.heap[d]? =Y (I #[v] 116 (0,0))/\PartsD l (a.map (·.1)) E/\ER W b 75 v E)/\W.heap[r1]? =Y (I #[Aw Z 0 0] 116 (0,0))/\W.heap[r2]? =Y (I #[H G 0] 24 (0,0))/\AB c.heap.size c W/\b<=W.heap.size
def wl(a:At)(l:Ab)(r1 r2:Nat)(c:Code){L:Nat}(b:List (VG L))(W:At):Prop:=
 c=.ret/\(¬ ∃ O,FrmL O/\Fl O=l)/\W.heap[r1]? =Y (I #[Aw Z 0 0] 116 (0,0))/\W.heap[r2]? =Y (I #[H G 3] 24 (0,0))/\AB a.heap.size a W
def Eo{W b:At}{row:Option Nat}{k:Nat}{o:Obj}(d:W.grownBy b row)(c:W.heap[k]? =Y o)(a:∀ r,row=Y r->r≠k):b.heap[k]? =Y o:=
 (d.block k (Au.1 c).1 (fun e=>a k e.symm rfl)).trans c
def VQ{W c:At}{row:Option Nat}{B:Nat}{T:Cn}{v:AA}{O:List (Int × ByteArray)}(h:ER W B T v O)(l:W.grownBy c row)(n:∀ r,row=Y r->∃ o:Obj,W.heap[r]? =Y o/\o.isCells=AN):ER c B T v O:=by
 refine⟨h.1,?_⟩;rcases h.2 with h| ⟨g,a,b,p,i,d,r⟩
 . exact A4 h
 . refine A8 ⟨g,a,b,p,i,Eo l d (fun k e m=>?_),r⟩
   obtain⟨o,f,j⟩:=n k e;rw[m,d] at f;cases f
   cases j
def oS{n:At}{l:Ab}{h m r1 r2:Nat}(L:Nat)(o:n.heap.size<=h)(t:m<h)(u:r1<h)(w:r2<h):OwnFrom h (wF n l h m r1 r2 (L:=L)):=by
 rintro s W q p ⟨⟨v,E,a,b,c⟩,d,e,f,g⟩ i j;exact⟨⟨v,E,Eo i a (fun r e=>by have:=(j r e).1;omega),b,VQ c i fun r e=>(j r e).2⟩,Eo i d (fun r e=>by have:=(j r e).1;omega),Eo i e (fun r e=>by have:=(j r e).1;omega),f.grown i f.size (fun k e=>AU o (j k e).1),AU g i.size⟩
def oY{j:At}{l:Ab}{g r1 r2:Nat}(L:Nat)(m:j.heap.size<=g)(p:r1<g)(q:r2<g)(c:Code):OwnFrom g (wl j l r1 r2 c (L:=L)):=by
 rintro s W o n ⟨a,b,d,e,f⟩ h i;exact⟨a,b,Eo h d (fun r e=>by have:=(i r e).1;omega),Eo h e (fun r e=>by have:=(i r e).1;omega),f.grown h f.size (fun k e=>AU m (i k e).1)⟩
def JP{W a:At}(h:AB W.heap.size W a):KeepsOthers W a:=⟨h.size,fun k o b _=>(h.block k (Au.1 b).1).trans b⟩
def im(w:At)(a b c d l:Array AA)(f g h i o:Cn){W:At}(m:W=((((w.alloc (I a f)).alloc (I b g)).alloc (I c h)).alloc (I d i)).alloc (I l o)):
 W.heap[w.heap.size]? =Y (I a f (0,0))/\W.heap[w.heap.size+1]? =Y (I b g (0,0))/\W.heap[w.heap.size+1+1]? =Y (I c h (0,0))/\W.heap[w.heap.size+1+1+1]? =Y (I d i (0,0))/\W.heap[w.heap.size+1+1+1+1]? =Y (I l o (0,0))/\W.heap.size=w.heap.size+1+1+1+1+1/\AB w.heap.size w W:=by
 have G:=AC w (I a f);have E:=AF w (I a f);have n:(w.alloc (I a f)).heap.size=w.heap.size+1:=At.size_alloc _ _;generalize w.alloc (I a f)=p at G E n m;have z:=AC p (I b g);have F:=AF p (I b g);have t:(p.alloc (I b g)).heap.size=p.heap.size+1:=At.size_alloc _ _;generalize p.alloc (I b g)=q at z F t m;have A:=AC q (I c h);have v:=AF q (I c h);have D:(q.alloc (I c h)).heap.size=q.heap.size+1:=At.size_alloc _ _;generalize q.alloc (I c h)=r at A v D m;have B:=AC r (I d i);have s:=AF r (I d i);have H:(r.alloc (I d i)).heap.size=r.heap.size+1:=At.size_alloc _ _;generalize r.alloc (I d i)=u at B s H m;have C:=AC u (I l o);have j:=AF u (I l o);have M:(u.alloc (I l o)).heap.size=u.heap.size+1:=At.size_alloc _ _;rw[<- m] at C j M;rw[H,D,t,n] at C;rw[D,t,n] at B;rw[t,n] at A;rw[n] at z;have x:=F.trans (v.mono Aa);have y:=x.trans (s.mono Aa);have k:=y.trans (j.mono Aa);have J:=v.trans (s.mono Aa);have K:=J.trans (j.mono Aa);have L:=s.trans (j.mono Aa);exact⟨(k.block _ Aa).trans G,(K.block _ Aa).trans z,(L.block _ Aa).trans A,(j.block _ Aa).trans B,C,Aa,E.trans (k.mono Aa)⟩
def nN{w:At}{b off n c d:Nat}{l:Ab}(h:BSl w (Aw (Y ⟨b,off,Z⟩) n c) l)(g:l.length<=d):BSl w (Aw (Y ⟨b,off,Z⟩) n d) l:=by
 refine⟨h.1,?_⟩;rcases h.2 with⟨e,_⟩| ⟨a,f,e,j,i⟩
 . cases e
 . refine A8 ⟨a,d,?_,g,i⟩
   have:=Be e;rw[this.1,this.2.1]
def qK{l:Ab}{j:Nat}(h:∀ O,¬ GoodB l j O):¬ ∃ O,FrmL O/\Fl O=l:=fun⟨O,a,b⟩=>h _ (mM a b j)
def LN{fn:Func}{p u:Tmp}(h:fn.results=#[.cell p 116,.cell u 24])(tmps:Array AA)(w:At)(g k:Nat)(v x:AA)(T U:Cn)(hp:tmps.getD p undef=Ax (Y ⟨g,0,Z⟩))(hu:tmps.getD u undef=Ax (Y ⟨k,0,Z⟩))
 (c:w.heap[g]? =Y (I #[v] T (0,0))) (d:w.heap[k]? =Y (I #[x] U (0,0))):(results fn tmps).run Aq w=.ok (AT #[v,x]) w:=by
 have m:w.cell? ⟨g,0,Z⟩=Y v:=by rw[AD _ _ _ _ _ _ c];rfl
 have n:w.cell? ⟨k,0,Z⟩=Y x:=by rw[AD _ _ _ _ _ _ d];rfl
 have b:(results fn tmps).run Aq w=
  ((asAddr (tmps.getD p undef)).run Aq w).andThen fun a f=>((loadVar 116 a).run Aq f).andThen fun v i=>((asAddr (tmps.getD u undef)).run Aq i).andThen fun a j=>((loadVar 24 a).run Aq j).andThen fun y l=>.ok (AT #[v,y]) l:=by
  simp only[results,h];simp[Result.andThen]
 rw[b,hp,hu];simp only[asAddr,Sem.run_pure,Result.andThen_ok]
 go_simp
def Cb{W:At}{b:Nat}{v:AA}{T:Cn}(h:W.heap[b]? =Y (I #[v] T (0,0))):W.cell? ⟨b,0,Z⟩=Y v:=by rw[AD _ _ _ _ _ _ h];rfl
def C4{W:At}{b:Nat}{v:AA}{T:Cn}(h:W.heap[b]? =Y (I #[v] T (0,0))):W.frozen? ⟨b,0,Z⟩=AN:=by simp[At.frozen?,h]
def DR{W:At}{b:Nat}{v v':AA}{T:Cn}(h:W.heap[b]? =Y (I #[v] T (0,0))):(W.setCell ⟨b,0,Z⟩ v').heap[b]? =Y (I #[v'] T (0,0)):=by
 rw[Bk W b 0 _ _ v' h];rfl
def RV{w W a:At}{l:Ab}{q:Nat}{v:AA}(hi:W.heap[q+1+1]? =Y (I #[v] 116 (0,0))/\W.heap[q]? =Y (I #[Aw Z 0 0] 116 (0,0))/\W.heap[q+1]? =Y (I #[H G 0] 24 (0,0))/\AB w.heap.size w W)(hb:AB W.heap.size W a)(g:¬ ∃ O,FrmL O/\Fl O=l)(m:q=w.heap.size){L:Nat}{b:List (VG L)}:
 KeepsOthers W ((a.setCell ⟨q,0,Z⟩ (Aw Z 0 0)).setCell ⟨q+1,0,Z⟩ (H G 3))/\wl w l q (q+1) .ret b ((a.setCell ⟨q,0,Z⟩ (Aw Z 0 0)).setCell ⟨q+1,0,Z⟩ (H G 3)):=by
 obtain⟨_,c,d,f⟩:=hi;have j:=(hb.block _ (Au.1 c).1).trans c;have k:=(hb.block _ (Au.1 d).1).trans d;have h:(a.setCell ⟨q,0,Z⟩ (Aw Z 0 0)).heap[q]? =Y (I #[Aw Z 0 0] 116 (0,0)):=DR j;have i:(a.setCell ⟨q,0,Z⟩ (Aw Z 0 0)).heap[q+1]? =Y (I #[H G 0] 24 (0,0)):=(AZ a ⟨q,0,Z⟩ (q+1) _ (by show q+1≠q;omega)).trans k;refine⟨((JP hb).trans (KeepsOthers.setCell _ _ _)).trans (KeepsOthers.setCell _ _ _),rfl,g,(AZ _ ⟨q+1,0,Z⟩ q _ (by show q≠q+1;omega)).trans h,DR i,?_⟩;exact(f.trans (((hb.mono f.size).setCell (p:=⟨q,0,Z⟩) (by show w.heap.size<=q;omega) _).setCell (p:=⟨q+1,0,Z⟩) (by show w.heap.size<=q+1;omega) _))
attribute [local go_sem] BK.semAt_some
def Ri{w:At}{v:AA}{l:Ab}(hs:BSl w v l)(hl:l.length<=100000)(NU:l.length%16=0):AH Aq 97 #[v] w (gV l w):=by
 obtain⟨ao,N,rfl,CD⟩:=hs.shape;obtain⟨vb,vo,vI⟩:∃ vb vo,0<l.length->ao=Y ⟨vb,vo,Z⟩/\vb<w.heap.size:=by
  by_cases A:0<l.length
  . obtain⟨b,g6,c,e,_,F⟩:=hs.open' A
    exact⟨b,g6,fun _=>⟨(Be e).1,F⟩⟩
  . exact⟨0,0,fun h=>absurd h A⟩
 obtain⟨L,hL⟩:=nm l.length;have e1:(L:Int).tmod 16=0:=by rw[DW Aa];omega
 have e2:(L:Int)%16=0:=Aa;obtain⟨q,hq⟩:=nm w.heap.size;have vJ:L<=N:=Aa;have f5:L<=1000000:=Aa;have e4:Hid (0<L->ao=Y ⟨vb,vo,Z⟩):=wN fun h=>(vI Aa).1
 have b3:Hid (∀ W,AB w.heap.size w W->∀ j t o,256*j<L->t=min 256 (L-256*j)->o=vo+256*j->BSl W (Aw (Y ⟨vb,o,Z⟩) t t) (El l j)):=wN fun W F j t o hj ht U=>by
  obtain⟨rfl,_⟩:=vI Aa;have T:=(hs.below F).mid (256*j) t Aa;rw[U];have e:(l.drop (256*j)).take t=El l j:=by
   unfold El;rw[ht];by_cases c:L-256*j<=256
   . rw[A2 (by rw[By];omega),A2 (by rw[By];omega)]
   . rw[show min 256 (L-256*j)=256 from Aa]
  rw[e] at T;exact nN T (by rw[I3];omega)
 have b1:=wN hL;have e3:=wN NU;rw[<- hL];clear hs hl NU CD vI hL;refine(callsIn_wide (n:=9)).1 ?_;refine callsIn_of_wp_marks func97 rfl trivial ?_ rfl;simp only[ntmps97,List.size_toArray,BJ,List.length_nil,Nat.reduceAdd,Nat.reduceSub,Array.replicate_succ,Array.replicate_zero,List.push_toArray,List.append_toArray,List.nil_append,List.cons_append]
 gi_wp2_with (refine⟨trivial,?_⟩;gi_at_call 136;refine(callsIn_wide.2 (bU ao L N _)).mono ?_;rintro e J ⟨rfl,b7⟩)
 rw[<- b7];obtain⟨g1,g2,g3,g4,g5,gs,gb⟩:=im w _ _ _ _ _ _ _ _ _ _ b7;rw[<- hq] at g1 g2 g3 g4 g5 gs |-
 have g8:=wN g4;have g9:=wN g5;have d:=wN gs;have e8:=wN gb;have HQ:=wN hq;have mf:wF w l J.heap.size (q+1+1) q (q+1) (L:=L) [] J:=⟨⟨_,[],g3,PartsD.nil l,Zh _ _ _⟩,g1,g2,gb,AE _⟩;clear b7 g1 g2 g3 hq
 refine wpIn_rangeFunc_ownF rfl Af (gf:=176) (lb:=#[Ax (Y ⟨q+1+1+1,0,Z⟩),Ax (Y ⟨q+1+1+1+1,0,Z⟩)]) rfl trivial (enters_of func176 Ac rfl)
  (Wi (n:=8) Af e4.out vJ f5 (w:=J) (sB:=q+1+1+1) (nB:=q+1+1+1+1) Aa Aa (Cb g4) (Cb g5)) (fun h k=>⟨k.1.trans h.1,k.2.trans h.2⟩)
  (fun W l' o o' i6 _ _ _=>⟨At.putObj_heap_other Aa,At.putObj_heap_other Aa⟩) (AP _ _) (fun _=>rfl)
  (fun z W=>wF w l J.heap.size (q+1+1) q (q+1) z W) (fun c z W=>wl w l q (q+1) c z W)
  ?hI ?hIx mf (fun x=>{ tmps:=#[Aw ao L N,undef,Ax (Y ⟨q,0,Z⟩),Ax (Y ⟨q+1,0,Z⟩),Ax (Y ⟨q+1+1,0,Z⟩),Aw (Y ⟨vb,vo+256*x.1,Z⟩) (min 256 (L-256*x.1)) (min 256 (L-256*x.1)),undef,undef,undef,Aw ao L N,H G L,H G 0,AY AN,Aw ao L N,.func (.func 176) #[] #[Ax (Y ⟨q+1+1+1,0,Z⟩),Ax (Y ⟨q+1+1+1+1,0,Z⟩)],Aw (Y ⟨vb,vo+256*x.1,Z⟩) (min 256 (L-256*x.1)) (min 256 (L-256*x.1)),undef,undef,undef,undef,undef,undef,undef,undef,undef,undef,undef,undef,undef,undef,undef,undef,undef,undef,undef,undef,undef,undef,undef],defers:=[] }) ?assign ?body ?done ?stop
 case hI=>exact oS L gb.size Aa Aa Aa
 case hIx=>exact fun c=>oY L gb.size Aa Aa c
 case assign=>
  intro l' x W K hK;clear gs;unfold oK
  gi_wp2
  exact hK
 case body=>
  rintro l' z ⟨j,hj⟩ W ⟨⟨v,E,ha,F,hc⟩,hd,he,hf,tz⟩ d5;have d2:=wN tz;clear tz;obtain⟨t,ht⟩:=nm (min 256 (L-256*j));obtain⟨o,U⟩:=nm (vo+256*j);simp only[];rw[<- ht,<- U];have d6:=b3.out W hf j t o hj ht U;have HT:Hid (t=(El l j).length):=wN (by rw[I3,ht,b1.out]);have a7:Hid ((El l j).length%16=0):=wN (by have:=b1.out;have:=e3.out;rw[I3];omega);have e6:Hid (E.length<=1000000):=wN (by
   have T:=E8 F.1;have Q:=BF List.length F.2;rw[List.length_flatMap] at Q;have h3:((z.map (·.1)).map fun a=>(El l a).length).sum<=z.length*256:=by
    have:∀ xs:List Nat,(xs.map fun a=>(El l a).length).sum<=xs.length*256:=fun xs=>by
     induction xs with
     |nil=>simp
     |cons x xs ih=>rw[DT,List.sum_cons,BJ,I3];omega
    have:=this (z.map (·.1))
    rwa [Bn] at this
   omega)
  obtain⟨f,B,rfl⟩:=(ER.sl hc).shape;have bj:t<=256:=Aa;have g7:16<=t:=by have:=HT.out;have:=a7.out;omega
  have h5:=wN ht;have HJ:=wN hj;clear ht U d5;refine wpIn_block ?_;refine wpIn_seq_k fun K6 h8=>?_
  refine Ho rfl (by rintro⟨_,_,h⟩;exact h) ?_;refine CT _ rfl _ _ rfl 256 256 rfl rfl rfl Af ?_;have a3:=AF W (I (AW 256 (H .u8 0)) 5);have ZL:=AC W (I (AW 256 (H .u8 0)) 5);obtain⟨w6,d9⟩:=nm (W.alloc (I (AW 256 (H .u8 0)) 5));rw[<- d9] at a3 ZL |-
  obtain⟨gB,W8⟩:=nm W.heap.size;rw[<- W8] at ZL |-
  have e9:=wN W8;have e5:=wN a3;have C:=wN (d6.below a3);have b2:Hid (w6.heap[gB]? =Y (I (AI 256 (H .u8 0)).toArray 5 (0,0))):=wN (by rw[List.toArray_replicate];exact ZL);have M:Hid (0<((El l j).map (H .u8)).length->∃ ad,Y (⟨vb,o,Z⟩:Addr)=Y ad/\∀ i v,((El l j).map (H .u8))[i]? =Y v->w6.cell? (ad.add i)=Y v):=wN fun A=>by
   have:=Fm C.out (fun _ _=>rfl) t;rw[A2 (by have:=HT.out;omega)] at this;exact this A
  clear d9 W8 ZL a3 d6;go_wp2;refine wpIn_seq_k fun K7 h9=>?_
  refine Ho rfl (by rintro⟨_,_,h⟩;exact h) ?_;go_wp2_with (refine Dc rfl _ _ 77 77 rfl 5 underlying77 Ac _ _ 256 256 t t rfl rfl gB 0 (AI 256 (H .u8 0)) 5 b2.out ((El l j).map (H .u8)) t (by rw[Bn];exact HT.out.symm) (FL bj).symm (fun A=>⟨rfl,M.out A⟩) (by rw[Bn,Bg,<- HT.out];omega) (fun x hx=>by obtain⟨y,_,rfl⟩:=Ce.1 hx;rfl) ?_;intro w7 a1 e0;have f0:=wN e0;clear e0)
  have a0:Hid (AB W.heap.size W w7):=wN (e5.out.trans (f0.out.below (Nat.le_of_eq e9.out.symm)));have a9:Hid (BSl w7 (Aw (Y ⟨gB,0,Z⟩) 256 256) (WE l j)):=wN (by
   have f8:Fv (WE l j):=DQ (CV (Da C.out.1)) (Db _);refine⟨f8,A8 ⟨_,256,by rw[My],by rw[My];exact AE _,fun i hi=>⟨(Au.1 a1.out).1,rfl,?_⟩⟩⟩;rw[My] at hi;rw[BC,AD _ _ _ _ _ _ a1.out];have e:splice (AI 256 (H .u8 0)) 0 ((El l j).map (H .u8))=(WE l j).map (H .u8):=by
    unfold splice WE;rw[List.take_zero,List.nil_append,BC,List.drop_replicate,Cw,List.map_replicate,Bn]
   rw[e];simp[My,hi])
  have KD:=wN (jR a9.out);refine wpIn_seq_k fun K8 i0=>?_
  refine Ho rfl (by rintro⟨_,_,h⟩;exact h) ?_;have a6:Hid ((∀ O,¬ GoodB l j O)->¬ ∃ O,FrmL O/\Fl O=l):=wN qK;have HI:Hid (W.heap[q+1+1]? =Y (I #[Aw f E.length B] 116 (0,0))/\W.heap[q]? =Y (I #[Aw Z 0 0] 116 (0,0))/\W.heap[q+1]? =Y (I #[H G 0] 24 (0,0))/\AB w.heap.size w W):=wN ⟨ha,hd,he,hf⟩;have HE:=wN F;have HO:=wN hc;clear ha hd he hf F hc;obtain⟨S,qF⟩:=nm (t / 16);have d0:Hid (S=(El l j).length / 16):=wN (by rw[qF,HT.out]);have d1:Hid (1<=S/\S<=16):=wN Aa;have Q2:Hid ((t:Int) / 16=(S:Int)):=wN Aa;clear qF;go_wp2_with (go_at_call 137;(with_reducible refine KD.out.mono ?_);rintro ee w8 (⟨Ob,vK,u,rfl,b6,R⟩| ⟨C3,rfl,R⟩);(obtain⟨uo,uc,rfl⟩:=b6.shape))
  . have s:Hid (AB W.heap.size W w8):=wN (a0.out.trans (R.mono a0.out.size))
    have c8:=wN b6;have b9:=wN vK;clear R b6 vK KD a9 a1 b2 M C b3;obtain⟨m,hm⟩:=nm Ob.length;rw[<- hm] at c8 |-
    have HM:=wN hm;clear hm;obtain⟨i1,i2,i3,i4⟩:=HI.out;have l1:(W.heap[q+1+1]? =Y (I #[Aw f E.length B] 116 (0,0))->w8.heap[q+1+1]? =Y (I #[Aw f E.length B] 116 (0,0))):=fun h=>(s.out.block _ (Au.1 h).1).trans h
    have k1:=l1 i1;have k2:=(s.out.block _ (Au.1 i2).1).trans i2;have X:=(s.out.block _ (Au.1 i3).1).trans i3;have c0:=wN k1;have c5:=wN k2;have c6:=wN X;clear i1 i2 i3 i4 l1 k1 k2 X;refine wpIn_seq_k fun K9 b5=>?_
    have c7:=wN b5;clear b5;by_cases MW:m=S
    . have f9:((m:Int) != (t:Int) / 16)=AN:=by rw[bne_eq_false_iff_eq,Q2.out];omega
      have b0:Hid (GoodB l j Ob):=wN ⟨b9.out,by rw[<- HM.out,MW,d0.out]⟩;have i7:1<=m:=(by have:=d1.out;omega);have i8:m<=16:=(by have:=d1.out;omega);have h4:=wN MW;clear MW;refine wpIn_seq_k fun Kc d3=>?_
      refine Ho rfl (by rintro⟨_,_,h⟩;exact h) ?_;go_wp2
      gi_wp2
      refine c7.out _ _ ?_;clear c7;refine Ho rfl (by rintro⟨_,_,h⟩;exact h) ?_;have vM:J.heap.size<=w8.heap.size:=AU d2.out s.out.size;have b8:Hid (ER w8 J.heap.size 75 (Aw f E.length B) E):=wN (HO.out.below s.out);have c1:=Cb c0.out
      go_wp2_with (refine LO _ rfl 116 75 _ _ rfl underlying116 pV J.heap.size (Aw f E.length B) (Aw uo m uc) E Ob rfl b8.out e6.out (by rw[<- HM.out];omega) (by rw[<- HM.out];omega) rfl c8.out vM ?_
                   intro v9 w9 d7 a4 g0;obtain⟨a2,c9,d8⟩:=d7.sl.shape;rw[AO] at d8;subst d8;have k9:w9.heap[q+1+1]? =Y (I #[Aw f E.length B] 116 (0,0)):=(a4.block _ (by have:=d.out;omega)).trans c0.out;have h6:=Cb k9;have h7:=C4 k9)
      have f7:AB q W (w9.setCell ⟨q+1+1,0,Z⟩ (Aw a2 (E.length+Ob.length) c9)):=by
       have hx:q<=W.heap.size:=(by rw[HQ.out];exact HI.out.2.2.2.size);exact((s.out.mono hx).trans (a4.mono (by have:=d.out;omega))).setCell (p:=⟨q+1+1,0,Z⟩) (by show q<=q+1+1;omega) _
      have U:∀ b,b≠q+1+1->b<J.heap.size->b<W.heap.size->(w9.setCell ⟨q+1+1,0,Z⟩ (Aw a2 (E.length+Ob.length) c9)).heap[b]? =W.heap[b]? :=fun b T Q h3=>
       (AZ w9 ⟨q+1+1,0,Z⟩ b _ T).trans ((a4.block b Q).trans (s.out.block b h3))
      have tz:=d2.out;have d4:w8.heap.size<=(w9.setCell ⟨q+1+1,0,Z⟩ (Aw a2 (E.length+Ob.length) c9)).heap.size:=(by rw[At.size_setCell];exact a4.size);refine⟨((JP s.out).trans g0).trans (KeepsOthers.setCell _ _ _),⟨U (q+1+1+1) Aa (by have:=d.out;omega) (by have:=d.out;omega),U (q+1+1+1+1) Aa (by have:=d.out;omega) (by have:=d.out;omega)⟩,⟨_,E ++ Ob,DR k9,?_,?_⟩,?_,?_,?_,?_⟩
      . rw[Cw]
        exact HE.out.more b0.out a7.out
      . have A:ER w9 J.heap.size 75 (Aw a2 (E.length+Ob.length) c9) (E ++ Ob):=d7
        refine⟨A.1,?_⟩;rcases A.2 with A| ⟨g,P,b4,hv,W8,hh,r⟩
        . exact A4 A
        . exact A8 ⟨g,P,b4,hv,W8,(AZ w9 ⟨q+1+1,0,Z⟩ g _ (by show g≠q+1+1;have:=d.out;omega)).trans hh,r⟩
      . rw[U q Aa (by have:=d.out;omega) (by have:=d.out;omega)];exact HI.out.2.1
      . rw[U (q+1) Aa (by have:=d.out;omega) (by have:=d.out;omega)];exact HI.out.2.2.1
      . have:=HI.out.2.2.2
        rw[<- HQ.out] at this |-
        exact this.trans f7
      . exact AU vM d4
    . have f9:((m:Int) != (t:Int) / 16)=AQ:=by rw[bne_iff_ne,Q2.out];omega
      have a8:Hid (¬ ∃ O,FrmL O/\Fl O=l):=wN (a6.out fun O hO=>by
       have T:=fH hO.1 b9.out;have Q:=hO.2;rw[T] at Q;exact MW (by rw[HM.out,Q,d0.out]))
      have c2:=Cb c5.out;have c3:=Cb c6.out;have f2:=C4 c5.out;have f3:=C4 c6.out;clear MW;refine wpIn_seq_k fun Kc d3=>?_
      refine Ho rfl (by rintro⟨_,_,h⟩;exact h) ?_;go_wp2
      gi_wp2
      exact RV HI.out s.out a8.out HQ.out
  . have s:Hid (AB W.heap.size W w8):=wN (a0.out.trans (R.mono a0.out.size))
    have a8:Hid (¬ ∃ O,FrmL O/\Fl O=l):=wN (a6.out fun O hO=>C3 O hO.1);clear R C3 KD a9 a1 b2 M C b3;obtain⟨i1,i2,i3,i4⟩:=HI.out;have k2:=(s.out.block _ (Au.1 i2).1).trans i2;have X:=(s.out.block _ (Au.1 i3).1).trans i3;have c2:=Cb k2;have c3:=Cb X;have f2:=C4 k2;have f3:=C4 X;clear i1 i2 i3 i4 k2 X;refine wpIn_seq_k fun K9 b5=>?_
    refine wpIn_seq_k fun Kc d3=>?_
    refine Ho rfl (by rintro⟨_,_,h⟩;exact h) ?_;go_wp2
    gi_wp2
    exact RV HI.out s.out a8.out HQ.out
 case done=>
  rintro D xs W hD hS ⟨⟨v,E,ha,F,hc⟩,hd,he,hf,_⟩ hK;obtain⟨f,B,rfl⟩:=(ER.sl hc).shape;have c1:=Cb ha;have c2:=Cb hd;have c3:=Cb he;have f2:=C4 hd;have f3:=C4 he;have T:(W.setCell ⟨q,0,Z⟩ (Aw f E.length B)).heap[q]? =Y (I #[Aw f E.length B] 116 (0,0)):=DR hd;have Q:(W.setCell ⟨q,0,Z⟩ (Aw f E.length B)).heap[q+1]? =Y (I #[H G 0] 24 (0,0)):=(AZ W ⟨q,0,Z⟩ (q+1) _ (by show q+1≠q;omega)).trans he;have c4:=Cb Q;have f4:=C4 Q;have f1:q+1<D:=by have:=d.out;omega
  obtain⟨V,hV⟩:=nm ((W.setCell ⟨q,0,Z⟩ (Aw f E.length B)).setCell ⟨q+1,0,Z⟩ (H G 0));have k1:V.heap[q]? =Y (I #[Aw f E.length B] 116 (0,0)):=by rw[hV];exact(AZ _ ⟨q+1,0,Z⟩ q _ (by show q≠q+1;omega)).trans T
  have k2:V.heap[q+1]? =Y (I #[H G 0] 24 (0,0)):=by rw[hV];exact DR Q
  have X:V.heap[D]? =Y (.deferred (Y [])):=by
   rw[hV];exact(AZ _ ⟨q+1,0,Z⟩ D _ (by show D≠q+1;omega)).trans ((AZ W ⟨q,0,Z⟩ D _ (by show D≠q;omega)).trans hK)
  have f6:AB q w V:=by
   rw[hV];rw[HQ.out];exact(hf.setCell (p:=⟨w.heap.size,0,Z⟩) (AE _) _).setCell (p:=⟨w.heap.size+1,0,Z⟩) (by show w.heap.size<=w.heap.size+1;omega) _
  have e7:Hid (ER V w.heap.size 75 (Aw f E.length B) E):=wN (by
   have A:ER W J.heap.size 75 (Aw f E.length B) E:=hc;have hg:∀ b,J.heap.size<=b->V.heap[b]? =W.heap[b]? :=fun b i5=>by
    have:=d.out;rw[hV];exact(AZ _ ⟨q+1,0,Z⟩ b _ (by show b≠q+1;omega)).trans (AZ W ⟨q,0,Z⟩ b _ (by show b≠q;omega))
   refine⟨A.1,?_⟩;rcases A.2 with A| ⟨g,P,b4,hv,W8,hh,r⟩
   . exact A4 A
   . exact A8 ⟨g,P,b4,hv,AU e8.out.size W8,(hg g W8).trans hh,r⟩)
  have a5:Hid (FrmL E/\Fl E=l):=wN (by
   rw[hS] at F;exact F.all (by rw[<- b1.out];omega))
  clear gs ha F hc hd he hf hS T Q
  gi_wp2
  rw[<- hV];refine⟨Ai,A4 ⟨_,_,rfl,run_takeDeferred X,?_⟩⟩;have m1:(V.putObj D (.deferred Z)).heap[q]? =Y (I #[Aw f E.length B] 116 (0,0)):=(At.putObj_heap_other Aa).trans k1;have m2:(V.putObj D (.deferred Z)).heap[q+1]? =Y (I #[H G 0] 24 (0,0)):=(At.putObj_heap_other Aa).trans k2;refine⟨_,LN rfl _ _ q (q+1) _ _ _ _ rfl rfl m1 m2,A4 ⟨E,a5.out.1,a5.out.2,_,rfl,?_,?_⟩⟩
  . exact VQ e7.out (grownBy_putObj' V D _) (fun r e=>by cases e;exact⟨_,X,rfl⟩)
  . rw[<- HQ.out]
    exact f6.trans (belowK_b (w:=J) (by have:=d.out;omega) V D _ _ hD X rfl rfl)
 case stop=>
  rintro D c z W hD _ ⟨rfl,F,hd,he,hf⟩ hK;have f1:q+1<D:=by have:=d.out;omega
  clear gs
  gi_wp2
  refine⟨Ai,A4 ⟨_,_,rfl,run_takeDeferred hK,?_⟩⟩;have m1:(W.putObj D (.deferred Z)).heap[q]? =Y (I #[Aw Z 0 0] 116 (0,0)):=(At.putObj_heap_other Aa).trans hd;have m2:(W.putObj D (.deferred Z)).heap[q+1]? =Y (I #[H G 3] 24 (0,0)):=(At.putObj_heap_other Aa).trans he;refine⟨_,LN rfl _ _ q (q+1) _ _ _ _ rfl rfl m1 m2,A8 ⟨F,rfl,?_⟩⟩;rw[<- HQ.out] at hf |-
  exact hf.trans (belowK_b (w:=J) (by have:=d.out;omega) W D _ _ hD hK rfl rfl)
def TT{w:At}{v:AA}{l:Ab}(z:BSl w v l)(E:l.length<=100000)(x:¬ l.length%16=0):AH Aq 97 #[v] w (gV l w):=by
 obtain⟨N,D,rfl,A⟩:=z.shape;obtain⟨L,y⟩:=nm l.length;obtain⟨r,F⟩:=nm (L%16);have R:(L:Int).tmod 16=(r:Int):=by rw[DW Aa];omega
 have S:(L:Int)%16=(r:Int):=Aa;have T:0<(r:Int):=Aa;have u:Hid (L<=100000):=wN Aa;have q:Hid (¬ ∃ O,FrmL O/\Fl O=l):=wN fun⟨O,a,b⟩=>x (by rw[<- b,E8 a];omega)
 rw[<- y];have M:L<=100000:=u.out;have d:=AF w (I #[Aw Z 0 0] 116);have k:=AC w (I #[Aw Z 0 0] 116);have s:(w.alloc (I #[Aw Z 0 0] 116)).heap.size=w.heap.size+1:=At.size_alloc _ _;obtain⟨t,f⟩:=nm (w.alloc (I #[Aw Z 0 0] 116));rw[<- f] at d k s;have c:=AF t (I #[H G 0] 24);have h:=AC t (I #[H G 0] 24);obtain⟨i,g⟩:=nm (t.alloc (I #[H G 0] 24));rw[<- g] at c h;rw[s] at h;have j:i.heap[w.heap.size]? =Y (I #[Aw Z 0 0] 116 (0,0)):=(c.block _ Aa).trans k;have B:Hid (AB w.heap.size w i):=wN (d.trans (c.mono Aa));have C:Hid (((w.alloc (I #[Aw Z 0 0] 116)).alloc (I #[H G 0] 24))=i):=wN (by rw[<- f,<- g]);have P:=Cb j;have Q:=Cb h;have U:=C4 j;have V:=C4 h;have m:=wN j;have o:=wN h;clear z E x y F f g d c k h s j A u;refine(callsIn_wide (n:=9)).1 ?_;refine callsIn_of_wp_marks func97 rfl trivial ?_ rfl;simp only[ntmps97,List.size_toArray,BJ,List.length_nil,Nat.reduceAdd,Nat.reduceSub,Array.replicate_succ,Array.replicate_zero,List.push_toArray,List.append_toArray,List.nil_append,List.cons_append];refine wpIn_wide.2 ?_;go_upto_region 1 with(fail)
 rw[C.out];go_wp2;have J:((i.setCell ⟨w.heap.size,0,Z⟩ (Aw Z 0 0)).setCell ⟨w.heap.size+1,0,Z⟩ (H G 3)).heap[w.heap.size]? =Y (I #[Aw Z 0 0] 116 (0,0)):=(AZ _ ⟨w.heap.size+1,0,Z⟩ _ _ (by show w.heap.size≠w.heap.size+1;omega)).trans (DR m.out);have K:((i.setCell ⟨w.heap.size,0,Z⟩ (Aw Z 0 0)).setCell ⟨w.heap.size+1,0,Z⟩ (H G 3)).heap[w.heap.size+1]? =Y (I #[H G 3] 24 (0,0)):=DR ((AZ _ ⟨w.heap.size,0,Z⟩ _ _ (by show w.heap.size+1≠w.heap.size;omega)).trans o.out);refine⟨_,LN rfl _ _ w.heap.size (w.heap.size+1) _ _ _ _ rfl rfl J K,A8 ⟨q.out,rfl,?_⟩⟩;exact(B.out.setCell (p:=⟨w.heap.size,0,Z⟩) (AE _) _).setCell (p:=⟨w.heap.size+1,0,Z⟩) (by show w.heap.size<=w.heap.size+1;omega) _
def WA{w:At}{v:AA}{l:Ab}(c:BSl w v l)(b:l.length<=100000):AH Aq 97 #[v] w (gV l w):=by
 by_cases a:l.length%16=0
 . exact Ri c b a
 . exact TT c b a
def ER.more{w:At}{B B':Nat}{T:Cn}{v:AA}{O:List Hg}(h:ER w B T v O)(c:B'<=B):ER w B' T v O:=by
 refine⟨h.1,?_⟩;rcases h.2 with h| ⟨g,a,b,f,d,r⟩
 . exact A4 h
 . exact A8 ⟨g,a,b,f,AU c d,r⟩
def UR(a b:ByteArray):Bool:=a.toList==b.toList
def eqS_iff{a b:ByteArray}:UR a b=AQ ↔ a=b:=by
 unfold UR;rw[beq_iff_eq,Cg,Cg];exact⟨fun h=>ByteArray.ext (Array.ext' h),fun h=>by rw[h]⟩
def DM(l:List Hg)(s:ByteArray):Nat:=l.findIdx fun e=>UR e.2 s
def Gj(l:List Hg)(s:ByteArray):Int:=if DM l s<l.length then (DM l s:Int) else -1
def oU(l:List Hg)(s:ByteArray):DM l s<=l.length:=List.findIdx_le_length
def idxN_none{l:List Hg}{s:ByteArray}:DM l s=l.length ↔ ∀ e∈l,e.2≠s:=by
 unfold DM;rw[List.findIdx_eq_length];constructor
 . intro h e he k
   have:=h e he;rw[eqS_iff.2 k] at this;cases this
 . intro h e he
   cases c:UR e.2 s
   . rfl
   . exact absurd (eqS_iff.1 c) (h e he)
def TP{l:List Hg}{s:ByteArray}{k:Nat}(a:k<l.length)(b:UR (l.getD k default).2 s=AQ)(c:∀ j,j<k->UR (l.getD j default).2 s=AN):Gj l s=(k:Int):=by
 have e:DM l s=k:=by
  unfold DM;rw[List.findIdx_eq a];refine⟨by rw[F7 _ a] at b;exact b,fun j d=>?_⟩;have:=c j d;rw[F7 _ Aa] at this;exact this
 unfold Gj;rw[e,AG a]
def NG{l:List Hg}{s:ByteArray}(b:∀ j,j<l.length->UR (l.getD j default).2 s=AN):Gj l s= -1:=by
 have e:DM l s=l.length:=idxN_none.2 fun e he k=>by
  obtain⟨j,a,rfl⟩:=CC he;have:=b j a;rw[F7 _ a,eqS_iff.2 k] at this;cases this
 unfold Gj;rw[e,AJ (Nat.lt_irrefl _)]
def Vr(x:Hg)(s:ByteArray){bx:Nat}{w:At}(b:w.cell? ⟨bx,0,Z⟩=Y (.string s))(hb:bx<w.heap.size):AH Aq 100 #[BS #[H G x.1,.string x.2],Ax (Y ⟨bx,0,Z⟩)] w fun e w'=>e=Av (AY (UR x.2 s))/\AB w.heap.size w w':=by
 obtain⟨i,t⟩:=x;have d:(w.alloc (I #[H G i,.string t] 75)).cell? ⟨bx,0,Z⟩=Y (.string s):=((AF w _).cell (p:=⟨bx,0,Z⟩) hb).trans b;obtain⟨c,a⟩:=nm (UR t s);have f:(t.toList==s.toList)=c:=a.symm;show AH Aq 100 _ w fun e w'=>e=Av (AY (UR t s))/\_
 rw[<- a];clear a;go_enter func100,ntmps100;go_wp2;go_ret;exact⟨rfl,AF w _⟩
def dv{w:At}{v:AA}{l:List Hg}(I:ESl w v l)(S:l.length<=1000000)(s:ByteArray){bx:Nat}(F:w.cell? ⟨bx,0,Z⟩=Y (.string s))(hb:bx<w.heap.size):
 AH Aq 99 #[v,.func (.func 100) #[] #[Ax (Y ⟨bx,0,Z⟩)]] w fun e w'=>e=Av (H G (Gj l s))/\AB w.heap.size w w':=by
 obtain⟨O,P,rfl,A⟩:=I.open';obtain⟨n,y⟩:=nm l.length
 have u:Hid (∀ (W:At) (k:Nat),AB w.heap.size w W->k<n->∃ b a i t,O=Y ⟨b,a,Z⟩/\W.cell? ⟨b,a+k*2,Z⟩=Y (H G i)/\W.cell? ⟨b,a+k*2+1,Z⟩=Y (.string t)/\t=(l.getD k default).2/\
  AH Aq 100 #[BS #[H G i,.string t],Ax (Y ⟨bx,0,Z⟩)] W fun e w'=>e=Av (AY (UR t s))/\AB w.heap.size w w'):=wN fun W k f R=>by
  obtain⟨b,a,e,c,x⟩:=A Aa;obtain⟨M,N⟩:=x k Aa;refine⟨b,a,_,_,e,(f.cell (p:=⟨b,a+k*2,Z⟩) c).trans M,(f.cell (p:=⟨b,a+k*2+1,Z⟩) c).trans N,rfl,?_⟩;exact(Vr (l.getD k default) s ((f.cell (p:=⟨bx,0,Z⟩) hb).trans F) (AL hb f.size)).mono fun e w' ⟨he,Q⟩=>⟨he,f.trans (Q.mono f.size)⟩
 have C:=wN y;rw[<- y] at S |-
 clear I A F hb y;go_enter func99,ntmps99;go_wp2;go_loopw [5,8] (fun _ z wr=>∃ k:Nat,k<=n/\z=H G k/\Hid (∀ j,j<k->UR (l.getD j default).2 s=AN)/\Hid (AB w.heap.size w wr)) (fun _ z _=>n-(intOf z).toNat)
 case atStart=>exact⟨0,A7 _,rfl,wN fun j o=>absurd o (Bm j),wN (AP _ _)⟩
 case round=>
  obtain⟨k,R,rfl,q,B⟩:=hrel;by_cases c:k<n
  . have X:(k:Int)<(n:Int):=by omega
    obtain⟨b,a,i,t,rfl,U,V,J,E⟩:=u.out wr k B.out c;have m:=wN E;have D:=wN J;have K:=u;clear E J u;cases g:UR t s
    . rw[g] at m
      have L:=wN g;clear g;go_wp2_with (go_at_call 100;(with_reducible refine Ad m.out ?_);rintro T d)
      go_roundw
      case rel=>exact⟨k+1,Aa,by go_num,wN fun j o=>(by
       rcases Nat.lt_or_eq_of_le (Nat.le_of_lt_succ o) with h|h
       . exact q.out j h
       . rw[h,<- D.out];exact L.out),wN d⟩
      case measure=>simp[intOf];omega
    . rw[g] at m
      have r:Hid (Gj l s=(k:Int)):=wN (TP (by have:=C.out;omega) (by rw[<- D.out];exact g) q.out);clear g;go_wp2_with (go_at_call 100;(with_reducible refine Ad m.out ?_);rintro T d)
      go_ret;exact⟨by rw[r.out];rfl,d⟩
  . obtain rfl:k=n:=by omega
    have r:Hid (Gj l s= -1):=wN (NG fun j o=>q.out j (by have:=C.out;omega));go_wp2;go_ret;exact⟨by rw[r.out];rfl,B.out⟩
def QD{w:At}{v:AA}{l:List Hg}(d:ESl w v l)(g:l.length<=1000000)(s:ByteArray):AH Aq 53 #[v,.string s] w fun e w'=>e=Av (H G (Gj l s))/\AB w.heap.size w w':=by
 obtain⟨j,i,rfl⟩:=d.shape;obtain⟨n,h⟩:=nm l.length;have a:=AF w (I #[.string s] 9);have b:=AC w (I #[.string s] 9);have K:=wN (dv (d.below a) g s (bx:=w.heap.size) (by rw[AD _ _ _ _ _ _ b];rfl) (Au.1 b).1);have f:=wN a;rw[<- h] at K |-
 clear d g h a b;go_enter func53,ntmps53;go_wp2_with (go_at_call 99;(with_reducible refine Ad K.out ?_);rintro k c)
 go_ret;exact⟨rfl,f.out.trans (c.mono f.out.size)⟩
section
variable {w:At}{P:Nat->Prop}{d p:AA}{X:XSt}{S:Ab}{N:Ae}{O:Ag}{kk:Nat}{F:Nat->Ab}{bf n sz:Nat}{M:Nat->Option Ab}
def cA(h:Frd w P d p X S N O kk F bf)(ft:Fat X.cur N F n sz M)(q:CE N n=2)(h1:1<=n)(s:n<48):
 AH Aq 51 #[Ax (Y ⟨bf,0,Z⟩),H G n] w (gV (JI M 0 sz) w):=by
 have f:=He (W:=w) h.inv h.fs h.tab h1 s (AP _ _);have y:=h.tab.n.get s;have r:=ft.zs;have lM:=ft.sb;have KR:Hid (∀ V,AB w.heap.size w V->AH Aq 96 #[Ax (Y ⟨bf,0,Z⟩),H G n,H G 0,H G sz] V fun e o=>∃ i c,e=Av (AT #[Aw i sz c,H G 0])/\BSl o (Aw i sz c) (JI M 0 sz)/\AB V.heap.size V o):=wN fun V hV=>by
  refine(R6 (h.low hV) ft h1 s (a:=0) (m:=sz) Aa Aa).mono ?_;rintro e o ⟨v,he,k,hb⟩;rw[show min sz (sz-0)=sz from Aa] at k;obtain⟨i,c,rfl,_⟩:=k.bsl.shape;have l:=k.bsl;rw[FJ] at he l;exact⟨i,c,he,l,hb⟩
 unfold CE at q;unfold num at r;generalize N.getD n []=x at f y q r;obtain⟨kd,ln,A,B,C,E,J,K,L,Q,R,T,U,mp,rfl⟩:=LY y;have Ul:kd=2:=q;have vO:A=(sz:Int):=r;subst Ul;subst vO;have KG:Hid (AH Aq 13 #[Ax (Y ⟨bf,0,Z⟩),H G n] w fun e o=>e=Av (AT #[BS #[H G 2,H G ln,H G sz,H G B,H G C,H G E,H G J,H G K,H G L,H G Q,H G R,H G T,H G U,H G mp],H G 0])/\AB w.heap.size w o):=wN f;have KD:Hid (∀ (V:At) (v:AA),BSl V v (JI M 0 sz)->AH Aq 97 #[v] V (gV (JI M 0 sz) V)):=wN fun V v k=>WA k (by rw[FJ];omega)
 clear f h y q r ft lM;go_enter func51,ntmps51
 go_wp2_with (first
  |(go_at_call 13;refine Ad KG.out ?_;rintro w2 j
    have g:=j.trans ((AF w2 (I #[H G 2,H G ln,H G sz,H G B,H G C,H G E,H G J,H G K,H G L,H G Q,H G R,H G T,H G U,H G mp] 44)).mono j.size))|(go_at_call 96;refine(KR.out _ g).mono ?_;rintro e w4 ⟨i,c,rfl,u,t⟩;have b:=g.trans (t.mono g.size))|(go_at_call 97;refine(KD.out _ _ u).mono ?_;rintro e w6 (⟨D,z,q2,v,rfl,q3,q4⟩| ⟨z,rfl,q4⟩);(obtain⟨uo,uc,rfl⟩:=q3.sl.shape)))
 . go_ret2
   exact A4 ⟨D,z,q2,_,rfl,q3.more b.size,b.trans (q4.mono b.size)⟩
 . go_ret2
   exact A8 ⟨z,rfl,b.trans (q4.mono b.size)⟩
end
structure Nd where
 kd:Nat
 L:List Hg
 tg:Ab
def Nd.sz(x:Nd):Nat:=if x.kd=2 then 16*x.L.length else x.tg.length
def Nd.M(x:Nd):Nat->Option Ab:=wrL (fun _=>Z) 0 x.tg
abbrev Fa:=Nat->Option Nd
structure NodeT (w:At) (B bn bp:Nat) (x:Nd):Prop where
 row:∃ v,w.heap[bn]? =Y (I #[H G x.kd,H G 1,H G x.sz,.map (Y bp),v] 63 (0,0))/\ER w B 86 v x.L
 map:∃ (K:Ab) (g:Int->AA),MpC w bp K g/\(∀ x∈K,0<=x/\x<138)/\(∀ i:Nat,(i:Int)∈K ↔ (x.M i).isSome=AQ)/\∀ (i:Nat) l,x.M i=Y l->g i=.string (B7 l)
 lo:B<=bn/\B<=bp
def Ii(A:Nat->Nat)(T:Fa)(i:Nat):AA:=Ax (if (T i).isSome then Y ⟨A i,0,Z⟩ else Z)
structure TreH (w:At) (B bt:Nat) (T:Fa) (A Q:Nat->Nat):Prop where
 row:∃ lim:Int,w.heap[bt]? =Y (I ((BE 48).map (Ii A T) ++ [H G lim]).toArray 59 (0,0))
 lo:B<=bt
 nd:∀ i x,i<48->T i=Y x->NodeT w B (A i) (Q i) x
 inj:∀ i j,i<48->j<48->(T i).isSome=AQ->(T j).isSome=AQ->i≠j->A i≠A j/\Q i≠Q j
section
variable {w:At}{B bt bn bp:Nat}{T:Fa}{A Q:Nat->Nat}{x:Nd}
def NodeT.lt(h:NodeT w B bn bp x):bn<w.heap.size/\bp<w.heap.size:=by
 obtain⟨v,a,_⟩:=h.row;obtain⟨K,g,b,_⟩:=h.map;exact⟨(Au.1 a).1,b.lt⟩
def NodeT.low{w':At}(h:NodeT w B bn bp x)(hb:AB w.heap.size w w'):NodeT w' B bn bp x:=by
 obtain⟨d,f⟩:=h.lt;obtain⟨v,a,b⟩:=h.row;obtain⟨K,g,c,r⟩:=h.map;exact⟨⟨v,(hb.block _ d).trans a,b.below hb⟩,⟨K,g,c.keep (hb.block _ f),r⟩,h.lo⟩
def TreH.lt(h:TreH w B bt T A Q):bt<w.heap.size:=by
 obtain⟨b,a⟩:=h.row;exact(Au.1 a).1
def TreH.low{w':At}(h:TreH w B bt T A Q)(hb:AB w.heap.size w w'):TreH w' B bt T A Q:=by
 have d:=h.lt;obtain⟨a,b⟩:=h.row;exact⟨⟨a,(hb.block _ d).trans b⟩,h.lo,fun i x c e=>(h.nd i x c e).low hb,h.inj⟩
def TreH.cell(h:TreH w B bt T A Q){i:Nat}(hi:i<48):w.cell? ⟨bt,i,Z⟩=Y (Ii A T i):=by
 obtain⟨a,b⟩:=h.row;have e:((BE 48).map (Ii A T) ++ [H G a])[i]? =Y (Ii A T i):=by
  rw[BT (by rw[Bn,List.length_range];exact hi),List.getElem?_map,List.getElem?_range hi];rfl
 rw[AD _ _ _ _ _ _ b]
 simpa using e
def Ma{i:Nat}(h:T i=Z):Ii A T i=Ax Z:=by unfold Ii;rw[h];rfl
def Gn{i:Nat}(h:T i=Y x):Ii A T i=Ax (Y ⟨A i,0,Z⟩):=by unfold Ii;rw[h];rfl
def NodeT.c0(h:NodeT w B bn bp x):w.cell? ⟨bn,0,Z⟩=Y (H G x.kd):=by
 obtain⟨v,a,_⟩:=h.row;rw[AD _ _ _ _ _ _ a];rfl
def NodeT.c4(h:NodeT w B bn bp x):∃ v,w.cell? ⟨bn,4,Z⟩=Y v/\ER w B 86 v x.L:=by
 obtain⟨v,a,b⟩:=h.row;exact⟨v,by rw[AD _ _ _ _ _ _ a];rfl,b⟩
end
def Ra(T:Fa)(d:Int)(i:Nat):Bool:=match T i with
 |none=>AN
 |some x=>decide (x.kd=2) && x.L.any fun e=>e.1==d
def Tk(T:Fa)(d:Int):Nat:=((BE 48).find? (Ra T d)).getD 1
section
variable {T:Fa}{d:Int}{k:Nat}{x:Nd}
def kg(f:k<48)(a:Ra T d k=AQ)(b:∀ j,j<k->Ra T d j=AN):Tk T d=k:=by
 have:(BE 48).find? (Ra T d)=Y k:=List.find?_range_eq_some.2 ⟨a,Bq.2 f,fun j c=>by rw[b j c];rfl⟩;unfold Tk;rw[this];rfl
def Vt(a:∀ j,j<48->Ra T d j=AN):Tk T d=1:=by
 have:(BE 48).find? (Ra T d)=Z:=List.find?_range_eq_none.2 fun j b=>by rw[a j b];rfl
 unfold Tk;rw[this];rfl
end
abbrev gD:=(Int × ByteArray × Int) × Int
def M0(e:Int):gD:=((0,⟨#[]⟩,0),e)
structure OkT (T:Fa):Prop where
 root:∃ x,T 1=Y x/\x.kd=2
 hi:∀ i x,T i=Y x->1<=i/\i<48
 kd:∀ i x,T i=Y x->x.kd=1\/x.kd=2\/x.kd=3
 ent:∀ i x,T i=Y x->∀ e∈x.L,∃ (n:Nat) (y:Nd),e.1=(n:Int)/\T n=Y y
 len:∀ i x,T i=Y x->x.L.length<=48
 file:∀ i x,T i=Y x->x.kd≠2->x.L=[]
 link:∀ i x,T i=Y x->x.tg.length<=200/\Fv x.tg/\(x.kd=3 ↔ 1<=x.tg.length)
def aF{T:Fa}(h:OkT T)(d:Int):∃ x,T (Tk T d)=Y x/\x.kd=2/\Tk T d<48:=by
 unfold Tk;cases c:(BE 48).find? (Ra T d) with
 |none=>obtain⟨x,a,b⟩:=h.root;exact⟨x,a,b,Af⟩
 |some k=>
  have f:=List.find?_some c;have i:=Bq.1 (List.mem_of_find?_eq_some c);show ∃ x,T k=Y x/\x.kd=2/\k<48
  unfold Ra at f;cases g:T k with
  |none=>rw[g] at f;cases f
  |some x=>
   rw[g] at f;have f:(decide (x.kd=2) && x.L.any fun e=>e.1==d)=AQ:=f;rw[A0] at f;exact⟨x,rfl,Ba f.1,i⟩
open Classical in
noncomputable def IE(T:Fa)(fo:Bool)(a f:Nat)(l:List ByteArray):gD:=
 match l with
 |[]=>(((a:Int),⟨#[]⟩,(a:Int)),0)
 |s :: r=>
  if (s.toList==[46])=AQ then IE T fo a f r
  else if (s.toList==[46,46])=AQ then IE T fo (Tk T a) f r
  else match T a with
  |none=>M0 0
  |some x=>
   if DM x.L s<x.L.length then
    match T (x.L.getD (DM x.L s) default).1.toNat with
    |none=>M0 0
    |some y=>
     if y.kd=3/\(r≠[]\/fo=AQ) then
      if h4:4<f+1 then M0 11
      else if OkP (B7 y.tg) then
       if h20:20<(BX (B7 y.tg) ++ r).length then M0 10
       else IE T fo (if (B7 y.tg).data.toList.head? =Y 47 then 1 else a) (f+1) (BX (B7 y.tg) ++ r)
      else M0 10
     else if r=[] then (((a:Int),s,(x.L.getD (DM x.L s) default).1),0)
     else if y.kd≠2 then M0 6
     else IE T fo (x.L.getD (DM x.L s) default).1.toNat f r
   else if r=[] then (((a:Int),s,0),0)
   else M0 4
termination_by (5-f)*21+l.length
decreasing_by
 all_goals simp only[BJ]
 all_goals omega
section
variable {T:Fa}{fo:Bool}{a f:Nat}{s:ByteArray}{r:List ByteArray}{x y:Nd}
def Tc:IE T fo a f []=(((a:Int),⟨#[]⟩,(a:Int)),0):=by rw[IE]
def Z5(h:(s.toList==[46])=AQ):IE T fo a f (s :: r)=IE T fo a f r:=by rw[IE,AG h]
def kb(b:(s.toList==[46])=AN)(h:(s.toList==[46,46])=AQ):IE T fo a f (s :: r)=IE T fo (Tk T a) f r:=by rw[IE,AJ (by rw[b];decide),AG h]
def SP(b:(s.toList==[46])=AN)(c:(s.toList==[46,46])=AN)(d:T a=Y x)(hi:¬ DM x.L s<x.L.length):IE T fo a f (s :: r)=if r=[] then (((a:Int),s,0),0) else M0 4:=by
 rw[IE,AJ (by rw[b];decide),AJ (by rw[c];decide),d]
 dsimp only
 rw[AJ hi]
open Classical in
def TL(d:(s.toList==[46])=AN)(g:(s.toList==[46,46])=AN)(j:T a=Y x)(hi:DM x.L s<x.L.length){n:Nat}(i:(x.L.getD (DM x.L s) default).1=(n:Int))(k:T n=Y y):
 (y.kd=3/\(r≠[]\/fo=AQ)->(4<f+1->IE T fo a f (s :: r)=M0 11)/\
   (¬ 4<f+1->(¬ OkP (B7 y.tg)->IE T fo a f (s :: r)=M0 10)/\
     (OkP (B7 y.tg)->IE T fo a f (s :: r)=if 20<(BX (B7 y.tg) ++ r).length then M0 10 else IE T fo (if (B7 y.tg).data.toList.head? =Y 47 then 1 else a) (f+1) (BX (B7 y.tg) ++ r))))/\
 (¬ (y.kd=3/\(r≠[]\/fo=AQ))->IE T fo a f (s :: r)=if r=[] then (((a:Int),s,(n:Int)),0) else if y.kd≠2 then M0 6 else IE T fo n f r):=by
 have e:IE T fo a f (s :: r)=if y.kd=3/\(r≠[]\/fo=AQ) then
         if b:4<f+1 then M0 11
         else if OkP (B7 y.tg) then
          if h20:20<(BX (B7 y.tg) ++ r).length then M0 10
          else IE T fo (if (B7 y.tg).data.toList.head? =Y 47 then 1 else a) (f+1) (BX (B7 y.tg) ++ r)
         else M0 10
        else if r=[] then (((a:Int),s,(n:Int)),0)
        else if y.kd≠2 then M0 6
        else IE T fo n f r:=by
  rw[IE,AJ (by rw[d];decide),AJ (by rw[g];decide),j]
  dsimp only
  rw[AG hi,i,Cf,k]
 rw[e];refine⟨fun h=>?_,fun h=>by rw[AJ h]⟩;rw[AG h];refine⟨fun b=>by rw[dif_pos b],fun b=>?_⟩;rw[dif_neg b];refine⟨fun c=>by rw[AJ c],fun c=>by rw[AG c];rfl⟩
end
open Classical in
noncomputable def Nf(T:Fa)(s:ByteArray)(fo:Bool):gD:=if s.data.toList.head? =Y 47 then if OkP s then IE T fo 1 0 (BX s) else M0 10 else M0 9
def Kw{s:ByteArray}(h:0<s.size):s.data.toList.head? =Y s[0]:=by
 have:=Pr h;rw[CX] at this;rw[this];rfl
def RX{s:ByteArray}(h:s.size=0):s.data.toList.head? =Z:=by rw[p_nil.2 h];rfl
section
variable {w:At}{B bn bp:Nat}{x:Nd}
def NodeT.toB(h:NodeT w B bn bp x)(b:x.kd≠2)(hb:Fv x.tg)(d:x.tg.length<=200):∃ v0,ER w B 86 v0 x.L/\NodeB (H G x.kd,H G 1,(·=v0)) w bn bp x.tg.length x.M:=by
 obtain⟨v,a,c⟩:=h.row;have e:x.sz=x.tg.length:=by unfold Nd.sz;rw[AJ b]
 rw[e] at a;exact⟨v,c,⟨v,rfl,a⟩,h.map,OkB.wrL _ _ ⟨fun i l e=>(by cases e),fun i l e=>(by cases e)⟩ hb,Aa⟩
def qb(hb:Fv x.tg):JI x.M 0 x.tg.length=x.tg:=by
 have:=aK (M:=fun _=>Z) (l:=x.tg) ⟨fun i l e=>(by cases e),fun i l e=>(by cases e)⟩ hb (a:=0) (n:=0) (AE 0);rw[show max 0 (0+x.tg.length)=x.tg.length from Aa] at this;unfold Nd.M;rw[this];simp[splice,JI]
end
def Bw{b:Array BK}{rest:List BK}{o:BK}{a:Act}{w:At}{Q:Exit->Act->At->Prop}(f:o.guard=Z)(c:Cn)(hi:(Aq.info? c).map (·.size)=Y 3)(x y:Operand)(i:o.op=.store c x y)
 (g:Nat) (l:a.eval x=Ax (Y ⟨g,0,Z⟩)) (p q r n s t:AA) (m:a.eval y=BS #[p,q,r]) (hp:p.oneCell'=AQ) (j:q.oneCell'=AQ) (k:r.oneCell'=AQ) (T:Cn) (d:w.heap[g]? =Y (I #[n,s,t] T (0,0)))
 (h:∀ w',Wrote w w' g->w'.heap[g]? =Y (I #[p,q,r] T (0,0))->Cj Aq b Q rest (a.put o.dst undef) w'):Cj Aq b Q (o :: rest) a w:=
 C8 f c x y i g #[p,q,r] l m T _ d hi rfl (by simp[hp,j,k]) (h _ (Wrote.setRow _ _ _) (CJ _ _ _ _ _ _ d))
def BH{fn:Func}{p u:Tmp}{d:Cn}{fs}(h:fn.results=#[.cell p d,.tmp u])(hu:Aq.underlying d=Y (.struct fs))(hi:(Aq.info? d).map (·.size)=Y 3)
 (tmps:Array AA) (w:At) (g:Nat) (T:Cn) (a b c x:AA) (hp:tmps.getD p undef=Ax (Y ⟨g,0,Z⟩)) (f:w.heap[g]? =Y (I #[a,b,c] T (0,0))) (i:tmps.getD u undef=x):
 (results fn tmps).run Aq w=.ok (AT #[BS #[a,b,c],x]) w:=by
 rw[results_cell_tmp h,hp,i];simp only[asAddr,Sem.run_pure,Result.andThen_ok];rw[run_loadVar_row w g T d _ (0,0) _ f hu rfl (by rw[hi];rfl)];rfl
def rB(p:gD):AA:=AT #[BS #[H G p.1.1,.string p.1.2.1,H G p.1.2.2],H G p.2]
def kT{l m:List Hg}(c:FrmL l)(d:FrmL m)(h:Fl l=Fl m):l=m:=by
 have e:=BF List.length h;rw[E8 c,E8 d] at e;apply Bt Aa;intro i f g;have a:=VS c f;have b:=VS d g;rw[h,b] at a;rw[<- TX (c _ (Br f)),<- TX (d _ (Br g)),a]
def V8{i:Nat}:∀ (l:Ab) (M:Nat->Option Ab) (a:Nat),(wrL M a l i).isSome=AQ->(M i).isSome=AQ\/∃ j,j<l.length/\i=(a+j) / 256
 |[],_,_,h=>A4 h
 |v :: l,M,a,h=>by
  rcases V8 l (wr1 M a v) (a+1) h with b| ⟨j,b,c⟩
  . unfold wr1 at b
    by_cases e:i=a / 256
    . exact A8 ⟨0,Ai,by simpa using e⟩
    . rw[Ej _ e] at b;exact A4 b
  . exact A8 ⟨j+1,Ak,by rw[c];congr 1;omega⟩
structure DirN (sz:Nat) (M:Nat->Option Ab) (l:List Hg):Prop where
 f:DirF sz M l
 hi:∀ i,sz<=256*i->M i=Z
section
variable {sz:Nat}{M:Nat->Option Ab}{l:List Hg}
def DirN.nil{M:Nat->Option Ab}(h:OkB M)(a:∀ i,M i=Z):DirN 0 M []:=⟨DirF.nil h,fun i _=>a i⟩
def V9(M:Nat->Option Ab)(a:Nat)(l:Ab){i:Nat}(h:M i=Z)(b:∀ j,j<l.length->i≠(a+j) / 256):wrL M a l i=Z:=by
 cases e:wrL M a l i with
 |none=>rfl
 |some x=>
  exfalso;rcases V8 l M a (i:=i) (by rw[e];rfl) with k| ⟨j,c,d⟩
  . rw[h] at k;cases k
  . exact b j c d
def DirN.add(h:DirN sz M l){e:Hg}(he:Ff e=AQ):DirN (16*(l.length+1)) (wrL M sz (Ek e)) (l ++ [e]):=by
 refine⟨h.f.add he,fun i b=>V9 _ _ _ (h.hi i (by have:=h.f.zs;omega)) fun j a=>?_⟩;rw[D5 (DP he).2] at a;have:=h.f.zs;omega
def aG(f:Nat->Int):∀ n,FO f n<=n
 |0=>AE 0
 |n+1=>by
  have:=aG f n;rw[FO];split <;> omega
def RN(f:Nat->Int){k:Nat}(h:∀ i,k<=i->f i=0):∀ n,FO f n<=k
 |0=>A7 _
 |n+1=>by
  by_cases c:n<k
  . have:=aG f (n+1);omega
  . have:=RN f h n
    rw[FO,h n Aa,AJ Ai];omega
def fY{k:Nat}(h:∀ i,k<=i->M i=Z)(j:k<=10):Eu M<=k:=by
 unfold Eu;have g:=RN (Gx M) (k:=k) (fun i c=>by unfold Gx;rw[h i c];rfl) 138;rw[GD 138 fun⟨b,d,f,a⟩=>by rw[h b Aa] at a;cases a];omega
end
section
variable {w:At}{P:Nat->Prop}{d p:AA}{X:XSt}{S:Ab}{N:Ae}{O:Ag}{kk:Nat}{F:Nat->Ab}{bf n sz:Nat}{M:Nat->Option Ab}{Q:Ab}{l:List Hg}
def Pg(h:Frd w P d p X S N O kk F bf)(ft:Fat X.cur N F n sz M)(f:CE N n=2)(c:1<=n)(b:n<48)(hd:DirF sz M l):
 AH Aq 51 #[Ax (Y ⟨bf,0,Z⟩),H G n] w fun e w'=>∃ v,e=Av (AT #[v,H G 0])/\ER w' w.heap.size 75 v l/\AB w.heap.size w w':=by
 refine(cA h ft f c b).mono ?_;rintro e w' (⟨D,a,g,v,he,q3,q4⟩| ⟨a,_,_⟩)
 . obtain rfl:=kT a hd.frm (g.trans hd.by_)
   exact⟨v,he,q3,q4⟩
 . exact absurd ⟨l,hd.frm,hd.by_.symm⟩ a
def FlO.pre{j:At}{k:Nat}{i:Nat}{l:Nat->Option Ab}{R:(Nat->Prop)->XSt->Ae->(Nat->Ab)->Ab->Prop}{w':At}(hb:AB j.heap.size j w)(h:FlO w P d p X S N O kk F bf n Q i l k R w'):FlO j P d p X S N O kk F bf n Q i l k R w':=by
 obtain⟨r,t,o,q,m,s,a,b,c,e,f,g⟩:=h;exact⟨r,t,o,q,m,s,a,b,c,e,(Chg.of_below hb).trans f,g⟩
def FlE.pre{f w':At}(hb:AB f.heap.size f w)(h:FlE w P d p X S kk bf w'):FlE f P d p X S kk bf w':=by
 obtain⟨k,l,i,j,g,a,b,c⟩:=h;exact⟨k,l,i,j,g,a,b,(Chg.of_below hb).trans c⟩
def WrE(w:At)(P:Nat->Prop)(d p:AA)(X:XSt)(S:Ab)(N:Ae)(O:Ag)(kk:Nat)(F:Nat->Ab)(bf n sz:Nat)(M:Nat->Option Ab)(Q:Ab)(a:Nat)(x:Hg)(e:Ending)(w':At):Prop:=
 (e=Av (H G 0)/\FB O kk M (wrL M (16*a) (Ek x))/\FlO w P d p X S N O kk F bf n Q (max sz (16*a+16)) (wrL M (16*a) (Ek x)) 2 ob w')\/
 (e=Av (H G 13)/\¬ FB O kk M (wrL M (16*a) (Ek x))/\FlE w P d p X S kk bf w')
def X8(h:Flt w P d p X S N O kk F bf n sz M Q)(hk:CE N n=2)(h1:1<=n)(BR:n<48)(hQ:Q.length<=32){a:Nat}(ha:16*a+16<=35328){x:Hg}(hx:Ff x=AQ):
 AH Aq 54 #[Ax (Y ⟨bf,0,Z⟩),H G n,H G a,BS #[H G x.1,.string x.2]] w (WrE w P d p X S N O kk F bf n sz M Q a x):=by
 have W:=D5 (DP hx).2;have f:Ka [x]=AQ:=Pa (by rw[List.length_singleton];decide) fun y hy=>by rw[BN.1 hy];exact hx
 have KE:Hid (∀ (V:At) (v:AA),ESl V v [x]->AH Aq 101 #[v] V fun e o=>∃ g b,e=Av (AT #[Aw (Y ⟨g,0,Z⟩) 256 b,H G 0])/\16<=b/\V.heap.size<=g/\BSl o (Aw (Y ⟨g,0,Z⟩) 16 b) (Ek x)/\AB V.heap.size V o):=wN fun V v hv=>by
  refine(Mj hv).mono ?_;rintro e o (⟨_,u,he,hu,hb⟩| ⟨C3,_⟩)
  . have hl:(JC [x]).length=256:=N4 f
    obtain⟨c,k,m⟩:=hu;rcases m with⟨_,e2⟩| ⟨g,b,a0,rfl,A,hh,Ih,Jp,Jq,ht⟩
    . rw[hl] at e2;cases e2
    . rw[hl] at he Ih
      have a1:=OB.bsl (B:=V.heap.size) (v:=Aw (Y ⟨g,0,Z⟩) (JC [x]).length b) (l:=JC [x]) ⟨c,k,A8 ⟨g,b,a0,rfl,A,hh,by rw[hl];exact Ih,Jp,Jq,ht⟩⟩;have hm:=a1.mid 0 16 Aa;have e3:((JC [x]).drop 0).take 16=Ek x:=by
       unfold JC;rw[CX,List.flatMap_singleton,DC W]
      rw[e3] at hm;exact⟨g,b,he,Aa,A,hm,hb⟩
  . rw[f] at C3;cases C3
 have KW:Hid (∀ (V:At) (g b:Nat),AB w.heap.size w V->w.heap.size<=g->BSl V (Aw (Y ⟨g,0,Z⟩) 16 b) (Ek x)->AH Aq 29 #[Ax (Y ⟨bf,0,Z⟩),H G n,H G ((16*a:Nat):Int),Aw (Y ⟨g,0,Z⟩) 16 b] V fun e o=>∃ (y z:Int),e=Av (AT #[H G y,H G z])/\WrE w P d p X S N O kk F bf n sz M Q a x (Av (H G z)) o):=wN fun V g b hV A hv=>by
  have ZA:Hd (16*a) 16=1:=by unfold Hd;rw[AJ Af];omega
  refine(O8 (h.low hV) h1 BR hv (Apt.new fun hp=>by have:=h.md.inv.lt _ hp;omega) (a:=16*a) (C:=16) (by rw[W];rfl) Aa (by rw[ZA];omega) ha (by rw[hk];intro e;cases e)).mono ?_;unfold wI;rw[show(Ek x).take 16=Ek x from A2 Aa];rintro e o (⟨he,hf,E⟩| ⟨he,hf,E⟩)
  . rw[AJ Af,ZA] at E
    exact⟨_,_,he,A4 ⟨rfl,hf,E.pre hV⟩⟩
  . exact⟨_,_,he,A8 ⟨rfl,hf,E.pre hV⟩⟩
 obtain⟨i,s⟩:=x;have c:=AF w (I #[H G i,.string s] 75);have D:=AC w (I #[H G i,.string s] 75);obtain⟨q,t⟩:=nm (w.alloc (I #[H G i,.string s] 75));rw[<- t] at c D;have H1:Hid (w.alloc (I #[H G i,.string s] 75)=q):=wN t.symm;have c1:q.cell? ⟨w.heap.size,0,Z⟩=Y (H G i):=by rw[AD _ _ _ _ _ _ D];rfl
 have c2:q.cell? ⟨w.heap.size,1,Z⟩=Y (.string s):=by rw[AD _ _ _ _ _ _ D];rfl
 have k:AB w.heap.size w (q.alloc (I #[H G i,.string s] 75)):=c.trans ((AF q _).mono c.size);have pp:ESl (q.alloc (I #[H G i,.string s] 75)) (Aw (Y ⟨q.heap.size,0,Z⟩) 1 1) [(i,s)]:=by
  have U:=AC q (I #[H G i,.string s] 75);refine A8 ⟨_,1,rfl,fun j hj=>⟨(Au.1 U).1,rfl,?_⟩⟩;obtain rfl:j=0:=by simp at hj;omega
  rw[AD _ _ _ _ _ _ U,AD _ _ _ _ _ _ U];exact⟨rfl,rfl⟩
 have L:=wN (KE.out _ _ pp);have r:=wN k;have SC:((16*a:Nat):Int)=(a:Int)*16:=Aa;have a5:G.wrap ((a:Int)*16)=(a:Int)*16:=Bz _ Aa;have I8:(a:Int)*16<=35328:=Aa;have R:Hid (∀ (V:At) (g b:Nat),AB w.heap.size w V->w.heap.size<=g->BSl V (Aw (Y ⟨g,0,Z⟩) 16 b) (Ek (i,s))->AH Aq 29 #[Ax (Y ⟨bf,0,Z⟩),H G n,H G ((a:Int)*16),Aw (Y ⟨g,0,Z⟩) 16 b] V fun e o=>∃ (y z:Int),e=Av (AT #[H G y,H G z])/\WrE w P d p X S N O kk F bf n sz M Q a (i,s) (Av (H G z)) o):=wN (by rw[<- SC];exact KW.out);clear KE KW h h1 BR hQ ha hx W f D t c k pp SC;go_enter func54,ntmps54;go_upto_region 1 with(fail)
 rw[H1.out]
 go_wp2_with (first|(go_at_call 101;(with_reducible refine L.out.mono ?_);rintro e w3 ⟨g,b,rfl,CD,A,Um,m⟩;have a2:=UZ 0 0 0 16 Af;clear a2;have a4:=UZ g 0 256 b CD;have J:=wN (r.out.trans (m.mono r.out.size));have HG:Hid (w.heap.size<=g):=wN (AU r.out.size A);have K:=wN Um;have T:=wN (R.out _ g b J.out HG.out K.out);clear Um m A)|(go_at_call 29;(with_reducible refine T.out.mono ?_);rintro e w4 ⟨y,z,rfl,a3⟩))
 go_ret;exact a3
end
def ER.cell2{w:At}{B:Nat}{v:AA}{l:List Hg}(h:ER w B 75 v l){j:Nat}(i:j<l.length):∃ b cap,v=Aw (Y ⟨b,0,Z⟩) l.length cap/\∀ W,AB w.heap.size w W->W.cell? ⟨b,j*2,Z⟩=Y (H G (l.getD j default).1)/\W.cell? ⟨b,j*2+1,Z⟩=Y (.string (l.getD j default).2):=by
 rcases h.2 with⟨_,e⟩| ⟨g,cap,a,n,q,f,o,p,c,m⟩
 . omega
 . refine⟨g,cap,n,fun W d=>?_⟩
   have k:RwE w g (cap*2) l:=⟨a,f,c,m,Aa⟩;exact(k.below d).cells i
def Wq(l:List Hg)(s:ByteArray):Int:=if DM l s<l.length then (l.getD (DM l s) default).1 else 0
def Wr(l:List Hg)(s:ByteArray):Int:=if DM l s<l.length then 0 else 4
section
variable {w:At}{P:Nat->Prop}{d p:AA}{X:XSt}{S:Ab}{N:Ae}{O:Ag}{kk:Nat}{F:Nat->Ab}{bf n sz:Nat}{M:Nat->Option Ab}{Q:Ab}{l:List Hg}
def DirF.len(h:DirF sz M l)(a:sz<=35328):l.length<=2208:=by have:=h.zs;omega
def Zu(h:Frd w P d p X S N O kk F bf)(ft:Fat X.cur N F n sz M)(J:CE N n=2)(I:1<=n)(D:n<48)(hd:DirF sz M l)(s:ByteArray):
 AH Aq 147 #[Ax (Y ⟨bf,0,Z⟩),H G n,.string s] w fun e w'=>e=Av (AT #[H G (Wq l s),H G (Wr l s)])/\AB w.heap.size w w':=by
 have o:=hd.len ft.sb;have KR:=wN (Pg h ft J I D hd);have A:Hid (∀ (V:At) (v:AA),ESl V v l->AH Aq 53 #[v,.string s] V fun e w'=>e=Av (H G (Gj l s))/\AB V.heap.size V w'):=wN fun V v g=>QD g Aa s
 obtain⟨m,C⟩:=nm l.length;have HM:=wN C;by_cases q:DM l s<l.length
 . obtain⟨k,E⟩:=nm (DM l s)
   have u:Wq l s=(l.getD k default).1:=(by unfold Wq;rw[AG q,E]);have x:Wr l s=0:=(by unfold Wr;rw[AG q]);have z:Gj l s=(k:Int):=(by unfold Gj;rw[AG q,E]);rw[z] at A;rw[u,x];have Q:k<m:=Aa;have R:(k:Int)<(m:Int):=Aa;have tA:m<=2208:=Aa;have t:Hid (∀ (V:At) (v:AA),ER V w.heap.size 75 v l->∃ b c,v=Aw (Y ⟨b,0,Z⟩) m c/\∀ W,AB V.heap.size V W->W.cell? ⟨b,k*2,Z⟩=Y (H G (l.getD k default).1)):=wN fun V v g=>by
    obtain⟨b,c,e,B⟩:=g.cell2 (j:=k) Aa;exact⟨b,c,by rw[C];exact e,fun W L=>(B W L).1⟩
   generalize (l.getD k default).1=y at t |-
   clear h ft J I D hd o C q E u x z;go_enter func147,ntmps147
   go_wp2_with (first|(go_at_call 51;(with_reducible refine KR.out.mono ?_);rintro e T ⟨v,rfl,g,f⟩;obtain⟨b,c,rfl,B⟩:=t.out _ _ g;have r:=wN (A.out _ _ g.sl);have K:=wN B;have a:=wN f;clear g B f)|(go_at_call 53;(with_reducible refine Ad r.out ?_);rintro U i;have c0:=K.out _ i))
   go_ret2;exact⟨rfl,a.out.trans (i.mono a.out.size)⟩
 . have u:Wq l s=0:=by unfold Wq;rw[AJ q]
   have x:Wr l s=4:=(by unfold Wr;rw[AJ q]);have z:Gj l s= -1:=(by unfold Gj;rw[AJ q]);rw[z] at A;rw[u,x];clear h ft J I D hd o C q u x z;go_enter func147,ntmps147
   go_wp2_with (first|(go_at_call 51;(with_reducible refine KR.out.mono ?_);rintro e T ⟨v,rfl,g,f⟩;obtain⟨ao,c,rfl⟩:=g.sl.shape;have r:=wN (A.out _ _ g.sl);have a:=wN f;clear g f)|(go_at_call 53;(with_reducible refine Ad r.out ?_);rintro U i))
   go_ret2;exact⟨rfl,a.out.trans (i.mono a.out.size)⟩
def WrE.pre{f:At}{a:Nat}{x:Hg}{e:Ending}{w':At}(hb:AB f.heap.size f w)(h:WrE w P d p X S N O kk F bf n sz M Q a x e w'):WrE f P d p X S N O kk F bf n sz M Q a x e w':=by
 rcases h with⟨a,b,c⟩| ⟨a,b,c⟩
 . exact A4 ⟨a,b,c.pre hb⟩
 . exact A8 ⟨a,b,c.pre hb⟩
def WrE.ret{a:Nat}{x:Hg}{e:Ending}{w':At}(h:WrE w P d p X S N O kk F bf n sz M Q a x e w'):∃ b,e=Av (H G b):=by
 rcases h with⟨a,_⟩| ⟨a,_⟩
 . exact⟨_,a⟩
 . exact⟨_,a⟩
def wo(w:At)(P:Nat->Prop)(d p:AA)(X:XSt)(S:Ab)(N:Ae)(O:Ag)(kk:Nat)(F:Nat->Ab)(bf n sz:Nat)(M:Nat->Option Ab)(Q:Ab)(l:List Hg)(x:Hg)(e:Ending)(w':At):Prop:=
 (Ff x=AN/\e=Av (H G 1)/\AB w.heap.size w w')\/(Ff x=AQ/\DM l x.2<l.length/\e=Av (H G 5)/\AB w.heap.size w w')\/
 (Ff x=AQ/\¬ DM l x.2<l.length/\WrE w P d p X S N O kk F bf n sz M Q l.length x e w')
def dg(h:Flt w P d p X S N O kk F bf n sz M Q)(U:CE N n=2)(T:1<=n)(L:n<48)(hQ:Q.length<=32)(hd:DirF sz M l)(hl:l.length<2208)(x:Hg):
 AH Aq 27 #[Ax (Y ⟨bf,0,Z⟩),H G n,BS #[H G x.1,.string x.2]] w (wo w P d p X S N O kk F bf n sz M Q l x):=by
 obtain⟨i,s⟩:=x;have r:=AF w (I #[H G i,.string s] 75);have J:=AC w (I #[H G i,.string s] 75);obtain⟨w1,u⟩:=nm (w.alloc (I #[H G i,.string s] 75));rw[<- u] at r J;have H1:Hid (w.alloc (I #[H G i,.string s] 75)=w1):=wN u.symm;have q:Hid (∀ W,AB w1.heap.size w1 W->W.cell? ⟨w.heap.size,0,Z⟩=Y (H G i)/\W.cell? ⟨w.heap.size,1,Z⟩=Y (.string s)):=wN fun W hW=>by
  have:=(hW.block _ (Au.1 J).1).trans J;rw[AD _ _ _ _ _ _ this,AD _ _ _ _ _ _ this];exact⟨rfl,rfl⟩
 have WS:Fat X.cur N F n sz M:=by rw[h.md.cur];exact h.ft
 have KR:=wN (Pg (h.md.low r).rd WS U T L hd);have KX:Hid (∀ (V:At) (v:AA),ESl V v l->AH Aq 53 #[v,.string s] V fun e w'=>e=Av (H G (Gj l s))/\AB V.heap.size V w'):=wN fun V v j=>QD j Aa s
 have o:=wN r;obtain⟨m,hm⟩:=nm l.length;have C:Hid (∀ (V:At) (v:AA) (B:Nat),ER V B 75 v l->∃ ao z,v=Aw ao m z):=wN fun V v B j=>by rw[hm];exact j.sl.shape
 cases A:Ff (i,s)
 . have KF:=wN fun V=>L6 i s AN A V
   have HF:=wN A;clear h U T L hQ hd hl u J r WS hm A;go_enter func27,ntmps27;go_upto_region 1 with(fail)
   rw[H1.out]
   go_wp2_with (first|(go_at_call 51;(with_reducible refine KR.out.mono ?_);rintro e w2 ⟨v,rfl,j,b⟩;obtain⟨ao,z,rfl⟩:=C.out _ _ _ j;obtain⟨c1,c2⟩:=q.out _ b;have f:=wN (o.out.trans (b.mono o.out.size));clear j b)|(go_at_call 52;(with_reducible refine Ad (KF.out _) ?_);rintro w3 c))
   go_ret;exact A4 ⟨HF.out,rfl,f.out.trans (c.mono f.out.size)⟩
 . have KF:=wN fun V=>L6 i s AQ A V
   have HF:=wN A;by_cases K:DM l s<l.length
   . obtain⟨k,SE⟩:=nm (DM l s)
     have R:Gj l s=(k:Int):=(by unfold Gj;rw[AG K,SE]);rw[R] at KX;have HX:=wN K;clear h U T L hQ hd hl u J r WS hm A R K SE;go_enter func27,ntmps27;go_upto_region 1 with(fail)
     rw[H1.out]
     go_wp2_with (first|(go_at_call 51;(with_reducible refine KR.out.mono ?_);rintro e w2 ⟨v,rfl,j,b⟩;obtain⟨ao,z,rfl⟩:=C.out _ _ _ j;obtain⟨c1,c2⟩:=q.out _ b;have D:=wN j.sl;have f:=wN b;clear j b)|(go_at_call 52;(with_reducible refine Ad (KF.out _) ?_);rintro w3 c;have g:=wN (f.out.trans (c.mono f.out.size));obtain⟨d1,d2⟩:=q.out _ g.out;have E:=wN (KX.out _ _ (D.out.below c));clear c)|(go_at_call 53;(with_reducible refine Ad E.out ?_);rintro w4 t;have y:=wN (g.out.trans (t.mono g.out.size));clear t))
     go_ret;exact A8 (A4 ⟨HF.out,HX.out,rfl,o.out.trans (y.out.mono o.out.size)⟩)
   . have R:Gj l s= -1:=by unfold Gj;rw[AJ K]
     rw[R] at KX;have HX:=wN K;have a1:Hid (∀ V,AB w.heap.size w V->AH Aq 54 #[Ax (Y ⟨bf,0,Z⟩),H G n,H G m,BS #[H G i,.string s]] V (WrE w P d p X S N O kk F bf n sz M Q l.length (i,s))):=wN fun V hV=>by
      rw[hm];exact(X8 (h.low hV) U T L hQ (a:=l.length) Aa A).mono fun e w' hw=>hw.pre hV
     clear h U T L hQ hd hl u J r WS hm A R K;go_enter func27,ntmps27;go_upto_region 1 with(fail)
     rw[H1.out]
     go_wp2_with (first|(go_at_call 51;(with_reducible refine KR.out.mono ?_);rintro e w2 ⟨v,rfl,j,b⟩;obtain⟨ao,z,rfl⟩:=C.out _ _ _ j;obtain⟨c1,c2⟩:=q.out _ b;have D:=wN j.sl;have f:=wN b;clear j b)|(go_at_call 52;(with_reducible refine Ad (KF.out _) ?_);rintro w3 c;have g:=wN (f.out.trans (c.mono f.out.size));obtain⟨d1,d2⟩:=q.out _ g.out;have E:=wN (KX.out _ _ (D.out.below c));clear c)|(go_at_call 53;(with_reducible refine Ad E.out ?_);rintro w4 t;have y:=wN (g.out.trans (t.mono g.out.size));obtain⟨f1,f2⟩:=q.out _ y.out;have a2:=wN (a1.out _ (o.out.trans (y.out.mono o.out.size)));clear t)|(go_at_call 54;(with_reducible refine a2.out.mono ?_);rintro e w5 a0;obtain⟨er,rfl⟩:=a0.ret))
     go_ret;exact A8 (A8 ⟨HF.out,HX.out,a0⟩)
end
def ER.lo{w:At}{B:Nat}{T:Cn}{v:AA}{l:List Hg}(h:ER w B T v l){g:Nat}(a:v.ownBlock=Y g):B<=g/\g<w.heap.size:=by
 rcases h.2 with⟨e,_⟩| ⟨j,b,c,i,d,f,_⟩
 . rw[e] at a;cases a
 . rw[i] at a
   cases a
   exact⟨d,(Au.1 f).1⟩
def ErG(w:At)(T:Cn)(g cap:Nat)(l:List Hg):Prop:=∃ a:Array AA,w.heap[g]? =Y (I a T (0,0))/\l.length<=cap/\cap<=maxLen/\a.size=cap*2/\a.toList.take (l.length*2)=JB l
section
variable {w w':At}{B g cap:Nat}{T:Cn}{l:List Hg}
def ErG.er(h:ErG w T g cap l)(i:B<=g):ER w B T (Aw (Y ⟨g,0,Z⟩) l.length cap) l:=by
 obtain⟨f,a,b,c,d,e⟩:=h;exact⟨Fb l,A8 ⟨g,cap,f,rfl,i,a,b,c,d,e⟩⟩
end
def NJ{A:Array BK}{o:BK}{a:Act}{w:At}{K:Act->At->Prop}{Q:Exit->Act->At->Prop}{R:Prop}
 (d:o.guard=Z) (s x:Operand) (B:o.op=Op.call { callee:=Callee.builtin Builtin.append,args:=#[s,x],argTypes:=#[61,61] })
 (E O:List Hg) (ne:Nat) (y:ne=E.length) (p:Option Addr) (u:AA) (G:a.eval s=Aw p ne ne) (he:ESl w (Aw p ne ne) E) (H:a.eval x=u) (hu:ESl w u O) (hl:E.length+O.length<=1000000)
 (D:∀ v' w',ESl w' v' (E ++ O)->(0<O.length->ER w' w.heap.size 86 v' (E ++ O))->AB w.heap.size w w'->K (a.put o.dst v') w'):
 if Region.wanted o (yielded A a.tmps)=AQ then BK.wp Aq o a w K Q else R:=by
 subst y;obtain⟨t,C,X,Y,h5⟩:=Bs XL;by_cases hO:0<O.length
 . obtain⟨au,U,rfl,hc⟩:=hu.open'
   obtain⟨b,i,rfl,a0,N⟩:=hc hO;obtain⟨ae,ce,W,J⟩:=he.open';cases W
   refine step_append_grows d s x 61 B 86 t _ 2 24 underlying61 C X Y h5 rfl Af p E.length E.length (JB E) G ?_ (Fb E) ?_ ⟨b,i,Z⟩ O.length U (JB O) H (Fb O) ?_ ?_ Aa (by simp only[maxLen];omega) Aa fun v' w' k1 k2=>?_
   . intro hn
     have:¬ 0<E.length:=fun h=>by obtain⟨_,_,e,_⟩:=J h;rw[hn] at e;cases e
     omega
   . intro b' l m u g
     have v:m<E.length*2:=(by rw[<- Fb];exact(Bo.1 g).1);obtain⟨be,L,V,_,n⟩:=J Aa;rw[V] at l;cases l
     have d:=JS E (m / 2) Aa;have c:=n (m / 2) Aa;rw[Cd];rcases Fu m with e|e
     . have f:m / 2*2=m:=by omega
       rw[f] at d c;rw[c.1,<- d.1,g]
     . have f:m / 2*2+1=m:=by omega
       have r:L+m / 2*2+1=L+m:=Aa;rw[f] at d;rw[r] at c;rw[c.2,<- d.2,g]
   . intro m u g
     have v:m<O.length*2:=(by rw[<- Fb];exact(Bo.1 g).1);have d:=JS O (m / 2) Aa;have c:=N (m / 2) Aa;rw[Cd];rcases Fu m with e|e
     . have f:m / 2*2=m:=by omega
       rw[f] at d c;rw[c.1,<- d.1,g]
     . have f:m / 2*2+1=m:=by omega
       have r:i+m / 2*2+1=i+m:=Aa;rw[f] at d;rw[r] at c;rw[c.2,<- d.2,g]
   . intro u hu
     unfold JB at hu;obtain⟨z,_,I⟩:=List.mem_flatMap.1 hu;simp[cE] at I;rcases I with rfl|rfl <;> rfl
   . have F:ER w' w.heap.size 86 v' (E ++ O):=by
      show w'.ownsRow w.heap.size 86 2 v' (E ++ O).length (JB (E ++ O))
      rw[AO,Il];exact k1
     exact D v' w' F.sl (fun _=>F) ((AP _ _).grown k2 (AE _) fun k hk=>by cases hk)
 . obtain rfl:O=[]:=A3 Aa
   have S:Src Aq t.size 61 u 0 [] w:=by
    rcases hu with⟨rfl,_⟩| ⟨T,q,rfl,_⟩
    . exact Src.ofNil w underlying61 0
    . exact Src.ofSlice w underlying61 T 0 q [] Ai (fun j u h=>by simp at h) (fun u hu=>by cases hu)
   have M:=run_append_nothing (P:=Aq) w 61 61 o.type 86 t underlying61 C p E.length E.length (AE _) u S;rw[AG (by simp[Region.wanted,d])];unfold BK.wp;simp[execOp,B,resolve,invoke,builtin,G,H,M,Result.andThen];exact D _ w (by rw[Cc];exact he) (fun h=>absurd h Ai) (AP _ _)
def ER.keepG{w w':At}{B:Nat}{T:Cn}{v:AA}{l:List Hg}(h:ER w B T v l)(j:∀ g,v.ownBlock=Y g->w'.heap[g]? =w.heap[g]?):ER w' B T v l:=by
 refine⟨h.1,?_⟩;rcases h.2 with d| ⟨g,a,b,c,f,i,r⟩
 . exact A4 d
 . exact A8 ⟨g,a,b,c,f,(j g (by rw[c];rfl)).trans i,r⟩
def ER.cellsAt{w:At}{B:Nat}{T:Cn}{v:AA}{l:List Hg}(h:ER w B T v l){g:Nat}(a:v.ownBlock=Y g):∃ cur,w.heap[g]? =Y (I cur T (0,0)):=by
 rcases h.2 with⟨e,_⟩| ⟨f,b,cur,d,i,c,_⟩
 . rw[e] at a;cases a
 . rw[d] at a
   cases a
   exact⟨cur,c⟩
section
variable {w w':At}{B bn bp:Nat}{x:Nd}
def NodeT.keep(h:NodeT w B bn bp x)(d:w'.heap[bn]? =w.heap[bn]?)(f:w'.heap[bp]? =w.heap[bp]?)(i:∀ (g:Nat) (cur:Array AA),w.heap[g]? =Y (I cur 86 (0,0))->w'.heap[g]? =w.heap[g]?):NodeT w' B bn bp x:=by
 obtain⟨v,a,b⟩:=h.row;obtain⟨K,g,c,r⟩:=h.map;exact⟨⟨v,d.trans a,b.keepG fun g k=>by obtain⟨cur,j⟩:=b.cellsAt k;exact i g cur j⟩,⟨K,g,c.keep f,r⟩,h.lo⟩
def NodeT.rowAt(h:NodeT w B bn bp x):∃ cur,w.heap[bn]? =Y (I cur 63 (0,0)):=by
 obtain⟨v,a,b⟩:=h.row;exact⟨_,a⟩
def NodeT.mapAt(h:NodeT w B bn bp x){cur:Array AA}{T:Cn}:w.heap[bp]? ≠Y (I cur T (0,0)):=by
 obtain⟨K,g,c,r⟩:=h.map;exact fun e=>c.not_cells e rfl
def Rc(W:At)(g a:Option Addr)(n c cap:Nat)(i:Cn)(h:n<=c):(Builtin.append_ #[61,61] i #[Aw g n c,Aw a 0 cap]).run Aq W=.ok (Aw g n c) W:=by
 obtain⟨t,b,d,j,f⟩:=Bs XL;cases a <;> cases g <;> simp[Builtin.lenOf,Builtin.firstCells,storeCells,loadCells,loadCellsFrom,Builtin.append_,Ck underlying61,sizeOf,typeInfo,zeroValue,b,d,f,h]
def tW(w:At)(c b:Array AA)(T a:Cn):((w.alloc (I c T)).alloc (I b a)).heap[w.heap.size+1]? =Y (I b a (0,0)):=by
 have:=AC (w.alloc (I c T)) (I b a)
 rwa [show(w.alloc (I c T)).heap.size=w.heap.size+1 from Ai] at this
def tG(w:At)(c b:Array AA)(T a:Cn):((w.alloc (I c T)).alloc (I b a)).heap[w.heap.size]? =Y (I c T (0,0)):=
 ((AF (w.alloc (I c T)) (I b a)).block _ Ai).trans (AC w (I c T))
def UG{d:Array BK}{o:BK}{a:Act}{w:At}{K:Act->At->Prop}{Q:Exit->Act->At->Prop}{n:Prop}
 (i:o.guard=Z) (s x:Operand) (f:o.op=Op.call { callee:=Callee.builtin Builtin.append,args:=#[s,x],argTypes:=#[61,61] })
 (B g:Nat) (O:List Hg) (u:AA) (m:a.eval s=Aw (Y ⟨g,0,Z⟩) 0 0) (k:w.heap[g]? =Y (I #[] 86 (0,0))) (r:B<=g) (c:a.eval x=u) (hu:ESl w u O) (A:O.length<=1000000)
 (h:∀ v' w',ER w' B 86 v' O->AB w.heap.size w w'->K (a.put o.dst v') w'):
 if Region.wanted o (yielded d a.tmps)=AQ then BK.wp Aq o a w K Q else n:=by
 have z:g<w.heap.size:=(Au.1 k).1;by_cases q:0<O.length
 . refine NJ i s x f [] O 0 rfl _ u m (A8 ⟨_,0,rfl,fun j v=>absurd v (Bm j)⟩) c hu (by rw[List.length_nil];omega) fun v' w' _ he t=>?_
   exact h v' w' ((he q).more Aa) t
 . obtain rfl:O=[]:=A3 Aa
   obtain⟨p,b,rfl⟩:=hu.shape;rw[List.length_nil] at c;rw[AG (by simp[Region.wanted,i])];have y:=Rc w (Y ⟨g,0,Z⟩) p 0 0 b o.type (AE 0);unfold BK.wp execOp;simp only[f,resolve,invoke,builtin,Dm,Sem.run_pure,Result.andThen_ok,Fe,DT,II,m,c,y];exact h _ _ (ErG.er (l:=[]) (cap:=0) ⟨#[],k,AE _,Af,rfl,rfl⟩ r) (AP _ _)
def YL{d:Array BK}{o:BK}{a:Act}{w:At}{K:Act->At->Prop}{Q:Exit->Act->At->Prop}{i:Prop}
 (A:o.guard=Z) (s x:Operand) (j:o.op=Op.call { callee:=Callee.builtin Builtin.append,args:=#[s,x],argTypes:=#[61,61] })
 (B g:Nat) (O:List Hg) (v:AA) (e:Hg) (F:a.eval s=v) (b:ER w B 86 v O) (C:w.heap[g]? =Y (I #[H G e.1,.string e.2] 86 (0,0))) (J:a.eval x=Aw (Y ⟨g,0,Z⟩) 1 1) (f:B<=w.heap.size) (P:O.length<=100000)
 (q:Nat) (E:q=(O ++ [e]).length)
 (z:∀ c cap w',ER w' B 86 (Aw (Y ⟨c,0,Z⟩) q cap) (O ++ [e])->AB B w w'->K (a.put o.dst (Aw (Y ⟨c,0,Z⟩) q cap)) w'):
 if Region.wanted o (yielded d a.tmps)=AQ then BK.wp Aq o a w K Q else i:=by
 obtain⟨t,l,m,n,p⟩:=Bs XL;have L:q=O.length+1:=by rw[E,AO];rfl
 subst L;refine step_append_lies w A s x 61 j B 86 t _ 2 24 underlying61 l m n p rfl Af v O.length _ F b ⟨g,0,Z⟩ 1 1 (cE e) J rfl (At.news_of_block C) ?_ Af (by simp only[maxLen];omega) Aa f w.heap.size rfl fun c cap w' r y M N=>?_
 . intro u h
   simp[cE] at h;rcases h with rfl|rfl <;> rfl
 . refine z c cap w' ?_ ((AP _ _).grown y f fun k D=>(BY b k D).1)
   show w'.ownsRow B 86 2 _ (O ++ [e]).length (JB (O ++ [e]))
   rw[AO,Il];exact r
def Vm{w:At}{b:Nat}{a c d f g:AA}{T:Cn}(h:w.heap[b]? =Y (I #[a,c,d,f,g] T (0,0)))(x:AA):(w.setCell ⟨b,4,Z⟩ x).heap[b]? =Y (I #[a,c,d,f,x] T (0,0)):=by
 rw[Bk w b 4 _ _ x h];rfl
def fO(h:NodeT w B bn bp x)(hk:x.kd=2)(hB:B<=w.heap.size)(hl:x.L.length<=1000)(e:Hg):AH Aq 44 #[Ax (Y ⟨bn,0,Z⟩),BS #[H G e.1,.string e.2]] w fun en w'=>en=Av (AT #[])/\NodeT w' B bn bp { x with L:=x.L ++ [e] }/\Chg (·=bn) (·=bn) w w'/\∃ v,w'.cell? ⟨bn,4,Z⟩=Y v/\∀ g,v.ownBlock=Y g->w.heap.size<=g:=by
 obtain⟨i,s⟩:=e;have M:=h.lo;have z:=h.lt;obtain⟨j,o,O⟩:=h.row;have p:=O.sl;obtain⟨q,R⟩:=nm ((x.L ++ [(i,s)]).length);have tn:q=x.L.length+1:=by rw[R,AO];rfl
 have k:Hid (∀ W,AB w.heap.size w W->W.heap[bn]? =Y (I #[H G x.kd,H G 1,H G x.sz,.map (Y bp),j] 63 (0,0))):=wN fun W d=>(d.block _ z.1).trans o
 have C:Hid (∀ W,AB w.heap.size w W->W.cell? ⟨bn,4,Z⟩=Y j/\W.frozen? ⟨bn,4,Z⟩=AN):=wN fun W d=>by
  have n:=k.out W d;exact⟨by rw[AD _ _ _ _ _ _ n];rfl,by simp[At.frozen?,n]⟩
 have D:Hid (∀ W u,AB w.heap.size w W->(W.setCell ⟨bn,4,Z⟩ u).cell? ⟨bn,4,Z⟩=Y u/\(W.setCell ⟨bn,4,Z⟩ u).cell? ⟨bn,2,Z⟩=Y (H G x.sz)/\(W.setCell ⟨bn,4,Z⟩ u).frozen? ⟨bn,2,Z⟩=AN):=wN fun W u d=>by
  have n:=Vm (k.out W d) u;exact⟨by rw[AD _ _ _ _ _ _ n];rfl,by rw[AD _ _ _ _ _ _ n];rfl,by simp[At.frozen?,n]⟩
 have E:Hid (∀ W u,AB w.heap.size w W->ER W w.heap.size 86 u (x.L ++ [(i,s)])->NodeT ((W.setCell ⟨bn,4,Z⟩ u).setCell ⟨bn,2,Z⟩ (H G (16*(q:Int)))) B bn bp { x with L:=x.L ++ [(i,s)] }/\Chg (·=bn) (·=bn) w ((W.setCell ⟨bn,4,Z⟩ u).setCell ⟨bn,2,Z⟩ (H G (16*(q:Int))))/\∃ v,((W.setCell ⟨bn,4,Z⟩ u).setCell ⟨bn,2,Z⟩ (H G (16*(q:Int)))).cell? ⟨bn,4,Z⟩=Y v/\∀ g,v.ownBlock=Y g->w.heap.size<=g):=wN fun W u d hu=>by
  have n:=V4 (Vm (k.out W d) u) (H G (16*(q:Int)));have b:=Wrote.setCell W bn 4 u;have A:=Wrote.setCell (W.setCell ⟨bn,4,Z⟩ u) bn 2 (H G (16*(q:Int)));have N:bp≠bn:=fun e=>by
   obtain⟨T,Q⟩:=h.rowAt;exact h.mapAt (by rw[e];exact Q)
  have Ef:({ x with L:=x.L ++ [(i,s)] }:Nd).sz=16*q:=by unfold Nd.sz;rw[AG hk,R]
  refine⟨⟨⟨u,?_,(hu.more hB).keepG fun g hg=>?_⟩,?_,M⟩,(Chg.of_below d).trans ((Chg.of_wrote1 b).trans (Chg.of_wrote1 A)),u,by rw[AD _ _ _ _ _ _ n];rfl,fun g hg=>(hu.lo hg).1⟩
  . rw[Ef];push_cast;exact n
  . have WP:g≠bn:=fun e=>by
     obtain⟨T,Q⟩:=hu.cellsAt hg;rw[e,k.out W d] at Q;cases Q
    exact(A.2.2.2.2 g WP).trans (b.2.2.2.2 g WP)
  . obtain⟨K,g,c,r⟩:=h.map
    exact⟨K,g,c.keep (((A.2.2.2.2 bp N).trans (b.2.2.2.2 bp N)).trans (d.block _ z.2)),r⟩
 have l:=AF w (I #[H G i,.string s] 86);have P:=AC w (I #[H G i,.string s] 86);obtain⟨a,b⟩:=nm (w.alloc (I #[H G i,.string s] 86));rw[<- b] at l P;have H1:Hid (w.alloc (I #[H G i,.string s] 86)=a):=wN b.symm;have S:Hid (∀ W,AB a.heap.size a W->W.cell? ⟨w.heap.size,0,Z⟩=Y (H G i)/\W.cell? ⟨w.heap.size,1,Z⟩=Y (.string s)):=wN fun W d=>by
  have:=(d.block _ (Au.1 P).1).trans P;rw[AD _ _ _ _ _ _ this,AD _ _ _ _ _ _ this];exact⟨rfl,rfl⟩
 have f:=wN l;have HV:Hid (ESl a j x.L):=wN (p.below l);have HQ:=wN R;have HL:Hid (x.L.length<=1000000/\x.L.length<=100000):=wN Aa;have F:Hid (∀ V,AB a.heap.size a V->V.cell? ⟨bn,4,Z⟩=Y j):=wN fun V hV=>(C.out V (f.out.trans (hV.mono f.out.size))).1
 have sa:q<=1001:=Aa;generalize x.sz=sz at D;clear h O p o b l P R tn M z hk hB hl;go_enter func44,ntmps44;go_upto_region 1 with(fail)
 rw[H1.out];have k0:a.cell? ⟨bn,4,Z⟩=Y j:=F.out _ (by repeat (first|exact AP _ _|refine below_alB ?_ _|refine AB.drew ?_));have k1:(a.alloc (I #[] 86)).cell? ⟨bn,4,Z⟩=Y j:=F.out _ (by repeat (first|exact AP _ _|refine below_alB ?_ _|refine AB.drew ?_));have k2:(a.alloc (I #[H G i,.string s] 86)).cell? ⟨bn,4,Z⟩=Y j:=F.out _ (by repeat (first|exact AP _ _|refine below_alB ?_ _|refine AB.drew ?_));have k3:((a.alloc (I #[] 86)).alloc (I #[H G i,.string s] 86)).cell? ⟨bn,4,Z⟩=Y j:=F.out _ (by repeat (first|exact AP _ _|refine below_alB ?_ _|refine AB.drew ?_));have k4:((a.alloc (I #[H G i,.string s] 86)).alloc (I #[] 86)).cell? ⟨bn,4,Z⟩=Y j:=F.out _ (by repeat (first|exact AP _ _|refine below_alB ?_ _|refine AB.drew ?_));obtain⟨k5,k6⟩:=S.out a (AP _ _);obtain⟨k7,k8⟩:=S.out (a.alloc (I #[] 86)) (AF _ _)
 go_region_law (first
  |(refine UG Aj (.tmp 5) (.tmp 9) Aj a.heap.size _ x.L j Aj (by first|exact AC _ _|exact tW _ _ _ _ _|exact tG _ _ _ _ _) Ai Aj (HV.out.below (by repeat (first|exact AP _ _|refine below_alB ?_ _|refine AB.drew ?_))) HL.out.1 ?_
    intro v6 w6 a0 m;have t:AB a.heap.size a w6:=AB.trans (by repeat (first|exact AP _ _|refine below_alB ?_ _|refine AB.drew ?_)) (m.mono (by simp <;> omega));obtain⟨k9,a4⟩:=S.out _ t)
  |(refine YL Aj (.tmp 10) (.tmp 12) Aj a.heap.size _ x.L v6 (i,s) Aj (a0.below (by repeat (first|exact AP _ _|refine below_alB ?_ _|refine AB.drew ?_))) (by first|exact AC _ _|exact(m.block _ (by simp <;> omega)).trans (tW _ _ _ _ _)|exact(m.block _ (by simp <;> omega)).trans (tG _ _ _ _ _)|exact(m.block _ (by simp <;> omega)).trans (AC _ _)) Aj (by have:=t.size;simp <;> omega) HL.out.2 q HQ.out ?_
    intro g7 J w7 a1 U;have X:AB a.heap.size a w7:=AB.trans (by repeat (first|exact AP _ _|exact t|refine below_alB ?_ _|refine AB.drew ?_)) U;have y:=f.out.trans (X.mono f.out.size);obtain⟨a2,a3⟩:=C.out _ y;obtain⟨c5,c6,f6⟩:=D.out _ (Aw (Y ⟨g7,0,Z⟩) q J) y))
 all_goals
  go_wp2
  go_end0
  obtain⟨f1,f2,f3⟩:=E.out _ _ y (a1.more f.out.size);exact⟨rfl,f1,f2,f3⟩
def NodeT.write(h:NodeT w B bn bp x)(E:x.kd=3)(n:x.tg=[]){v:AA}{l:Ab}(hv:BSl w v l)(r:Apt (NP bn bp) v)(S:l.length<=200)(N:1<=l.length):
 AH Aq 28 #[Ax (Y ⟨bn,0,Z⟩),H G 0,v] w fun e w'=>e=Av (AT #[H G l.length,H G 0])/\NodeT w' B bn bp { x with tg:=l }/\Chg (NP bn bp) (NP bn bp) w w'/\w'.cell? ⟨bn,4,Z⟩=w.cell? ⟨bn,4,Z⟩:=by
 have O:bp≠bn:=fun e=>by
  obtain⟨q,k⟩:=h.rowAt;exact h.mapAt (by rw[e];exact k)
 obtain⟨A,he,D⟩:=h.toB (by rw[E];decide) (by rw[n];exact EX) (by rw[n];decide);have u:=h.lo;refine(VA D hv r (a:=0) (C:=l.length) Aa Aa Aa).mono ?_;rintro e w' ⟨t,y,k⟩;have s:w'.cell? ⟨bn,4,Z⟩=w.cell? ⟨bn,4,Z⟩:=by
  obtain⟨o,f,m⟩:=y.row;obtain⟨Q,i,z⟩:=D.row;have f:o=A:=f;have i:Q=A:=i;rw[AD _ _ _ _ _ _ m,AD _ _ _ _ _ _ z,f,i];rfl
 refine⟨t,⟨?_,?_,u⟩,k,s⟩
 . obtain⟨o,f,m⟩:=y.row
   have f:o=A:=f;subst f;refine⟨o,?_,he.keepG fun g L=>?_⟩
   . have F:al x.tg.length 0 l.length=l.length:=by unfold al;rw[n,AJ Aa];exact(Nat.zero_max _).trans (BC _)
     rw[F] at m;have I:({ x with tg:=l }:Nd).sz=l.length:=(by unfold Nd.sz;rw[AJ (by show x.kd≠2;rw[E];decide)]);rw[I];exact m
   . obtain⟨q,p⟩:=he.cellsAt L
     refine(k.keep g (Au.1 p).1 fun P=>?_).1;rcases P with rfl|rfl
     . obtain⟨R,j⟩:=h.rowAt
       rw[p] at j;cases j
     . exact h.mapAt p
 . obtain⟨K,g,a,b,c,d⟩:=y.map
   have J:wrL x.M 0 (l.take l.length)=({ x with tg:=l }:Nd).M:=by
    unfold Nd.M;rw[BZ,n];rfl
   rw[J] at c d;exact⟨K,g,a,b,c,d⟩
end
def T0:Fa:=fun i=>if i=1 then Y ⟨2,[],[]⟩ else Z
def TC(T:Fa)(n d kd:Nat)(s:ByteArray):Fa:=fun i=>if i=n then Y ⟨kd,[],[]⟩ else if i=d then (T i).map fun x=>{ x with L:=x.L ++ [((n:Int),s)] } else T i
def Te(T:Fa)(m:Nat):Prop:=∀ i,(T i).isSome=AQ ↔ 1<=i/\i<=m
def wn:Te T0 1:=fun i=>by
 unfold T0;split
 . next h=>subst h;simp
 . next h=>simp;omega
def wz:OkT T0:=by
 have a:∀ i x,T0 i=Y x->i=1/\x=⟨2,[],[]⟩:=fun i x h=>by
  unfold T0 at h;split at h
  . next e=>exact⟨e,(Bc h).symm⟩
  . cases h
 refine⟨⟨_,rfl,rfl⟩,fun i x h=>?_,fun i x h=>?_,fun i x h e he=>?_,fun i x h=>?_,fun i x h b=>?_,fun i x h=>?_⟩
 . have:=(a i x h).1;omega
 . rw[(a i x h).2];exact A8 (A4 rfl)
 . rw[(a i x h).2] at he;cases he
 . rw[(a i x h).2];exact A7 _
 . rw[(a i x h).2]
 . rw[(a i x h).2];exact⟨A7 _,EX,Af⟩
def jy{w:At}{B bn a kd:Nat}(h:w.heap[bn]? =Y (I #[H G kd,H G 1,H G 0,.map (Y a),Aw Z 0 0] 63 (0,0)))(d:MpC w a [] fun _=>AY AQ)(b:B<=bn)(c:B<=a):NodeT w B bn a ⟨kd,[],[]⟩:=by
 have e:(⟨kd,[],[]⟩:Nd).sz=0:=by unfold Nd.sz;split <;> rfl
 exact⟨⟨Aw Z 0 0,by rw[e];exact h,Zh w B _⟩,⟨[],_,d,fun x f=>absurd f Bu,fun i=>⟨fun h=>absurd h Bu,fun h=>by cases h⟩,fun i l h=>by cases h⟩,b,c⟩
def ja(w:At)(n:Int):TreH (((w.alloc (I ((BE 48).map (Ii (fun _=>w.heap.size+1+1) T0) ++ [H G n]).toArray 59)).alloc (.map #[] 0)).alloc (I #[H G 2,H G 1,H G 0,.map (Y (w.heap.size+1)),Aw Z 0 0] 63)) w.heap.size w.heap.size T0 (fun _=>w.heap.size+1+1) (fun _=>w.heap.size+1)/\AB w.heap.size w (((w.alloc (I ((BE 48).map (Ii (fun _=>w.heap.size+1+1) T0) ++ [H G n]).toArray 59)).alloc (.map #[] 0)).alloc (I #[H G 2,H G 1,H G 0,.map (Y (w.heap.size+1)),Aw Z 0 0] 63)):=by
 obtain⟨a,q⟩:=nm (w.alloc (I ((BE 48).map (Ii (fun _=>w.heap.size+1+1) T0) ++ [H G n]).toArray 59));have k:=AC w (I ((BE 48).map (Ii (fun _=>w.heap.size+1+1) T0) ++ [H G n]).toArray 59);have l:=AF w (I ((BE 48).map (Ii (fun _=>w.heap.size+1+1) T0) ++ [H G n]).toArray 59);have d:(w.alloc (I ((BE 48).map (Ii (fun _=>w.heap.size+1+1) T0) ++ [H G n]).toArray 59)).heap.size=w.heap.size+1:=Ai;rw[<- q] at k l d |-
 have b0:=MpC.made a fun _=>AY AQ
 have g:=AF a (.map #[] 0);obtain⟨b,r⟩:=nm (a.alloc (.map #[] 0));have m:(a.alloc (.map #[] 0)).heap.size=w.heap.size+1+1:=by simp[d]
 rw[<- r] at b0 g m |-
 have h:=AC b (I #[H G 2,H G 1,H G 0,.map (Y (w.heap.size+1)),Aw Z 0 0] 63);have f:=AF b (I #[H G 2,H G 1,H G 0,.map (Y (w.heap.size+1)),Aw Z 0 0] 63);obtain⟨c,s⟩:=nm (b.alloc (I #[H G 2,H G 1,H G 0,.map (Y (w.heap.size+1)),Aw Z 0 0] 63));rw[<- s] at h f |-
 rw[m] at h;rw[d] at b0;refine⟨⟨⟨n,?_⟩,AE _,fun i x u e=>?_,fun i j _ _ o p t=>?_⟩,(l.trans (g.mono Aa)).trans (f.mono Aa)⟩
 . rw[f.block _ Aa,g.block _ Aa];exact k
 . unfold T0 at e
   split at e
   . cases e
     exact jy h (b0.keep (f.block _ Aa)) Aa Aa
   . cases e
 . have:=(wn i).1 o
   have:=(wn j).1 p;omega
def dl(w:At)(n:Int):AH Aq 19 #[H G n] w fun e w'=>∃ b,e=Av (Ax (Y ⟨b,0,Z⟩))/\(∃ A Q,TreH w' w.heap.size b T0 A Q)/\AB w.heap.size w w':=by
 have c:=@run_makeMap Aq;have a:=wN (ja w n);go_enter func19,ntmps19;go_wp2;go_ret;exact⟨w.heap.size,rfl,⟨fun _=>w.heap.size+1+1,fun _=>w.heap.size+1,a.out.1⟩,a.out.2⟩
def upd{α:Type}(f:Nat->α)(k:Nat)(v:α):Nat->α:=fun i=>if i=k then v else f i
def Dy{α:Type}(f:Nat->α)(k:Nat)(v:α):upd f k v k=v:=AG rfl
def Cx{α:Type}(f:Nat->α){k i:Nat}(v:α)(h:i≠k):upd f k v i=f i:=AJ h
section
variable {w w':At}{B bt:Nat}{T:Fa}{A Q:Nat->Nat}
def TreH.node(h:TreH w B bt T A Q){d:Nat}{x s:Nd}(hd:d<48)(v:T d=Y x){P:Nat->Prop}(o:∀ k,P k->k=A d\/k=Q d)(p:Chg P P w w')(G:NodeT w' B (A d) (Q d) s):TreH w' B bt (upd T d (Y s)) A Q:=by
 have b:=h.nd d x hd v;obtain⟨O,c⟩:=b.rowAt;have M:¬ P bt:=fun f=>by
  obtain⟨n,m⟩:=h.row;rcases o _ f with e|e
  . rw[e,c] at m;cases m
  . exact b.mapAt (by rw[<- e];exact m)
 have t:∀ i,((upd T d (Y s)) i).isSome=(T i).isSome:=fun i=>by
  by_cases e:i=d
  . rw[e,Dy,v];rfl
  . rw[Cx _ _ e]
 have N:∀ (g:Nat) (l:Array AA),w.heap[g]? =Y (I l 86 (0,0))->w'.heap[g]? =w.heap[g]? :=fun g l q=>by
  refine(p.keep g (Au.1 q).1 fun f=>?_).1;rcases o _ f with e|e
  . rw[e,c] at q;cases q
  . exact b.mapAt (by rw[<- e];exact q)
 refine⟨?_,h.lo,fun i y r e=>?_,fun i j r F C D E=>h.inj i j r F (by rw[<- t];exact C) (by rw[<- t];exact D) E⟩
 . obtain⟨n,m⟩:=h.row
   refine⟨n,?_⟩;rw[(p.keep bt h.lt M).1,m];have:(BE 48).map (Ii A (upd T d (Y s)))=(BE 48).map (Ii A T):=Cr fun i _=>by unfold Ii;rw[t]
   rw[this]
 . by_cases u:i=d
   . subst u
     rw[Dy] at e;cases e
     exact G
   . rw[Cx _ _ u] at e
     have a:=h.nd i y r e;obtain⟨H,J⟩:=h.inj i d r hd (by rw[e];rfl) (by rw[v];rfl) u;obtain⟨R,z⟩:=a.rowAt;obtain⟨K,L⟩:=a.lt;refine a.keep (p.keep _ K fun f=>?_).1 (p.keep _ L fun f=>?_).1 N
     . rcases o _ f with e|e
       . exact H e
       . exact b.mapAt (by rw[<- e];exact z)
     . rcases o _ f with e|e
       . exact a.mapAt (by rw[e];exact c)
       . exact J e
def TreH.add(h:TreH w B bt T A Q)(N:B<=w.heap.size){k kd:Nat}(J:k<48)(hn:T k=Z):TreH (((w.alloc (.map #[] 0)).alloc (I #[H G kd,H G 1,H G 0,.map (Y w.heap.size),Aw Z 0 0] 63)).setCell ⟨bt,k,Z⟩ (Ax (Y ⟨w.heap.size+1,0,Z⟩))) B bt (upd T k (Y ⟨kd,[],[]⟩)) (upd A k (w.heap.size+1)) (upd Q k w.heap.size):=by
 have b0:=MpC.made w fun _=>AY AQ
 have D:=AF w (.map #[] 0);obtain⟨b,O⟩:=nm (w.alloc (.map #[] 0));have E:(w.alloc (.map #[] 0)).heap.size=w.heap.size+1:=Ai;rw[<- O] at b0 D E |-
 have v:=AC b (I #[H G kd,H G 1,H G 0,.map (Y w.heap.size),Aw Z 0 0] 63);have x:=AF b (I #[H G kd,H G 1,H G 0,.map (Y w.heap.size),Aw Z 0 0] 63);obtain⟨c,P⟩:=nm (b.alloc (I #[H G kd,H G 1,H G 0,.map (Y w.heap.size),Aw Z 0 0] 63));rw[<- P] at v x |-
 rw[E] at v;have K:AB w.heap.size w c:=D.trans (x.mono Aa);have R:=h.lt;have f:=h.low K;have S:=Wrote.setCell c bt k (Ax (Y ⟨w.heap.size+1,0,Z⟩));refine⟨?_,h.lo,fun i y n e=>?_,fun i j n o s F M=>?_⟩
 . obtain⟨q,p⟩:=f.row
   refine⟨q,?_⟩;rw[Bk c _ k _ _ _ p];congr 2;apply Array.ext';rw[Array.toList_setIfInBounds,List.toList_toArray,List.toList_toArray,List.set_append_left _ _ (by simp;exact J)];congr 1;refine List.ext_getElem? fun j=>?_
   rw[List.getElem?_set,Bn,List.length_range,List.getElem?_map,List.getElem?_map];by_cases o:j<48
   . rw[List.getElem?_range o]
     by_cases e:k=j
     . rw[AG e,AG J]
       show Y _=Y (Ii _ _ j)
       unfold Ii;rw[<- e,Dy,Dy];rfl
     . rw[AJ e]
       show Y (Ii _ _ j)=Y (Ii _ _ j)
       unfold Ii;rw[Cx _ _ (fun h=>e h.symm),Cx _ _ (fun h=>e h.symm)]
   . rw[Bf (by rw[List.length_range];omega)]
     split
     . omega
     . rfl
 . have r:∀ g:Nat,g≠bt->(c.setCell ⟨bt,k,Z⟩ (Ax (Y ⟨w.heap.size+1,0,Z⟩))).heap[g]? =c.heap[g]? :=fun g t=>S.2.2.2.2 g t
   by_cases a:i=k
   . subst a
     rw[Dy] at e |-
     rw[Dy];cases e
     exact jy (by rw[r _ Aa];exact v) (b0.keep (by rw[r _ Aa];exact x.block _ Aa)) Aa N
   . rw[Cx _ _ a] at e |-
     rw[Cx _ _ a];have l:=f.nd i y n e;obtain⟨q,p⟩:=f.row;obtain⟨X,C⟩:=l.rowAt;refine l.keep (r _ fun e=>?_) (r _ fun e=>?_) fun g L t=>r _ fun e=>?_
     . rw[e,p] at C;cases C
     . exact l.mapAt (by rw[e];exact p)
     . rw[e,p] at t;cases t
 . have m:∀ i,i<48->i≠k->((upd T k (Y ⟨kd,[],[]⟩)) i).isSome=AQ->∃ y,T i=Y y/\A i<w.heap.size/\Q i<w.heap.size:=fun i n e s=>by
    rw[Cx _ _ e] at s;obtain⟨y,u⟩:=Option.isSome_iff_exists.1 s;exact⟨y,u,(h.nd i y n u).lt⟩
   by_cases a:i=k
   . by_cases d:j=k
     . omega
     . obtain⟨y,_,V,W⟩:=m j o d F
       rw[a,Dy,Dy,Cx _ _ d,Cx _ _ d];omega
   . obtain⟨y,u,V,W⟩:=m i n a s
     by_cases d:j=k
     . rw[d,Dy,Dy,Cx _ _ a,Cx _ _ a]
       omega
     . obtain⟨z,U,_,_⟩:=m j o d F
       rw[Cx _ _ a,Cx _ _ a,Cx _ _ d,Cx _ _ d];exact h.inj i j n o (by rw[u];rfl) (by rw[U];rfl) M
end
end
end Go.Proofs.YtfpdajplfmakhaaGreatDoor
