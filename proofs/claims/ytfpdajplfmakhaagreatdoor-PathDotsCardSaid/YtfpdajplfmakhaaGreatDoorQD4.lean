/- What the law rests on. -/
import Derived.Lib.SliceRun
import Derived.Test.YtfpdajplfmakhaaGreatDoorQD3
open Go.Value renaming int->O,slice->E,pointer->Ax,tuple->AT,bool->AY,agg->BS
open Go.IntKind renaming i64->Ap
open Go.Proofs.Tryz renaming prog->Aq
open Option renaming none->J,some->I
open Go renaming World->At,Value->AA,Calls->AH,Oper->BK,wpList->Cj,TypeId->Cn
open Go.Ending renaming returned->Av
open Go.Obj renaming cells->Ay
open Go.RowKit renaming Below->AB
open List renaming replicate->AI,range->BE,length_cons->BJ
open Bool renaming false->AN,true->AQ
open Array renaming replicate->AW
open Or renaming inl->A4,inr->A8
open Int renaming toNat_natCast->Cf
open Go.Proofs.Tryz
namespace Go.Proofs.YtfpdajplfmakhaaGreatDoor
set_option linter.defProp false
set_option maxHeartbeats 12000000
set_option linter.unusedVariables false
set_option maxRecDepth 100000
theorem CP:type_of% @Bool.false_ne_true:=@Bool.false_ne_true
open Go.RowKit
def Ts(w:At)(b off n cap l h:Nat)(m:l<=h)(o:h<=cap)(p:l<cap):
 (Instr.sliceAt 95 (E (I ⟨b,off,J⟩) n cap) (I (O Ap (l:Int))) (I (O Ap (h:Int))) J).run Aq w=.ok (E (I ⟨b,off+l,J⟩) (h-l) (cap-l)) w:=by
 obtain⟨i,d,j,f,k⟩:=Bs PP;have c:cap≠l:=Aa;have a:Aq.elem 95=77:=Ac;have g:(sizeOf 77).run Aq w=.ok 1 w:=by simp[sizeOf,typeInfo,d,f]
 rw[run_sliceAt_slice w 95 _ _ _ _ (by rw[a];exact underlying95),run_slice_lh w 95 _ n cap (by rw[a];exact underlying95) Ap Ap (l:Int) (h:Int) Aa Aa Aa,a,g];simp[sliced,c,Cd]
def Jz{w:At}{c:Array BK}{rest:List BK}{o:BK}{a:Act}{Q:Exit->Act->At->Prop}(f:o.guard=J)(x lo hi:Operand)(u:o.op=.slice 95 x (I lo) (I hi) J)
 (b off n cap:Nat) (v:a.eval x=E (I ⟨b,off,J⟩) n cap) (L H:Int) (s:a.eval lo=O Ap L) (r:a.eval hi=O Ap H) (l h m:Nat) (t:h-l=m) (q:L=l) (k:H=h) (g:l<=h) (i:h<=cap) (j:l<cap)
 (p:Cj Aq c Q rest (a.put o.dst (E (I ⟨b,off+l,J⟩) m (cap-l))) w):Cj Aq c Q (o :: rest) a w:=by
 subst q k t;refine CH f fun K d=>?_
 unfold BK.wp execOp;simp only[u,v,s,r,Option.map_some,Option.map_none,Ts w b off n cap l h g i j,Dm,Sem.run_pure,Result.andThen_ok];exact d _ _ p
def BBSl.mid{w:At}{b off cap:Nat}{L:Ae}(h:BBSl w (E (I ⟨b,off,J⟩) L.length cap) L)(lo m:Nat)(r:lo+m<=L.length)(M:Ae)(d:(L.drop lo).take m=M):BBSl w (E (I ⟨b,off+lo,J⟩) m (cap-lo)) M:=by
 have a:((L.drop lo).take m).length=m:=Ak;rw[d] at a;rcases h with⟨c,_⟩| ⟨g,i,c,p,o⟩
 . simp at c
 . obtain⟨rfl,rfl⟩:(⟨b,off,J⟩:Addr)=g/\cap=i:=⟨Bc (Be c).1,(Be c).2.2⟩
   refine A8 ⟨⟨b,off+lo,J⟩,cap-lo,by rw[a],Aa,fun j f=>?_⟩;rw[a] at f;obtain⟨k,q,u,l,n⟩:=o (lo+j) Aa;refine⟨k,rfl,u,?_,?_⟩
   . show w.cell? ⟨b,off+lo+j,J⟩=_
     rw[Dw];exact l
   . have e:M.getD j []=L.getD (lo+j) []:=by
      rw[<- d];simp[f]
     rw[e];exact n
def EH:(Aq.info? 215).map (·.size)=I 3:=Ac
def BO{b:Array BK}{rest:List BK}{o:BK}{a:Act}{w:At}{Q:Exit->Act->At->Prop}(f:o.guard=J)(c:Cn)(hi:(Aq.info? c).map (·.size)=I 3)(x y:Operand)(i:o.op=.store c x y)
 (g:Nat) (l:a.eval x=Ax (I ⟨g,0,J⟩)) (p q r n s t:AA) (m:a.eval y=BS #[p,q,r]) (hp:p.oneCell'=AQ) (j:q.oneCell'=AQ) (k:r.oneCell'=AQ) (T:Cn) (d:w.heap[g]? =I (Ay #[n,s,t] T (0,0)))
 (h:∀ w',Wrote w w' g->w'.heap[g]? =I (Ay #[p,q,r] T (0,0))->Cj Aq b Q rest (a.put o.dst undef) w'):Cj Aq b Q (o :: rest) a w:=
 C8 f c x y i g #[p,q,r] l m T _ d hi rfl (by simp[hp,j,k]) (h _ (Wrote.setRow _ _ _) (CJ _ _ _ _ _ _ d))
def DJ{fn:Func}{p u:Tmp}{d:Cn}{fs}(h:fn.results=#[.cell p d,.tmp u])(hu:Aq.underlying d=I (.struct fs))(hi:(Aq.info? d).map (·.size)=I 3)
 (tmps:Array AA) (w:At) (g:Nat) (T:Cn) (a b c x:AA) (hp:tmps.getD p undef=Ax (I ⟨g,0,J⟩)) (f:w.heap[g]? =I (Ay #[a,b,c] T (0,0))) (i:tmps.getD u undef=x):
 (results fn tmps).run Aq w=.ok (AT #[BS #[a,b,c],x]) w:=by
 rw[results_cell_tmp h,hp,i];simp only[asAddr,Sem.run_pure,Result.andThen_ok];rw[run_loadVar_row w g T d _ (0,0) _ f hu rfl (by rw[hi];rfl)];rfl
def JR{w w1:At}{g:Nat}{o:Obj}(h:w.heap[g]? =I o)(hb:AB w.heap.size w w1):w1.heap[g]? =I o:=(hb.block _ (Au.1 h).1).trans h
def IR.wrote{w w':At}{B g:Nat}{v:AA}{l:Ab}(h:IR w B v l)(m:Wrote w w' g){cur:Array AA}{T:Cn}(j:w.heap[g]? =I (Ay cur T (0,0)))(i:T≠3):IR w' B v l:=by
 refine⟨h.1,?_⟩;rcases h.2 with h| ⟨d,c,a,k,f,b,r⟩
 . exact A4 h
 . refine A8 ⟨d,c,a,k,f,?_,r⟩
   rw[m.2.2.2.2 d (fun e=>by
    subst e;rw[j] at b
    injection b with b
    injection b with _ h4
    exact i h4)]
   exact b
def BElt.wrote{w w':At}{B g:Nat}{x:AA}{l:Ab}(h:BElt w B x l)(s:Wrote w w' g)(D:B<=g){cur:Array AA}{T:Cn}(n:w.heap[g]? =I (Ay cur T (0,0)))(z:T≠5):BElt w' B x l:=by
 by_cases u:0<l.length
 . obtain⟨b,d,c,rfl,A,k⟩:=h.2 u
   have r:b≠g:=fun e=>by
    subst e;rcases k with m| ⟨t,m⟩
    . omega
    . rw[m] at n
      injection n with n
      injection n with _ h4
      exact z h4.symm
   have v:=s.2.2.2.2 b r;refine⟨⟨h.1.1,?_⟩,fun _=>⟨b,d,c,rfl,by rw[s.2.2.2.1];exact A,k.elim A4 fun⟨cur,p⟩=>A8 ⟨cur,by rw[v];exact p⟩⟩⟩;rcases h.1.2 with⟨f,_⟩| ⟨a,i,f,o,p⟩
   . simp at f
   . obtain⟨rfl,rfl⟩:a=⟨b,d,J⟩/\c=i:=⟨(Bc (Be f).1).symm,(Be f).2.2⟩
     refine A8 ⟨_,c,rfl,o,fun j q=>?_⟩;obtain⟨y,C,m⟩:=p j q;exact⟨by rw[s.2.2.2.1];exact y,rfl,by rw[Bi (a:=⟨b,d+j,J⟩) v];exact m⟩
 . obtain rfl:l=[]:=A3 Aa
   refine⟨⟨EX,?_⟩,fun h=>absurd h u⟩;rcases h.1.2 with h| ⟨a,c,f,o,_⟩
   . exact A4 h
   . exact A8 ⟨a,c,f,o,fun j q=>absurd q (Bm _)⟩
def BBR.wrote{w w':At}{B g:Nat}{v:AA}{L:Ae}(h:BBR w B v L)(l:Wrote w w' g)(m:B<=g){cur:Array AA}{T:Cn}(i:w.heap[g]? =I (Ay cur T (0,0)))(n:T≠5)(t:T≠77):BBR w' B v L:=by
 obtain⟨u,p,q,k⟩:=h;refine⟨u,p,fun j o=>(q j o).wrote l m i n,k.1,?_⟩;rcases k.2 with h| ⟨f,c,a,s,d,b,r⟩
 . exact A4 h
 . refine A8 ⟨f,c,a,s,d,?_,r⟩
   rw[l.2.2.2.2 f (fun e=>by
    subst e;rw[i] at b
    injection b with b
    injection b with _ h4
    exact t h4)]
   exact b
def VP{w:At}{v:AA}{q:Int}{N:Ab}{D L:Ae}(Q:BBSl w v L)(hL:L.length<=1000000)(r:N.length+2<=L.length)(hh:L.getD 0 []=BV (CB q N))(hz:L.getD (L.length-1) []=BV (DZ q))
 (hD:(L.drop 1).take N.length=D) (hw:Hy D=AQ) (hN:ED N=AQ) (q0:0<=q) (q1:q<4294967296):
 AH Aq 160 #[v] w fun e w'=>∃ R vD,e=Av (AT #[BS #[O .u32 q,R,vD],AY AQ])/\IR w' 0 R N/\BBR w' 0 vD D/\AB w.heap.size w w':=by
 have z:D.length=N.length:=by rw[<- hD];simp;omega
 have JJ:=(GN hN).1;have a:=AF w (Ay #[O .u32 0,E J 0 0,E J 0 0] 215);have T:=AC w (Ay #[O .u32 0,E J 0 0,E J 0 0] 215);have KR:=wN (fun W (l:AB w.heap.size w W)=>IU (Q.below l) Aa hh hN q0 q1);have KE:=wN (fun W=>Tb W q0 q1);obtain⟨ao,y,rfl,CD,hc⟩:=Q.open';obtain⟨b,k,rfl,l,K⟩:=hc Aa;obtain⟨u0,P,f⟩:=K (L.length-1) Aa;rw[hz] at f;have MX:=Dp (DZ q) (by rw[JZ];omega);obtain⟨uo,uc,rfl,_⟩:=f.shape;rw[MX] at P f;have i:=Q.mid 1 N.length Aa D hD;have M:=wN (fun W (l:AB w.heap.size w W)=>Ng (i.below l) Aa);rw[hw] at M;have KC:=wN (fun W (l:AB w.heap.size w W)=>PG (i.below l) Aa (fun j=>by
  by_cases hj:j<D.length
  . rw[(Nn D).1 hw j hj];omega
  . rw[Az,Bf Aa];exact A7 _) 0 (A7 _))
 have x:=wN f;generalize BV (DZ q)=EB at KE x;have G:=wN (fun W R (h:IR W 0 R N)=>h.isc.2);obtain⟨n,hn⟩:=nm N.length;obtain⟨m,hm⟩:=nm L.length;rw[<- hm] at r CD P hL KR |-
 rw[<- hn] at r JJ M KC z G;have V:=wN z;have ew:Ap.wrap ((m:Int)-1)=(m:Int)-1:=Bz _ Aa;have a6:Ap.wrap ((n:Int)+2)=(n:Int)+2:=Bz _ Aa;have e1:(0:Int)<=(m:Int)-1:=Aa;have e2:((m:Int)-1).toNat=m-1:=Aa;have e3:(m:Int)-1<(m:Int):=Aa;have e4:¬ (m:Int)<(n:Int)+2:=Aa;have e5:decide ((m:Int)<(n:Int)+2)=AN:=AM e4;have e6:m-1<m:=Aa;have e7:(1:Int)<=(m:Int):=Aa;have e8:1<=m:=Aa;have e9:0<m:=Aa;have a5:(0:Int)<(m:Int):=Aa;have X:Hid (1+n-1=n):=wN Aa;have Y:Hid ((1:Int)+(n:Int)=((1+n:Nat):Int)):=wN (by push_cast;rfl);have u:Hid (1<=1+n/\1+n<=y/\1<y):=wN Aa;clear Q hh hz hD hw hN q0 q1 hc K f MX i hn hm z JJ;go_enter func160,ntmps160;go_upto_region 1 with(fail)
 have Ot:w.heap.size<(w.alloc (Ay #[O .u32 0,E J 0 0,E J 0 0] 215)).heap.size:=Ai;generalize w.alloc (Ay #[O .u32 0,E J 0 0,E J 0 0] 215)=w1 at a T Ot |-
 go_wp2_with (go_at_call 167;(with_reducible refine(KR.out _ a).mono ?_);rintro e S ⟨v2,rfl,B,H⟩
              obtain⟨no,nc,rfl,_⟩:=G.out _ _ B)
 have d:Hid (AB w1.heap.size w1 S.drew):=wN (Bd H 1);have a2:Hid (IR S.drew 0 (E no n nc) N):=wN B;have F:=wN a;have a0:=wN T;have e0:S.drew.cell? ⟨b,k+(m-1),J⟩=I (E uo 256 uc):=((a.trans (d.out.mono a.size)).cell (p:=⟨b,k+(m-1),J⟩) l).trans P;have a1:=wN (x.out.below (a.trans (d.out.mono a.size)));have a8:b<S.drew.heap.size:=AL l (a.trans (d.out.mono a.size)).size;clear B H a T P l x
 go_region_held3 (fun W=>W.cell? ⟨b,k+(m-1),J⟩=I (E uo 256 uc)) (first|exact f0|exact e0) (first
  |(go_at_call 188;(with_reducible refine(KE.out _).mono ?_);rintro e w5 ⟨v5,rfl,s,g⟩
    have f0:=(g.cell (p:=⟨b,k+(m-1),J⟩) a8).trans e0;have K6:=wN (Ep (a1.out.below g) s.bsl);rw[AK (rfl:EB=EB)] at K6;have t:=wN (d.out.trans (g.mono d.out.size));have a3:=wN (a2.out.below g);clear s)|(go_at_call 152;(with_reducible refine Ad K6.out ?_);rintro w6 rfl))
 have c:=wN (F.out.trans (t.out.mono F.out.size));have K7:=wN (M.out _ c.out);have K8:=wN (KC.out _ c.out);clear ew a6 e1 e2 e3 e4 e5 e6 e7 e8 e9 a5 e0 f0 g M KC KE KR K6
 go_wp2_with (first
  |(with_reducible refine Jz rfl (.tmp 37) (.const (O Ap 1)) (.tmp 40) rfl b k m y rfl 1 (1+(n:Int)) rfl rfl 1 (1+n) n X.out rfl Y.out u.out.1 u.out.2.1 u.out.2.2 ?_)|(go_at_call 189;(with_reducible refine Ad K7.out ?_);rintro w7 rfl)
  |(go_at_call 190;(with_reducible refine K8.out.mono ?_);rintro e w8 ⟨v8,rfl,o,A⟩
    obtain⟨co,cc,rfl,_⟩:=o.sl.shape;rw[V.out] at o |-
    have a4:=wN o;have Z:=wN (a3.out.below A);have gn:=JR a0.out (t.out.trans (A.mono t.out.size));have U:=wN (c.out.trans (A.mono c.out.size));clear o)|(with_reducible refine BO rfl 215 EH (.tmp 2) (.tmp 50) rfl w.heap.size rfl _ _ _ _ _ _ rfl rfl rfl rfl _ gn ?_;intro w9 C a7))
 refine A9 (DJ rfl underlying215 EH _ _ w.heap.size _ _ _ _ _ rfl a7 rfl) rfl ⟨_,_,rfl,?_,?_,U.out.trans (C.below (AE _))⟩
 . exact Z.out.wrote C gn Af
 . exact a4.out.wrote C (A7 _) gn Af Af
def Io(L:Ae)(q:Int)(N:Ab)(D:Ae):Prop:=
 (0<L.length/\DB (L.getD 0 []) q N)/\N.length+2<=L.length/\L.getD (L.length-1) []=BV (DZ q)/\(L.drop 1).take N.length=D/\Hy D=AQ
def kC(w:At)(e:Ending)(w':At):Prop:=e=Av (AT #[BS #[O .u32 0,E J 0 0,E J 0 0],AY AN])/\AB w.heap.size w w'
def TE{w:At}{v:AA}{L:Ae}(k:BBSl w v L)(n:∀ q N,¬ (0<L.length/\DB (L.getD 0 []) q N)):AH Aq 160 #[v] w (kC w):=by
 have a:=AF w (Ay #[O .u32 0,E J 0 0,E J 0 0] 215);have f:=AC w (Ay #[O .u32 0,E J 0 0,E J 0 0] 215);have KR:Hid (∀ W,AB w.heap.size w W->AH Aq 167 #[v] W fun e o=>e=Av (AT #[O .u32 0,E J 0 0,AY AN])/\AB W.heap.size W o):=wN fun W h=>(Qa (k.below h)).mono fun e o ⟨h,s⟩=>by
  rcases s with⟨q,N,u,r,t,_⟩| ⟨_,he⟩
  . exact absurd ⟨r,t⟩ (n q N)
  . exact⟨he,h⟩
 obtain⟨y,p,rfl,_⟩:=k.shape;generalize L.length=m at KR |-
 clear k n;go_enter func160,ntmps160;go_upto_region 1 with(fail)
 generalize w.alloc (Ay #[O .u32 0,E J 0 0,E J 0 0] 215)=z at a f |-
 have c:=wN a;have g:=wN f;clear f;go_wp2_with (go_at_call 167;(with_reducible refine Ad (KR.out _ a) ?_);rintro x d)
 have b:=wN d;clear d a;go_quiet (fail)
 have i:(x.drewN nq).heap[w.heap.size]? =I (Ay #[O .u32 0,E J 0 0,E J 0 0] 215 (0,0)):=JR g.out (Bd b.out nq);go_wp2_with (with_reducible refine BO rfl 215 EH (.tmp 2) (.tmp 36) rfl w.heap.size rfl _ _ _ _ _ _ rfl rfl rfl rfl _ i ?_;intro A l j)
 refine A9 (DJ rfl underlying215 EH _ _ w.heap.size _ _ _ _ _ rfl j rfl) rfl ⟨rfl,?_⟩;exact(Bd (c.out.trans (b.out.mono c.out.size)) nq).trans (l.below (AE _))
def Q8{w:At}{v:AA}{q:Int}{N:Ab}{L:Ae}(r:BBSl w v L)(t:0<L.length)(c:DB (L.getD 0 []) q N)(b:¬ N.length+2<=L.length):AH Aq 160 #[v] w (kC w):=by
 have a:=AF w (Ay #[O .u32 0,E J 0 0,E J 0 0] 215);have k:=AC w (Ay #[O .u32 0,E J 0 0,E J 0 0] 215);have KR:=wN (fun W (C:AB w.heap.size w W)=>IU (r.below C) t c.2.2 c.1 c.2.1.1 c.2.1.2);have y:=(GN c.1).1;have g:=wN (fun W D (h:IR W 0 D N)=>h.isc.2);obtain⟨G,z,rfl,_⟩:=r.shape;obtain⟨n,x⟩:=nm N.length;obtain⟨m,u⟩:=nm L.length;rw[<- u] at b KR |-
 rw[<- x] at b y g;have A:(m:Int)<(n:Int)+2:=Aa;have H:decide ((m:Int)<(n:Int)+2)=AQ:=AK A;have B:Ap.wrap ((n:Int)+2)=(n:Int)+2:=Bz _ Aa;clear r t c x u;go_enter func160,ntmps160;go_upto_region 1 with(fail)
 generalize w.alloc (Ay #[O .u32 0,E J 0 0,E J 0 0] 215)=P at a k |-
 have f:=wN a;have l:=wN k;clear k
 go_wp2_with (go_at_call 167;(with_reducible refine(KR.out _ a).mono ?_);rintro e F ⟨M,rfl,j,i⟩
              obtain⟨no,K,rfl,_⟩:=g.out _ _ j)
 have d:=wN i;clear i a j;go_quiet (fail)
 have o:(F.drewN nq).heap[w.heap.size]? =I (Ay #[O .u32 0,E J 0 0,E J 0 0] 215 (0,0)):=JR l.out (Bd d.out nq);go_wp2_with (with_reducible refine BO rfl 215 EH (.tmp 2) (.tmp 36) rfl w.heap.size rfl _ _ _ _ _ _ rfl rfl rfl rfl _ o ?_;intro Q s p)
 refine A9 (DJ rfl underlying215 EH _ _ w.heap.size _ _ _ _ _ rfl p rfl) rfl ⟨rfl,?_⟩;exact(Bd (f.out.trans (d.out.mono f.out.size)) nq).trans (s.below (AE _))
def MT{w:At}{v:AA}{q:Int}{N:Ab}{L:Ae}(hs:BBSl w v L)(hL:L.length<=1000000)(t:DB (L.getD 0 []) q N)(r:N.length+2<=L.length)
 (lC:L.getD (L.length-1) []≠BV (DZ q)\/L.getD (L.length-1) []=BV (DZ q)/\Hy ((L.drop 1).take N.length)=AN):AH Aq 160 #[v] w (kC w):=by
 have JJ:=(GN t.1).1;have a:=AF w (Ay #[O .u32 0,E J 0 0,E J 0 0] 215);have EO:=AC w (Ay #[O .u32 0,E J 0 0,E J 0 0] 215);have KR:=wN (fun W (A:AB w.heap.size w W)=>IU (hs.below A) Aa t.2.2 t.1 t.2.1.1 t.2.1.2);have M:=wN (fun W=>Tb W t.2.1.1 t.2.1.2);obtain⟨ao,z,rfl,CD,hc⟩:=hs.open';obtain⟨b,g,rfl,A,Y⟩:=hc Aa;obtain⟨u0,Q,B⟩:=Y (L.length-1) Aa;obtain⟨uo,uc,rfl,_⟩:=B.shape;have s:=hs.mid 1 N.length Aa _ rfl;have aW:((L.drop 1).take N.length).length<=1000000:=Ak;have P:=wN (fun W (A:AB w.heap.size w W)=>Ng (s.below A) aW);have l:=wN B;have G:=wN (fun W vN (h:IR W 0 vN N)=>h.isc.2);generalize BV (DZ q)=EB at M lC;obtain⟨LB,U⟩:=nm (L.getD (L.length-1) []);rw[<- U] at l lC Q;obtain⟨y,hy⟩:=nm LB.length;rw[<- hy] at Q l;obtain⟨WB,V⟩:=nm (Hy ((L.drop 1).take N.length));rw[<- V] at P lC;obtain⟨n,hn⟩:=nm N.length;obtain⟨m,hm⟩:=nm L.length;rw[<- hm] at r CD Q hL KR |-
 rw[<- hn] at r JJ P G;have ew:Ap.wrap ((m:Int)-1)=(m:Int)-1:=Bz _ Aa;have S:Ap.wrap ((n:Int)+2)=(n:Int)+2:=Bz _ Aa;have e1:(0:Int)<=(m:Int)-1:=Aa;have e2:((m:Int)-1).toNat=m-1:=Aa;have e3:(m:Int)-1<(m:Int):=Aa;have e4:¬ (m:Int)<(n:Int)+2:=Aa;have e5:decide ((m:Int)<(n:Int)+2)=AN:=AM e4;have e6:m-1<m:=Aa;have e7:(1:Int)<=(m:Int):=Aa;have e8:1<=m:=Aa;have e9:0<m:=Aa;have R:(0:Int)<(m:Int):=Aa;have a2:Hid (1+n-1=n):=wN Aa;have a3:Hid ((1:Int)+(n:Int)=((1+n:Nat):Int)):=wN (by push_cast;rfl);have u:Hid (1<=1+n/\1+n<=z/\1<z):=wN Aa;have j:=wN lC;clear hs t hc Y B s hn hm JJ aW U V lC hy;go_enter func160,ntmps160;go_upto_region 1 with(fail)
 generalize w.alloc (Ay #[O .u32 0,E J 0 0,E J 0 0] 215)=w1 at a EO |-
 go_wp2_with (go_at_call 167;(with_reducible refine(KR.out _ a).mono ?_);rintro e w2 ⟨v2,rfl,a0,X⟩
              obtain⟨no,nc,rfl,_⟩:=G.out _ _ a0)
 have f:Hid (AB w1.heap.size w1 w2.drew):=wN (Bd X 1);have k:=wN a;have H:=wN EO;have F:w2.drew.cell? ⟨b,g+(m-1),J⟩=I (E uo y uc):=((a.trans (f.out.mono a.size)).cell (p:=⟨b,g+(m-1),J⟩) A).trans Q;have K:=wN (l.out.below (a.trans (f.out.mono a.size)));have a1:b<w2.drew.heap.size:=AL A (a.trans (f.out.mono a.size)).size;clear a0 X a EO Q A l;rcases j.out with Z| ⟨Rn,a5⟩
 . have a4:=wN Z
   clear Z j
   go_region_held3 (fun W=>W.cell? ⟨b,g+(m-1),J⟩=I (E uo y uc)) (first|exact T|exact F) (first
    |(go_at_call 188;(with_reducible refine(M.out _).mono ?_);rintro e w5 ⟨v5,rfl,d,c⟩
      have T:=(c.cell (p:=⟨b,g+(m-1),J⟩) a1).trans F;have x:=wN (Ep (K.out.below c) d.bsl);rw[AM a4.out] at x;have i:=wN (f.out.trans (c.mono f.out.size));clear d)|(go_at_call 152;(with_reducible refine Ad x.out ?_);rintro w6 rfl))
   have Du:=JR H.out i.out;clear ew S e1 e2 e3 e4 e5 e6 e7 e8 e9 R F T c P M KR x;go_wp2_with (with_reducible refine BO rfl 215 EH (.tmp 2) (.tmp 36) rfl w.heap.size rfl _ _ _ _ _ _ rfl rfl rfl rfl _ Du ?_;intro w9 D C)
   refine A9 (DJ rfl underlying215 EH _ _ w.heap.size _ _ _ _ _ rfl C rfl) rfl ⟨rfl,?_⟩;exact(k.out.trans (i.out.mono k.out.size)).trans (D.below (AE _))
 . subst Rn a5
   clear j
   go_region_held3 (fun W=>W.cell? ⟨b,g+(m-1),J⟩=I (E uo y uc)) (first|exact T|exact F) (first
    |(go_at_call 188;(with_reducible refine(M.out _).mono ?_);rintro e w5 ⟨v5,rfl,d,c⟩
      have T:=(c.cell (p:=⟨b,g+(m-1),J⟩) a1).trans F;have x:=wN (Ep (K.out.below c) d.bsl);rw[AK (rfl:LB=LB)] at x;have i:=wN (f.out.trans (c.mono f.out.size));clear d)|(go_at_call 152;(with_reducible refine Ad x.out ?_);rintro w6 rfl))
   have o:=wN (k.out.trans (i.out.mono k.out.size));have K7:=wN (P.out _ o.out);have Du:=JR H.out i.out;clear ew S e1 e2 e3 e4 e5 e6 e7 e8 e9 R F T c P M KR x
   go_wp2_with (first|(with_reducible refine Jz rfl (.tmp 37) (.const (O Ap 1)) (.tmp 40) rfl b g m z rfl 1 (1+(n:Int)) rfl rfl 1 (1+n) n a2.out rfl a3.out u.out.1 u.out.2.1 u.out.2.2 ?_)|(go_at_call 189;(with_reducible refine Ad K7.out ?_);rintro w7 rfl)|(with_reducible refine BO rfl 215 EH (.tmp 2) (.tmp 45) rfl w.heap.size rfl _ _ _ _ _ _ rfl rfl rfl rfl _ Du ?_;intro w9 D C))
   refine A9 (DJ rfl underlying215 EH _ _ w.heap.size _ _ _ _ _ rfl C rfl) rfl ⟨rfl,?_⟩;exact o.out.trans (D.below (AE _))
def JN{w:At}{v:AA}{L:Ae}(i:BBSl w v L)(n:L.length<=1000000):
 AH Aq 160 #[v] w fun e w'=>AB w.heap.size w w'/\
  ((∃ q N D m l,Io L q N D/\e=Av (AT #[BS #[O .u32 q,m,l],AY AQ])/\IR w' 0 m N/\BBR w' 0 l D)\/
   ((∀ q N D,¬ Io L q N D)/\e=Av (AT #[BS #[O .u32 0,E J 0 0,E J 0 0],AY AN]))):=by
 by_cases s:∃ q N,0<L.length/\DB (L.getD 0 []) q N
 . obtain⟨q,N,p,c⟩:=s
   have d:∀ g f D,Io L g f D->g=q/\f=N:=fun g f D h=>QM h.1.2 c
   by_cases a:N.length+2<=L.length
   . by_cases j:L.getD (L.length-1) []=BV (DZ q)
     . cases k:Hy ((L.drop 1).take N.length)
       . refine Ad (MT i n c a (A8 ⟨j,k⟩)) ?_
         rintro w' b;refine⟨b,A8 ⟨fun g f D h=>?_,rfl⟩⟩;obtain⟨rfl,rfl⟩:=d _ _ _ h;obtain⟨_,_,_,rfl,r⟩:=h;rw[k] at r;cases r
       . refine(VP i n a c.2.2 j rfl k c.1 c.2.1.1 c.2.1.2).mono ?_
         rintro e w' ⟨m,l,rfl,t,u,b⟩;exact⟨b,A4 ⟨q,N,_,m,l,⟨⟨p,c⟩,a,j,rfl,k⟩,rfl,t,u⟩⟩
     . refine Ad (MT i n c a (A4 j)) ?_
       rintro w' b;refine⟨b,A8 ⟨fun g f D h=>?_,rfl⟩⟩;obtain⟨rfl,rfl⟩:=d _ _ _ h;exact j h.2.2.1
   . refine Ad (Q8 i p c a) ?_
     rintro w' b;refine⟨b,A8 ⟨fun g f D h=>?_,rfl⟩⟩;obtain⟨rfl,rfl⟩:=d _ _ _ h;exact a h.2.1
 . have o:∀ q N,¬ (0<L.length/\DB (L.getD 0 []) q N):=fun q N h=>s ⟨q,N,h⟩
   refine Ad (TE i o) ?_;rintro w' b;exact⟨b,A8 ⟨fun q N D h=>o q N h.1,rfl⟩⟩
inductive PA where
 |w (n:Nat) (l:Ab)
 |f
def PA.run(s:DS):PA->DS
 |.w n l=>s.write n l
 |.f=>s.flush
def BP:List PA->DS->Int × DS
 |[],s=>(0,s)
 |a :: A,s=>if s.ok=AQ then BP A (a.run s) else (2,s.pay)
def PA.fu(x:Ae × List (Nat × Ab)):PA->Ae × List (Nat × Ab)
 |.w n l=>(x.1,x.2 ++ [(n,l)])
 |.f=>(Cl x.2 x.1,[])
def F0(A:List PA)(x:Ae × List (Nat × Ab)):Ae × List (Nat × Ab):=A.foldl PA.fu x
def DS.fuP(s:DS):Ae × List (Nat × Ab):=(s.F,s.U)
def Ct(A B:List PA)(x:Ae × List (Nat × Ab)):F0 (A ++ B) x=F0 B (F0 A x):=List.foldl_append
def PA.run_fu(s:DS)(a:PA):(a.run s).fuP=a.fu s.fuP:=by cases a <;> rfl
def H7:∀ (A:List PA) (s:DS),∃ k,k<=A.length/\(BP A s).2.fuP=F0 (A.take k) s.fuP/\((BP A s).1=0/\k=A.length\/(BP A s).1=2)
 |[],s=>⟨0,AE _,rfl,A4 ⟨rfl,rfl⟩⟩
 |a :: A,s=>by
  unfold BP;by_cases h:s.ok=AQ
  . rw[AG h]
    obtain⟨k,f,c,b⟩:=H7 A (a.run s);refine⟨k+1,Ak,?_,?_⟩
    . rw[c,PA.run_fu];rfl
    . rcases b with⟨b,d⟩|b
      . exact A4 ⟨b,by simp[d]⟩
      . exact A8 b
  . rw[AJ h]
    exact⟨0,A7 _,rfl,A8 rfl⟩
def Kz:∀ (A:List PA) (s:DS),s.fu=AN->s.dn=AN->(BP A s).1=0/\(BP A s).2.fuP=F0 A s.fuP/\(BP A s).2.fu=AN/\(BP A s).2.dn=AN/\(BP A s).2.le=s.le
 |[],s,h1,h2=>⟨rfl,rfl,h1,h2,rfl⟩
 |a :: A,s,h1,h2=>by
  have b:s.ok=AQ:=by unfold DS.ok lW;rw[h1,h2];rfl
  unfold BP;rw[AG b];have c:(a.run s).fu=AN:=by cases a <;> exact h1
  have d:(a.run s).dn=AN:=by
   have:WX s.fu s.le s.dn=AN:=(by unfold WX;rw[h1,h2];rfl);cases a <;> exact this
  have f:(a.run s).le=s.le:=by
   have:Xz s.fu s.le s.dn=s.le:=(by unfold Xz;rw[AJ (by rw[h1];simp)]);cases a <;> exact this
  obtain⟨g,h,i,j,k⟩:=Kz A (a.run s) c d;exact⟨g,by rw[h,PA.run_fu];rfl,i,j,k.trans f⟩
def Gg(W:List (Nat × Ab))(x:Ae × List (Nat × Ab)):F0 (W.map fun y=>.w y.1 y.2) x=(x.1,x.2 ++ W):=by
 induction W generalizing x with
 |nil=>simp[F0]
 |cons y W ih=>
  show F0 (W.map fun y=>.w y.1 y.2) (x.1,x.2 ++ [(y.1,y.2)])=_
  rw[ih];simp
def aa:∀ (W:List (Nat × Ab)) (F:Ae) (i:Nat) (y:Ab),(∀ x∈W,x.1=i->x.2=y)->(Cl W F).getD i []=F.getD i []\/(Cl W F).getD i []=y
 |[],F,i,y,_=>A4 rfl
 |x :: W,F,i,y,h=>by
  have a:=aa W (F.set x.1 x.2) i y fun z c=>h z (B9 _ c)
  show(Cl W (F.set x.1 x.2)).getD i []=_\/_
  rcases a with a|a
  . show(Cl W (F.set x.1 x.2)).getD i []=F.getD i []\/(Cl W (F.set x.1 x.2)).getD i []=y
    rw[a];by_cases e:x.1=i
    . by_cases b:i<F.length
      . right
        have:=h x (CO ..) e;subst e;rw[<- this];simp[b]
      . left
        rw[Az,Bf (by rw[AR];omega),Az,Bf Aa]
    . left
      rw[Az,BB e,<- Az]
  . exact A8 a
def IT:∀ (W:List (Nat × Ab)) (F:Ae) (i:Nat) (y:Ab),i<F.length->(∀ x∈W,x.1=i->x.2=y)->(∃ x∈W,x.1=i)->(Cl W F).getD i []=y
 |[],F,i,y,_,_,h=>by obtain⟨x,c,_⟩:=h;cases c
 |x :: W,F,i,y,hi,hall,hex=>by
  show(Cl W (F.set x.1 x.2)).getD i []=y
  by_cases h:∃ z∈W,z.1=i
  . exact IT W _ i y (by rw[AR];exact hi) (fun z b=>hall z (B9 _ b)) h
  . have e:x.1=i:=by
     obtain⟨z,b,a⟩:=hex;rcases Ez.1 b with rfl|b
     . exact a
     . exact absurd ⟨z,b,a⟩ h
    rw[Do W _ i fun z b a=>h ⟨z,b,a⟩];have:=hall x (CO ..) e;subst e;rw[<- this];simp[hi]
def EA(V:Ae):Ae:=(V.drop 3).take 40
def EC{V:Ae}(h:43<=V.length):(EA V).length=40:=by simp[EA];omega
def H3(V:Ae)(j:Nat)(a:j<40):(EA V).getD j []=V.getD (3+j) []:=by
 simp[EA,a]
def X9{V c:Ae}(h:43<=V.length)(k:43<=c.length)(he:∀ i,3<=i->i<43->V.getD i []=c.getD i []):EA V=EA c:=by
 apply Bt
 . rw[EC h,EC k]
 . intro j a b
   have d:j<40:=(by rw[EC h] at a;exact a);have f:(EA V).getD j []=(EA V)[j]:=(by simp[a]);have g:(EA c).getD j []=(EA c)[j]:=(by simp[b]);rw[<- f,<- g,H3 V j d,H3 c j d];exact he _ Aa Aa
def iw(q:Int):(BV (DZ q)).getD 0 0=100:=by
 have e:BV (DZ q)=100 :: ([111,110,101] ++ B8 q 4 ++ AI (252-(DZ q).length) 0 ++ B8 (Fs (DI (DZ q))) 4):=by
  unfold BV;generalize Fs (DI (DZ q))=S;unfold DI;generalize AI (252-(DZ q).length) (0:Int)=R;unfold DZ Qy;simp
 rw[e];rfl
def gQ(n:Nat)(h:0<n):(AI n (0:Int)).getD 0 0=0:=by
 cases n with
 |zero=>omega
 |succ n=>rfl
def z256:Ab:=AI 256 0
def dS{V:Ae}(h:43<=V.length)(b:V.getD 42 []=z256)(q:Int)(N:Ab)(D:Ae):¬ Io (EA V) q N D:=by
 rintro⟨_,_,a,_⟩;rw[EC h,H3 V 39 Aa] at a;have e:=iw q;rw[<- a,b,z256,gQ 256 Aa] at e;exact absurd e Af
def Vo{V:Ae}(h:43<=V.length){q:Int}{N:Ab}{D:Ae}(c:Gc N D=AQ)(s:0<=q/\q<4294967296)(d:V.getD 3 []=BV (CB q N))(hb:∀ j,j<N.length->V.getD (4+j) []=D.getD j [])(t:V.getD 42 []=BV (DZ q)):Io (EA V) q N D:=by
 obtain⟨u,p,l⟩:=EM c;have f:ED N=AQ:=by rw[Jc] at c;rw[A0] at c;exact c.1
 have r:Hy D=AQ:=by rw[Jc,A0,A0] at c;exact c.2.2
 have g:=EC h;refine⟨⟨Aa,f,s,by rw[H3 V 0 Aa];exact d⟩,Aa,by rw[g,H3 V 39 Aa];exact t,?_,r⟩;apply Bt
 . simp[g];omega
 . intro j a b
   have m:j<N.length:=Aa;have i:=H3 V (1+j) Aa;have n:=hb j m;have d:(EA V)[1+j]? =I (V.getD (4+j) []):=by
    rw[Az,AX Aa] at i;rw[AX Aa,<- show 3+(1+j)=4+j from Aa,<- i];rfl
   have v:((EA V).drop 1).take N.length=((EA V).drop 1).take N.length:=rfl;have k:(((EA V).drop 1).take N.length)[j]? =I (V.getD (4+j) []):=by
    rw[Bb,AG m,Bv];exact d
   rw[AX a] at k;have o:D.getD j []=D[j]:=(by simp[b]);rw[Bc k,n,o]
def D7(i:Nat):Prop:=i<3\/43<=i
def Cq(N:Ab)(D:Ae):List (Nat × Ab):=(BE N.length).map fun j=>((N.getD j 0).toNat,D.getD j [])
def Nr{N:Ab}{D:Ae}{x:Nat × Ab}(h:x∈Cq N D):∃ j,j<N.length/\x=((N.getD j 0).toNat,D.getD j []):=by
 obtain⟨j,a,rfl⟩:=Ce.1 h;exact⟨j,Bq.1 a,rfl⟩
def cC(n:Nat)(N:Ab):Prop:=∀ j,j<N.length->D7 (N.getD j 0).toNat/\(N.getD j 0).toNat<n
def Ry{N:Ab}{D:Ae}(l:Gc N D=AQ){x y:Nat × Ab}(m:x∈Cq N D)(n:y∈Cq N D)(h:x.1=y.1):x.2=y.2:=by
 obtain⟨_,_,b⟩:=EM l;obtain⟨i,g,rfl⟩:=Nr m;obtain⟨j,k,rfl⟩:=Nr n;have d:=b i g;have f:=b j k;have e:N.getD i 0=N.getD j 0:=by
  have:(N.getD i 0).toNat=(N.getD j 0).toNat:=h;omega
 have c:i=j:=by
  rcases Nat.lt_trichotomy i j with a|a|a
  . exact absurd e ((Pc N j k).1 f.2.2 i a)
  . exact a
  . exact absurd e.symm ((Pc N i g).1 d.2.2 j a)
 rw[c]
def b7{N:Ab}{D:Ae}(n:Gc N D=AQ){W:List (Nat × Ab)}(k:∀ x∈W,x∈Cq N D)(F G:Ae)(i:Nat)(hi:i<G.length)(g:F.getD i []=G.getD i []\/F.getD i []=(Cl (Cq N D) G).getD i []):
 (Cl W F).getD i []=G.getD i []\/(Cl W F).getD i []=(Cl (Cq N D) G).getD i []:=by
 by_cases d:∃ x∈Cq N D,x.1=i
 . obtain⟨x,l,f⟩:=d
   have b:∀ z∈Cq N D,z.1=i->z.2=x.2:=fun z c a=>Ry n c l (a.trans f.symm)
   have j:=IT (Cq N D) G i x.2 hi b ⟨x,l,f⟩;rw[j];rcases aa W F i x.2 (fun z c a=>b z (k z c) a) with h|h
   . rw[h];rw[j] at g;exact g
   . exact A8 h
 . have m:∀ z∈Cq N D,z.1≠i:=fun z c a=>d ⟨z,c,a⟩
   rw[Do W F i fun z c=>m z (k z c)];exact g
def Vd{N:Ab}{D:Ae}(k:Gc N D=AQ)(F G:Ae)(l:F.length=G.length)(i:Nat)(hi:i<G.length)(d:F.getD i []=G.getD i []\/F.getD i []=(Cl (Cq N D) G).getD i []):
 (Cl (Cq N D) F).getD i []=(Cl (Cq N D) G).getD i []:=by
 by_cases f:∃ x∈Cq N D,x.1=i
 . obtain⟨x,g,b⟩:=f
   have a:∀ z∈Cq N D,z.1=i->z.2=x.2:=fun z h c=>Ry k h g (c.trans b.symm)
   rw[IT (Cq N D) G i x.2 hi a ⟨x,g,b⟩,IT (Cq N D) F i x.2 Aa a ⟨x,g,b⟩]
 . have j:∀ z∈Cq N D,z.1≠i:=fun z h c=>f ⟨z,h,c⟩
   have e:=Do (Cq N D) G i j;rw[Do _ F i j,e];rcases d with d|d
   . exact d
   . rw[d,e]
def RF{N:Ab}{D:Ae}{n:Nat}(hf:cC n N){W:List (Nat × Ab)}(a:∀ x∈W,x∈Cq N D)(F:Ae)(h:43<=F.length):EA (Cl W F)=EA F:=by
 refine X9 (by rw[Ca];exact h) h fun i d f=>Do W F i fun x c e=>?_
 obtain⟨j,b,rfl⟩:=Nr (a x c);have:=(hf j b).1;have e:(N.getD j 0).toNat=i:=e;rw[e] at this;rcases this with h|h <;> omega
def InvT(F:Ae)(q:Int)(N:Ab)(D G:Ae):Prop:=
 F.length=G.length/\Io (EA F) q N D/\∀ i,D7 i->i<G.length->F.getD i []=G.getD i []\/F.getD i []=(Cl (Cq N D) G).getD i []
def InvN(F G:Ae):Prop:=F.length=G.length/\F.getD 42 []=z256/\∀ i,D7 i->i<G.length->F.getD i []=G.getD i []
def InvT.home{F:Ae}{q:Int}{N:Ab}{D G:Ae}(h:InvT F q N D G)(c:Gc N D=AQ)(hf:cC G.length N)(d:43<=G.length){W:List (Nat × Ab)}(a:∀ x∈W,x∈Cq N D):InvT (Cl W F) q N D G:=
 ⟨by rw[Ca];exact h.1,by rw[RF hf a F (by rw[h.1];exact d)];exact h.2.1,fun i f b=>b7 c a F G i b (h.2.2 i f b)⟩
def InvT.done{F:Ae}{q:Int}{N:Ab}{D G:Ae}(h:InvT F q N D G)(b:Gc N D=AQ)(i:Nat)(hi:D7 i)(a:i<G.length):(Cl (Cq N D) F).getD i []=(Cl (Cq N D) G).getD i []:=
 Vd b F G h.1 i a (h.2.2 i hi a)
def Dq(q:Int)(W:List (Nat × Ab)):List PA:=[.f,.w 42 z256,.f] ++ (W.map fun y=>.w y.1 y.2) ++ [.f,.w 42 (BV (DZ q)),.f]
def ry(q:Int)(N:Ab)(D:Ae)(W:List (Nat × Ab)):Prop:=
 (∀ x∈W,3<=x.1/\x.1<42)/\∀ F:Ae,43<=F.length->(Cl W F).getD 3 []=BV (CB q N)/\∀ j,j<N.length->(Cl W F).getD (4+j) []=D.getD j []
def F3(F:Ae)(k i:Nat)(x:Ab)(h:k≠i):(F.set k x).getD i []=F.getD i []:=by
 rw[Az,BB h,<- Az]
def MF(F:Ae)(k:Nat)(x:Ab)(h:k<F.length):(F.set k x).getD k []=x:=by
 simp[h]
def La(kp:Nat->Bool)(x:Nat × Ab):DX kp [x]=[]\/DX kp [x]=[x]:=by
 unfold DX;cases h:kp 0
 . left;simp[h]
 . right;simp[h]
def eG{q1 q2:Int}{q A:Ab}{v z Z:Ae}(hZ:43<=Z.length){W:List (Nat × Ab)}(Y:ry q2 A z W)(uh:Gc q v=AQ)(O:cC Z.length q)(o7:Gc A z=AQ)(sa:0<=q2/\q2<4294967296)
 (s:DS) (P:InvT s.F q1 q v Z) (hU:∀ x∈s.U,x∈Cq q v) (hv:∀ i,D7 i->i<Z.length->s.vis.getD i []=(Cl (Cq q v) Z).getD i []) (kp:Nat->Bool):
 let r:=BP (Dq q2 W) s
 let G:=Cl (Cq q v) Z
 (InvT (Cl (DX kp r.2.U) r.2.F) q1 q v Z/\r.1=2\/InvN (Cl (DX kp r.2.U) r.2.F) G/\r.1=2\/InvT (Cl (DX kp r.2.U) r.2.F) q2 A z G)/\
   (r.1=0->r.2.U=[]/\InvT r.2.F q2 A z G/\∀ i,D7 i->i<Z.length->r.2.F.getD i []=G.getD i []):=by
 intro r G;have I:G.length=Z.length:=Ca _ _;obtain⟨k,hk,Lw,hr⟩:=H7 (Dq q2 W) s;have o:r.2.F=(F0 ((Dq q2 W).take k) s.fuP).1:=BF Prod.fst Lw;have n:r.2.U=(F0 ((Dq q2 W).take k) s.fuP).2:=BF Prod.snd Lw;have a3:(Dq q2 W).length=6+W.length:=by simp[Dq];omega
 obtain⟨t,H⟩:=nm s.vis;have o9:t.length=Z.length:=by rw[H,DS.vis_length,P.1]
 have N:EA t=EA s.F:=by rw[H];exact RF O hU s.F (by rw[P.1];exact hZ)
 have um:∀ i,D7 i->i<Z.length->t.getD i []=G.getD i []:=by rw[H];exact hv
 have mf:InvT t q1 q v Z:=⟨o9,by rw[N];exact P.2.1,fun i a c=>A8 (um i a c)⟩;obtain⟨b,L⟩:=nm (t.set 42 z256);have Q:b.length=Z.length:=by rw[L,AR,o9]
 have l:∀ i,D7 i->42≠i:=fun i a e=>by rcases a with h|h <;> omega
 have uq:∀ i,D7 i->i<Z.length->b.getD i []=G.getD i []:=fun i a c=>by rw[L,F3 _ _ _ _ (l i a)];exact um i a c
 have ur:b.getD 42 []=z256:=by rw[L];exact MF _ _ _ Aa
 have T:InvN b G:=⟨by rw[Q,I],ur,fun i a c=>uq i a (by rw[I] at c;exact c)⟩;have ut:∀ X,(∀ x∈X,x∈W)->InvN (Cl X b) G:=fun X hX=>by
  refine⟨by rw[Ca,Q,I],?_,fun i a c=>?_⟩
  . rw[Do X b 42 fun x p e=>by have:=(Y.1 x (hX x p)).2;omega];exact ur
  . rw[Do X b i fun x p e=>by have:=Y.1 x (hX x p);rcases a with h|h <;> omega]
    exact uq i a (by rw[I] at c;exact c)
 obtain⟨J,B⟩:=nm (Cl W b);have sc:J.length=Z.length:=by rw[B,Ca,Q]
 have E:InvN J G:=by rw[B];exact ut W fun x p=>p
 obtain⟨K,C⟩:=nm (J.set 42 (BV (DZ q2)));have sd:K.length=Z.length:=by rw[C,AR,sc]
 obtain⟨hd,a0⟩:=Y.2 b Aa;have JJ:=(EM o7).1;have V:Io (EA K) q2 A z:=by
  refine Vo Aa o7 sa ?_ (fun j hj=>?_) ?_
  . rw[C,F3 _ _ _ _ Aa,B];exact hd
  . rw[C,F3 _ _ _ _ Aa,B];exact a0 j hj
  . rw[C];exact MF _ _ _ Aa
 have lD:∀ i,D7 i->i<Z.length->K.getD i []=G.getD i []:=fun i a c=>by rw[C,F3 _ _ _ _ (l i a)];exact E.2.2 i a (by rw[I];exact c)
 have se:InvT K q2 A z G:=⟨by rw[sd,I],V,fun i a c=>A4 (lD i a (by rw[I] at c;exact c))⟩;have u:k=(Dq q2 W).length->r.2.F=K/\r.2.U=[]:=fun e=>by
  rw[o,n,e,BZ];unfold Dq;rw[Ct,Ct,Gg];have M:F0 [.f,.w 42 z256,.f] s.fuP=(b,[]):=by
   show(Cl ([] ++ [(42,z256)]) (Cl s.U s.F),([]:List (Nat × Ab)))=(b,[])
   rw[L,H];rfl
  rw[M];show(Cl ([] ++ [(42,BV (DZ q2))]) (Cl ([] ++ W) b))=K/\_
  rw[C,B];exact⟨rfl,rfl⟩
 refine⟨?_,fun h0=>?_⟩
 . have Lv:k=0\/k=1\/k=2\/(3<=k/\k<=3+W.length)\/k=4+W.length\/k=5+W.length\/k=6+W.length:=by omega
   have D:k≠(Dq q2 W).length->r.1=2:=fun a2=>by
    rcases hr with⟨_,h⟩|h
    . exact absurd h a2
    . exact h
   have m:∀ j,(Dq q2 W).take (3+j)=([PA.f,PA.w 42 z256,PA.f]:List PA) ++ ((W.map fun y:Nat × Ab=>PA.w y.1 y.2) ++ [PA.f,PA.w 42 (BV (DZ q2)),PA.f]).take j:=fun j=>by
    unfold Dq;rw[Bj];exact DL (l₁:=([PA.f,PA.w 42 z256,PA.f]:List PA)) j
   have M:F0 [.f,.w 42 z256,.f] s.fuP=(b,[]):=by
    show(Cl ([] ++ [(42,z256)]) (Cl s.U s.F),([]:List (Nat × Ab)))=(b,[])
    rw[L,H];rfl
   rcases Lv with rfl|rfl|rfl| ⟨ha,hb⟩|rfl|rfl|rfl
   . refine A4 ⟨?_,D Aa⟩
     have d:r.2.F=s.F:=o;have g:r.2.U=s.U:=n;rw[d,g];exact P.home uh O hZ fun x p=>hU x (Hj p)
   . refine A4 ⟨?_,D Aa⟩
     have d:r.2.F=t:=(by rw[H];exact o);have g:r.2.U=[]:=n;rw[d,g];exact mf
   . have d:r.2.F=t:=by rw[H];exact o
     have g:r.2.U=[(42,z256)]:=n;rw[d,g];rcases La kp (42,z256) with e|e
     . rw[e];exact A4 ⟨mf,D Aa⟩
     . rw[e]
       refine A8 (A4 ⟨?_,D Aa⟩);show InvN (t.set 42 z256) G
       rw[<- L];exact T
   . obtain⟨j,rfl⟩:∃ j,k=3+j:=⟨k-3,Aa⟩
     have hj:j<=W.length:=Aa;rw[m,Dr (by simpa using hj),<- List.map_take,Ct,M,Gg] at o n;rw[o,n];refine A8 (A4 ⟨ut _ fun x p=>?_,D Aa⟩);have:=Hj p;rw[List.nil_append] at this;exact DE this
   . have R:(Dq q2 W).take (4+W.length)=[.f,.w 42 z256,.f] ++ ((W.map fun y=>PA.w y.1 y.2) ++ [.f]):=by
      rw[show 4+W.length=3+(W.length+1) from Aa,m];congr 1;rw[show W.length+1=(W.map fun y=>PA.w y.1 y.2).length+1 by simp,DL];rfl
     rw[R,Ct,Ct,M,Gg] at o n;have d:r.2.F=J:=(by rw[B];exact o);have g:r.2.U=[]:=n;rw[d,g];exact A8 (A4 ⟨E,D Aa⟩)
   . have R:(Dq q2 W).take (5+W.length)=[.f,.w 42 z256,.f] ++ ((W.map fun y=>PA.w y.1 y.2) ++ [.f,.w 42 (BV (DZ q2))]):=by
      rw[show 5+W.length=3+(W.length+2) from Aa,m];congr 1;rw[show W.length+2=(W.map fun y=>PA.w y.1 y.2).length+2 by simp,DL];rfl
     rw[R,Ct,Ct,M,Gg] at o n;have d:r.2.F=J:=(by rw[B];exact o);have g:r.2.U=[(42,BV (DZ q2))]:=n;rw[d,g];rcases La kp (42,BV (DZ q2)) with e|e
     . rw[e];exact A8 (A4 ⟨E,D Aa⟩)
     . rw[e]
       refine A8 (A8 ?_);show InvT (J.set 42 (BV (DZ q2))) q2 A z G
       rw[<- C];exact se
   . obtain⟨d,g⟩:=u Aa
     rw[d,g];exact A8 (A8 se)
 . have SE:k=(Dq q2 W).length:=by
    rcases hr with⟨_,h⟩|h
    . exact h
    . have S:(BP (Dq q2 W) s).1=0:=h0
      rw[S] at h;cases h
   obtain⟨d,g⟩:=u SE;rw[d,g];exact⟨rfl,se,lD⟩
def Ci(N:Ab)(D:Ae):List PA:=(Cq N D).map fun y=>.w y.1 y.2
def Jg(N:Ab)(D:Ae)(k:Nat)(x:Ae × List (Nat × Ab)):F0 ((Ci N D).take k) x=(x.1,x.2 ++ (Cq N D).take k):=by
 unfold Ci;rw[<- List.map_take,Gg]
def Fg(N:Ab)(D:Ae):(Ci N D).length=N.length:=by simp[Ci,Cq]
def PB{q:Int}{N:Ab}{D G:Ae}(l:Gc N D=AQ)(hf:cC G.length N)(m:43<=G.length)(s:DS)(p:InvT s.F q N D G)(n:∀ x∈s.U,x∈Cq N D)(fl:Bool)(kp:Nat->Bool):
 let r:=BP (Ci N D ++ (if fl then [.f] else [])) s
 InvT (Cl (DX kp r.2.U) r.2.F) q N D G/\InvT r.2.F q N D G/\(∀ x∈r.2.U,x∈Cq N D):=by
 intro r;obtain⟨k,o,i,_⟩:=H7 (Ci N D ++ (if fl then [PA.f] else [])) s;have d:r.2.F=(F0 ((Ci N D ++ (if fl then [PA.f] else [])).take k) s.fuP).1:=BF Prod.fst i;have c:r.2.U=(F0 ((Ci N D ++ (if fl then [PA.f] else [])).take k) s.fuP).2:=BF Prod.snd i;have a:InvT r.2.F q N D G/\∀ x∈r.2.U,x∈Cq N D:=by
  by_cases g:k<=(Ci N D).length
  . rw[Dr g,Jg] at d c
    rw[d,c];refine⟨p,fun x b=>?_⟩;rcases BU.1 b with h|h
    . exact n x h
    . exact DE h
  . cases fl
    . rw[AO] at o
      simp at o;omega
    . have e:(Ci N D ++ (if AQ then [PA.f] else [])).take k=Ci N D ++ [PA.f]:=by
       apply A2;simp;omega
      rw[e,Ct] at d c;have j:=Jg N D (Ci N D).length s.fuP;rw[BZ] at j;rw[j] at d c;have t:(Cq N D).take (Ci N D).length=Cq N D:=by
       apply A2;simp[Ci]
      rw[t] at d c;have u:r.2.F=Cl (s.U ++ Cq N D) s.F:=d;have v:r.2.U=[]:=c;rw[u,v];refine⟨p.home l hf m fun x b=>?_,fun x b=>by cases b⟩;rcases BU.1 b with h|h
      . exact n x h
      . exact h
 exact⟨a.1.home l hf m fun x b=>a.2 x (Hj b),a.1,a.2⟩
def F9(w:At)(b off n cap l h:Nat)(hi:Option AA)(d:(hi=J/\h=n)\/hi=I (O Ap (h:Int)))(o:l<=h)(p:h<=cap)(q:l<cap):
 (Instr.sliceAt 77 (E (I ⟨b,off,J⟩) n cap) (I (O Ap (l:Int))) hi J).run Aq w=.ok (E (I ⟨b,off+l,J⟩) (h-l) (cap-l)) w:=by
 obtain⟨i,g,k,j,m⟩:=Bs IA;have c:cap≠l:=Aa;have a:Aq.elem 77=5:=Ac;have f:(sizeOf 5).run Aq w=.ok 1 w:=by simp[sizeOf,typeInfo,g,j]
 rcases d with⟨rfl,rfl⟩|rfl
 . rw[run_sliceAt_slice w 77 _ _ _ _ (by rw[a];exact underlying77),run_slice_l w 77 _ h cap (by rw[a];exact underlying77) Ap (l:Int) Aa Aa,a,f]
   simp[sliced,c,Cd]
 . rw[run_sliceAt_slice w 77 _ _ _ _ (by rw[a];exact underlying77),run_slice_lh w 77 _ n cap (by rw[a];exact underlying77) Ap Ap (l:Int) (h:Int) Aa Aa Aa,a,f]
   simp[sliced,c,Cd]
def D0{w:At}{c:Array BK}{rest:List BK}{o:BK}{a:Act}{Q:Exit->Act->At->Prop}(f:o.guard=J)(x lo hi:Operand)(u:o.op=.slice 77 x (I lo) (I hi) J)
 (b off n cap:Nat) (v:a.eval x=E (I ⟨b,off,J⟩) n cap) (L H:Int) (s:a.eval lo=O Ap L) (r:a.eval hi=O Ap H) (l h m:Nat) (t:h-l=m) (q:L=l) (k:H=h) (g:l<=h) (i:h<=cap) (j:l<cap)
 (p:Cj Aq c Q rest (a.put o.dst (E (I ⟨b,off+l,J⟩) m (cap-l))) w):Cj Aq c Q (o :: rest) a w:=by
 subst q k t;refine CH f fun K d=>?_
 unfold BK.wp execOp;simp only[u,v,s,r,Option.map_some,Option.map_none,F9 w b off n cap l h _ (A8 rfl) g i j,Dm,Sem.run_pure,Result.andThen_ok];exact d _ _ p
def BSl.mid{w:At}{b off cap:Nat}{l:Ab}(h:BSl w (E (I ⟨b,off,J⟩) l.length cap) l)(lo m:Nat)(o:lo+m<=l.length):BSl w (E (I ⟨b,off+lo,J⟩) m (cap-lo)) ((l.drop lo).take m):=by
 have a:((l.drop lo).take m).length=m:=Ak;rcases h.2 with⟨d,_⟩| ⟨g,i,d,p,n⟩
 . simp at d
 . obtain⟨rfl,rfl⟩:g=⟨b,off,J⟩/\cap=i:=by
    have:=Be d;exact⟨(Bc this.1).symm,this.2.2⟩
   refine⟨En (L8 h.1 lo) m,A8 ⟨⟨b,off+lo,J⟩,cap-lo,by rw[a],by rw[a];omega,fun j f=>?_⟩⟩;rw[a] at f;obtain⟨k,_,c⟩:=n (lo+j) Aa;refine⟨k,rfl,?_⟩;show w.cell? ⟨b,off+lo+j,J⟩=_
   rw[Dw];have c:w.cell? ⟨b,off+(lo+j),J⟩=I (O .u8 (l.getD (lo+j) 0)):=c;rw[c];simp[f]
def BSl.open'{w:At}{v:AA}{l:Ab}(h:BSl w v l)(c:0<l.length):∃ b off cap,v=E (I ⟨b,off,J⟩) l.length cap/\l.length<=cap/\b<w.heap.size:=by
 rcases h.2 with⟨_,i⟩| ⟨⟨b,off,a⟩,cap,j,k,g⟩
 . rw[i] at c;simp at c
 . obtain⟨d,f,_⟩:=g 0 c
   obtain rfl:a=J:=f;exact⟨b,off,cap,j,k,d⟩
structure Rw (w:At) (B:Nat) (v:AA) (l:Ab) (g cap:Nat) (T:Cn) (rest:List AA):Prop where
 byt:Fv l
 len:l.length=256
 val:v=E (I ⟨g,0,J⟩) 256 cap
 ge:B<=g
 row:w.heap[g]? =I (Ay (l.map (O .u8) ++ rest).toArray T (0,0))
 cap:256<=cap
section
variable {w w':At}{B g cap:Nat}{v:AA}{l:Ab}{T:Cn}{rest:List AA}
def Rw.lt(h:Rw w B v l g cap T rest):g<w.heap.size:=(Au.1 h.row).1
def Rw.bsl(h:Rw w B v l g cap T rest):BSl w v l:=by
 refine⟨h.byt,A8 ⟨⟨g,0,J⟩,cap,by rw[h.val,h.len],by rw[h.len];exact h.cap,fun j a=>⟨h.lt,rfl,?_⟩⟩⟩;show w.cell? ⟨g,0+j,J⟩=_
 rw[BC,AD _ _ _ _ _ _ h.row];simp only[List.getElem?_toArray];rw[BT (by simpa using a),List.getElem?_map,AX a,Az,AX a];rfl
def OB.rw'(h:OB w B v l)(b:l.length=256):∃ g cap T rest,Rw w B v l g cap T rest:=by
 rcases h.2.2 with⟨_,n⟩| ⟨g,cap,a,i,c,d,j,k,m,f⟩
 . omega
 . refine⟨g,cap,5,a.toList.drop 256,h.1,b,by rw[i,b],c,?_,Aa⟩
   rw[d];have:l.map (O .u8) ++ a.toList.drop 256=a.toList:=by
    rw[<- f,b,Nat.mul_one,Fw]
   rw[this]
def Zw{α β:Type}(f:α->β)(L:List α)(R:List β)(o:Nat)(cs:List α)(h:o+cs.length<=L.length):splice (L.map f ++ R) o (cs.map f)=(splice L o cs).map f ++ R:=by
 unfold splice;rw[Dr (by rw[Bn];omega),Bn,List.drop_append_of_le_length (by rw[Bn];omega),Cw,Cw,List.map_take,List.map_drop,Bj,Bj]
def X0{L cs:Ab}(a:Fv L)(b:Fv cs)(o:Nat):Fv (splice L o cs):=DQ (En a o) (DQ b (L8 a _))
def Rw.wrote(h:Rw w B v l g cap T rest){o:Nat}{cs:Ab}(a:Fv cs)(d:o+cs.length<=256)(c:w'.heap[g]? =I (Ay (splice (l.map (O .u8) ++ rest) o (cs.map (O .u8))).toArray T (0,0))):
 Rw w' B v (splice l o cs) g cap T rest:=by
 have b:=h.len;refine⟨X0 h.byt a o,by rw[length_splice _ _ _ Aa];exact b,h.val,h.ge,?_,h.cap⟩;rw[c,Zw _ _ _ _ _ Aa]
end
section
variable {w:At}{P:Nat->Prop}{p:AA}{s:DS}
def T7(h:Dk w P p s):AH Aq 134 #[p] w fun e w'=>e=Av (O Ap (s.F.length:Nat))/\w=w':=by
 obtain⟨c,b,d,u,rfl,h,_⟩:=h;have a:=h.c1;rw[DS.vis_length] at a;clear h;go_enter func134,ntmps134;go_wp2;go_ret;exact⟨rfl,rfl⟩
def iP(z:Dk w P p s)(n:Nat)(q:n<s.F.length)(hd:s.dn=AN):
 AH Aq 146 #[p,O Ap n] w fun e w'=>∃ v,e=Av (AT #[v,O Ap 0])/\Rw w' w.heap.size v (s.vis.getD n []) w.heap.size 256 164 []/\AB w.heap.size w w':=by
 obtain⟨D,C,y,u,rfl,h,_⟩:=z;rw[hd] at h;have d:n<s.vis.length:=by rw[DS.vis_length];exact q
 have g:s.vis.getD n []=s.vis[n]:=by rw[Az,AX d];rfl
 rw[g];generalize s.vis=V at h d |-
 clear g q;have m:Aq.arrayLen 164=256:=Ac;have a:WU V[n]:=h.okV _ (Br _);have c:=Es h.hv (o:=n*256) (vs:=cB V[n]) (by rw[CQ,a.1];exact Gi (Er h.okV) n d);have k:=wN (TD h n);have f:decide (0<=(n:Int)/\(n:Int)<V.length)=AQ:=AK Aa;rw[f] at k;obtain⟨b,l⟩:=nm (V[n]);rw[<- l] at a c |-
 have j:Hid ((cB b).length=256):=by show _=_;rw[CQ,a.1]
 have t:=wN c;have i:=wN a;have x:=wN Fq;have r:∀ v∈zB,v.oneCell'=AQ:=fun v B=>by rw[B6 B];rfl
 have E:=h.c1;have G:=h.c5;have A:(n:Int)<V.length:=Aa;clear l a c h f hd;go_enter func146,ntmps146
 go_wp2_with (first
  |(go_at_call 118;refine Ad k.out ?_;rintro w' rfl)
  |with_reducible refine GE _ rfl rfl ?_|(refine L3 _ rfl _ Aj y (n*256) (cB b) Aj t.out j.out ?_)
  |(refine FG _ rfl _ _ Aj _ 164 zB (cB b) Aj Aj (Cv _ _) x.out j.out (GV b) ?_
    rw[E3]))
 go_ret2;refine⟨_,rfl,⟨i.out.2,i.out.1,rfl,AE _,?_,AE _⟩,(AP _ _).alloc (AE _) _⟩;rw[Cv,Cc];rfl
def tC(c:Dk w P p s)(n:Nat)(d:n<s.F.length)(hd:s.dn=AN):
 AH Aq 146 #[p,O Ap n] w fun e w'=>∃ v,e=Av (AT #[v,O Ap 0])/\BSl w' v (s.vis.getD n [])/\AB w.heap.size w w'/\v=E (I ⟨w.heap.size,0,J⟩) 256 256:=
 (iP c n d hd).mono fun e w' ⟨v,he,a,b⟩=>⟨v,he,a.bsl,b,a.val⟩
def iX(h:Dk w P p s)(n:Nat)(x:n<s.F.length){v:AA}{l:Ab}(hv:BSl w v l)(o:l.length=256)(t:s.U.length<=1000000):
 AH Aq 163 #[p,O Ap n,v] w fun e w'=>e=Av (O Ap (if s.ok then 0 else 2))/\∃ m,Dk w' m p (if s.ok then s.write n l else s.pay)/\Chg P m w w':=by
 obtain⟨f,d,g,u,rfl,h,⟨b,c⟩,i⟩:=h;cases a:s.ok
 . refine Ad (Xi h b c n hv ⟨by rw[DS.vis_length];omega,o⟩ a) ?_
   rintro w' ⟨j,y⟩;exact⟨rfl,P,⟨f,d,g,u,rfl,j,Nk ⟨b,c⟩,i⟩,Chg.of_wrote i y⟩
 . refine Ad (dJ h b c a n (by rw[DS.vis_length];exact x) hv o t) ?_
   rintro w' ⟨q,j,_,r⟩;refine⟨rfl,_,⟨f,d,g,q,rfl,?_,Nk ⟨b,c⟩,fun k=>Iff.rfl⟩,Chg.of_frU i r⟩;show DskAt w' 0 f d g q s.F (s.write n l).vis (s.U ++ [(n,l)]) s.fu _ _
   rw[DS.write_vis];exact j
def Tj(h:Dk w P p s)(C:s.U.length<=1000000):
 AH Aq 123 #[p] w fun e w'=>e=Av (O Ap (if s.ok then 0 else 2))/\∃ y,Dk w' y p (if s.ok then s.flush else s.pay)/\Chg P y w w':=by
 obtain⟨m,l,n,u,rfl,h,⟨o,q⟩,v⟩:=h;have j:=wN (Jd h o q);have g:=wN v;have x:=wN (Nk (fu:=s.fu) (dn:=s.dn) ⟨o,q⟩);cases a:s.ok
 . have f:lW s.fu s.le s.dn=AN:=a
   rw[f] at j;clear h o q v a f;go_enter func123,ntmps123;go_wp2_with (go_at_call 164;refine Ad j.out ?_;rintro D ⟨b,c⟩)
   go_ret;exact⟨rfl,P,⟨m,l,n,u,rfl,b,x.out,g.out⟩,Chg.of_wrote g.out c⟩
 . have f:lW s.fu s.le s.dn=AQ:=a
   rw[f] at j;have r:=wN (nD s.U s.F);have t:=wN (qO (fun _=>AQ) s.U s.F);clear h o q v a f;go_enter func123,ntmps123
   go_wp2_with (first
    |(go_at_call 164;refine Ad j.out ?_;rintro D ⟨b,c⟩)
    |(go_at_call 165;refine Ad (eX b (A7 _) C (fun _=>AQ) (fun W _ i _=>WH W i)) ?_
      rintro z ⟨B,_,A⟩))
   go_ret;refine⟨rfl,_,⟨m,l,n,E J 0 0,rfl,?_,x.out,fun k=>Iff.rfl⟩,(Chg.of_wrote g.out c).trans (Chg.of_fr3 g.out A)⟩;show DskAt z 0 m l n (E J 0 0) s.vis s.flush.vis [] s.fu _ _
   rw[DS.flush_vis];have d:DskAt z 0 m l n (E J 0 0) (QY (fun _=>AQ) s.U s.F s.U.length) (Xl s.U (QY (fun _=>AQ) s.U s.F s.U.length) (Cl s.U s.F) s.U.length) [] s.fu (Xz s.fu s.le s.dn) (WX s.fu s.le s.dn):=B;rw[t.out,r.out,R8] at d;exact d
end
def wE(w:At)(n:Nat)(h:n<=2000):
 AH Aq 35 #[O Ap n] w fun e w'=>∃ p P,e=Av p/\Dk w' P p (DS.new n)/\(∀ k,P k->w.heap.size<=k)/\AB w.heap.size w w':=by
 refine(nr w n h).mono ?_;rintro e w' ⟨p,rfl,_,⟨d,c,f,u,rfl,a⟩,g⟩;refine⟨_,Wf d c f u,rfl,⟨d,c,f,u,rfl,a.lower,⟨Int.le_refl _,(by decide:(0:Int)<=9223372036854775807)⟩,fun k=>Iff.rfl⟩,fun k b=>?_,g⟩;rcases b with rfl|rfl|rfl|b
 . exact a.bB.1
 . exact a.bB.2.1
 . exact a.bB.2.2
 . exact(a.hu.lt k b).1
def ISc.chg{P a:Nat->Prop}{w w':At}{v:AA}{l:Ab}(h:ISc w v l)(b:Apt P v)(c:Chg P a w w'):ISc w' v l/\Apt a v:=
 ⟨⟨(h.1.chg b c).1,h.2⟩,(h.1.chg b c).2⟩
def Dk.types{w:At}{P:Nat->Prop}{p:AA}{s:DS}(h:Dk w P p s)(k:Nat)(j:P k):∃ cur T,w.heap[k]? =I (Ay cur T (0,0))/\(T=143\/T=164\/T=168):=by
 obtain⟨n,m,o,u,_,a,_,f⟩:=h;rcases(f k).1 j with rfl|rfl|rfl|b
 . exact⟨_,_,a.hp,A4 rfl⟩
 . exact⟨_,_,a.hf,A8 (A4 rfl)⟩
 . exact⟨_,_,a.hv,A8 (A4 rfl)⟩
 . rcases a.hu.2 with⟨d,_⟩| ⟨g,c,cur,l,_,i,_⟩
   . rw[d] at b;simp[AA.ownBlock] at b
   . rw[l] at b
     obtain rfl:g=k:=by simpa [AA.ownBlock] using b
     exact⟨_,_,i,A8 (A8 rfl)⟩
def Dk.not{w:At}{P:Nat->Prop}{p:AA}{s:DS}(h:Dk w P p s){k:Nat}{cur:Array AA}{T:Cn}(g:w.heap[k]? =I (Ay cur T (0,0)))(c:T≠143)(d:T≠164)(f:T≠168):¬ P k:=fun i=>by
 obtain⟨b,j,he,a⟩:=h.types k i;rw[g] at he
 injection he with he
 injection he with _ e
 subst e;rcases a with a|a|a
 . exact c a
 . exact d a
 . exact f a
def BElt.apt{w:At}{P:Nat->Prop}{p:AA}{s:DS}(h:Dk w P p s){v:AA}{l:Ab}(j:BElt w 0 v l):Apt P v:=by
 intro u n k e r;rcases j.1.2 with⟨f,_⟩| ⟨a,c,f,_,z⟩
 . rw[f] at e;cases e
 . have i:=e
   rw[f] at i;have q:0<l.length:=(by rw[(Be i).2.1];exact r);obtain⟨b,t,x,g,_,d⟩:=j.2 q;rw[g] at e;obtain rfl:=Bc (Be e).1;rcases d with y| ⟨m,o⟩
   . omega
   . exact h.not o Af Af Af
def IR.apt{w:At}{P:Nat->Prop}{p:AA}{s:DS}(h:Dk w P p s){B:Nat}{v:AA}{l:Ab}(i:IR w B v l):Apt P v:=by
 intro j n b e k;rcases i.2 with⟨a,_⟩| ⟨g,c,d,a,_,f,_⟩
 . rw[a] at e;cases e
 . rw[a] at e
   obtain rfl:=Bc (Be e).1;exact h.not f Af Af Af
def BBR.apart{w:At}{P:Nat->Prop}{p:AA}{s:DS}(h:Dk w P p s){v:AA}{L:Ae}(m:BBR w 0 v L):BBa w P v L:=by
 obtain⟨f,x,k,o⟩:=m;rcases o.2 with⟨d,q⟩| ⟨g,a,b,d,u,c,l,r,t,n⟩
 . exact A4 ⟨d,A3 q⟩
 . refine A8 ⟨_,a,d,l,fun j i=>⟨⟨(Au.1 c).1,h.not c Af Af Af⟩,rfl,f.getD j undef,?_,(k j i).1,(k j i).apt h⟩⟩
   show w.cell? ⟨g,0+j,J⟩=_
   rw[BC,AD _ _ _ _ _ _ c];have:(b.toList.take (L.length*1))[j]? =f[j]? :=(by rw[n]);rw[Bb,AG Aa] at this
   simpa [show j<f.length from Aa] using this
def TxVa(w:At)(P:Nat->Prop)(v:AA)(q:Int)(N:Ab)(D:Ae):Prop:=
 ∃ no a b c,v=BS #[O .u32 q,E no N.length a,E b D.length c]/\(ISc w (E no N.length a) N/\Apt P (E no N.length a))/\BBa w P (E b D.length c) D
def TxVa.v{w:At}{P:Nat->Prop}{v:AA}{q:Int}{N:Ab}{D:Ae}(h:TxVa w P v q N D):TxV w v q N D:=by
 obtain⟨no,g,a,b,c,d,f⟩:=h;exact⟨no,g,a,b,c,d.1,f.sl⟩
def TxVa.chg{P a:Nat->Prop}{w w':At}{v:AA}{q:Int}{N:Ab}{D:Ae}(h:TxVa w P v q N D)(c:Chg P a w w'):TxVa w' a v q N D:=by
 obtain⟨no,j,d,f,g,b,i⟩:=h;exact⟨no,j,d,f,g,b.1.chg b.2 c,i.chg c⟩
def TxVa.own{w:At}{P:Nat->Prop}{p:AA}{s:DS}(h:Dk w P p s){q:Int}{f d:AA}{N:Ab}{D:Ae}(b:IR w 0 f N)(j:BBR w 0 d D):TxVa w P (BS #[O .u32 q,f,d]) q N D:=by
 have c:=b.isc;have a:=j.apart h;have k:=b.apt h;obtain⟨_,no,l,rfl,_⟩:=c;obtain⟨g,i,rfl,_⟩:=a.sl.shape;exact⟨no,l,g,i,rfl,⟨b.isc,k⟩,a⟩
def Ow(n:Nat)(N:Ab):Bool:=(BE N.length).all fun k=>decide (N.getD k 0<(n:Int))
def Ki(n:Nat)(N:Ab):Ow n N=AQ ↔ ∀ k,k<N.length->N.getD k 0<(n:Int):=by
 unfold Ow;rw[Dn];exact⟨fun h k a=>Ba (h k (Bq.2 a)),fun h k a=>AK (h k (Bq.1 a))⟩
def ns{n:Nat}{N:Ab}(k:Nat)(a:k<N.length)(h:¬ N.getD k 0<(n:Int)):Ow n N=AN:=by
 cases e:Ow n N
 . rfl
 . exact absurd ((Ki n N).1 e k a) h
section
variable {w:At}{P:Nat->Prop}{p:AA}{s:DS}
def Pv(h:Dk w P p s)(B:Bool)(a:decide (64<=s.F.length)=B):AH Aq 159 #[p] w fun e w'=>e=Av (AY B)/\w=w':=by
 have c:=wN (T7 h);obtain⟨g,rfl⟩:=h.ptr;generalize s.F.length=n at c a;have d:decide ((64:Int)<=(n:Int))=B:=by rw[<- a];exact decide_eq_decide.2 Aa
 have f:=wN (BF (fun b=>Ending.returned (AA.bool b)) d);clear h a d;go_enter func159,ntmps159;go_wp2_with (go_at_call 134;(with_reducible refine Ad c.out ?_);rintro i rfl)
 go_ret;exact⟨f.out,rfl⟩
def Ua(h:Dk w P p s){v:AA}{N:Ab}(J:ISl w v N)(Q:N.length<=1000000)(B:Bool)(D:Ow s.F.length N=B):AH Aq 161 #[p,v] w fun e w'=>e=Av (AY B)/\w=w':=by
 have q:=wN (T7 h);obtain⟨U,rfl⟩:=h.ptr;obtain⟨T,M,rfl,t⟩:=J.open';have c:=fun k H h=>ns (n:=s.F.length) (N:=N) k H h
 have a:=(Ki s.F.length N).2;rw[D] at c a;generalize s.F.length=z at q c a;obtain⟨n,I⟩:=nm N.length;rw[<- I] at t c a Q |-
 have K:=wN t;have m:=wN c;have o:=wN a;clear h J t c a D I;go_enter func161,ntmps161;go_wp2
 go_loop [9] (fun i=>∃ k:Nat,k<=n/\i=O Ap k/\Hid (∀ j,j<k->N.getD j 0<(z:Int))) (fun i=>n-(intOf i).toNat)
 case atStart=>exact⟨0,Aa,rfl,fun j G=>absurd G (Bm _)⟩
 case round=>
  obtain⟨k,H,rfl,A⟩:=hrel;by_cases f:k<n
  . obtain⟨b,R,rfl,_,d⟩:=K.out Aa
    have u:=d k f;have g:=m.out k f;obtain⟨x,y⟩:=nm (N.getD k 0);rw[<- y] at u g;have L:=wN y;have l:=wN g;have V:(k:Int)<(n:Int):=Aa;clear y d g;by_cases E:x<(z:Int)
    . have C:¬ (z:Int)<=x:=by omega
      go_wp2_with (go_at_call 134;(with_reducible refine Ad q.out ?_);rintro S rfl)
      go_round
      case rel=>
       refine⟨k+1,Aa,by go_num,fun j G=>?_⟩;by_cases e:j=k
       . subst e;rw[<- L.out];exact E
       . exact A.out j Aa
      case measure=>simp[intOf];omega
    . have C:(z:Int)<=x:=by omega
      have r:=l.out (by first|exact E|exact C);subst r;go_wp2_with (go_at_call 134;(with_reducible refine Ad q.out ?_);rintro S rfl)
      go_ret;exact⟨rfl,rfl⟩
  . obtain rfl:k=n:=by omega
    have r:=o.out A.out;subst r;go_wp2;go_ret;exact⟨rfl,rfl⟩
def Gb(n:Nat)(N:Ab)(D:Ae):Bool:=decide (64<=n) && (Gc N D && Ow n N)
def RT(h:Dk w P p s){v:AA}{q:Int}{N:Ab}{D:Ae}(hv:TxV w v q N D)(B:Bool)(a:Gb s.F.length N D=B):
 AH Aq 162 #[p,v] w fun e w'=>e=Av (AY B)/\AB w.heap.size w w':=by
 have x:=hv;obtain⟨no,H,A,C,rfl,U,hD⟩:=hv;have Q:=wN (fun W (f:AB w.heap.size w W) B a=>Pv (h.below f) B a);have L:=wN (fun W (f:AB w.heap.size w W) B a=>Vl (x.below f) B a);have y:=wN (fun(R:Gc N D=AQ) W (f:AB w.heap.size w W) B a=>Ua (h.below f) (U.below f).1 (by have:=(EM R).1;omega) B a);obtain⟨bp,rfl⟩:=h.ptr;unfold Gb at a;generalize s.F.length=z at Q y a;obtain⟨n,G⟩:=nm N.length;obtain⟨m,S⟩:=nm D.length;rw[<- G,<- S] at L;rw[<- G] at y;rw[<- G,<- S];have b:=AF w (Ay #[O .u32 q,E no n H,E A m C] 215);have o:=AC w (Ay #[O .u32 q,E no n H,E A m C] 215);clear U hD G S x h;go_enter func162,ntmps162;go_upto_region 1 with(fail)
 generalize w.alloc (Ay #[O .u32 q,E no n H,E A m C] 215)=u at b o |-
 have j:=wN (Q.out _ b);have i:=wN (L.out _ b);have d0:u.cell? ⟨w.heap.size,0,J⟩=I (O .u32 q):=by rw[AD _ _ _ _ _ _ o];rfl
 have d1:u.cell? ⟨w.heap.size,1,J⟩=I (E no n H):=by rw[AD _ _ _ _ _ _ o];rfl
 have d2:u.cell? ⟨w.heap.size,2,J⟩=I (E A m C):=by rw[AD _ _ _ _ _ _ o];rfl
 have T:w.heap.size<u.heap.size:=(Au.1 o).1;have C1:=wN (fun W (h:AB u.heap.size u W)=>(h.cell (p:=⟨w.heap.size,1,J⟩) T).trans d1);have g:=wN (fun W (h:AB u.heap.size u W)=>b.trans (h.mono b.size));clear o Q L T b;generalize decide (64<=z)=X at a j;obtain⟨Y,d⟩:∃ Y,Gc N D=Y:=⟨_,rfl⟩;obtain⟨Z,l⟩:∃ Z,Ow z N=Z:=⟨_,rfl⟩;rw[d,l] at a;rw[d] at i;have M:=wN (fun R W f=>y.out R W f Z l);have k:=wN (j.out X rfl);have t:=wN (i.out Y rfl);have K:=wN d;clear j i y d l;cases X
 . rw[Bool.false_and] at a
   subst a;go_wp2_with (go_at_call 159;(with_reducible refine Ad k.out ?_);rintro V rfl)
   go_ret;exact⟨rfl,g.out _ (AP _ _)⟩
 . cases Y
   . rw[Bool.false_and,AS] at a
     subst a
     go_wp2_with (first|(go_at_call 159;(with_reducible refine Ad k.out ?_);rintro V rfl)|(go_at_call 191;(with_reducible refine Ad t.out ?_);rintro w3 c))
     go_ret;exact⟨rfl,g.out _ c⟩
   . rw[AS,AS] at a
     subst a
     go_wp2_with (first
      |(go_at_call 159;(with_reducible refine Ad k.out ?_);rintro V rfl)
      |(go_at_call 191;(with_reducible refine Ad t.out ?_);rintro w3 c
        have e1:=C1.out _ c;have r:=wN (g.out _ c);clear c)|(go_at_call 161;(with_reducible refine Ad (M.out K.out _ r.out) ?_);rintro w4 rfl))
     go_ret;exact⟨rfl,r.out⟩
end
def Chg.of_wrote1{w w':At}{g:Nat}(h:Wrote w w' g):Chg (fun b=>b=g) (fun b=>b=g) w w':=
 ⟨h.1,h.2.1,h.2.2.1,Nat.le_of_eq h.2.2.2.1.symm,fun k _ a=>⟨h.2.2.2.2 k a,a⟩⟩
def RowA(w:At)(g:Nat)(P:Nat->Prop)(n:Nat)(D:Ae)(k:Nat):Prop:=
 ∃ a:List AA,a.length=n/\w.heap[g]? =I (Ay a.toArray 77 (0,0))/\∀ j,j<k->BSl w (a.getD j undef) (D.getD j [])/\Apt P (a.getD j undef)/\Apt (fun b=>b=g) (a.getD j undef)
def RowA.make(w:At)(P:Nat->Prop)(n:Nat)(D:Ae):RowA (w.alloc (Ay (AW n (E J 0 0)) 77)) w.heap.size P n D 0:=
 ⟨AI n (E J 0 0),Bg,by rw[AC];simp,fun j a=>absurd a (Bm _)⟩
def RowA.row{w:At}{g n:Nat}{P:Nat->Prop}{D:Ae}{k:Nat}(h:RowA w g P n D k):∃ vs:List AA,vs.length=n/\w.heap[g]? =I (Ay vs.toArray 77 (0,0)):=by
 obtain⟨vs,a,b,_⟩:=h;exact⟨vs,a,b⟩
def RowA.below{w w':At}{g n:Nat}{P:Nat->Prop}{D:Ae}{k:Nat}(h:RowA w g P n D k)(hb:AB w.heap.size w w'):RowA w' g P n D k:=by
 obtain⟨i,d,a,b⟩:=h;have f:g<w.heap.size:=(Au.1 a).1;exact⟨i,d,(hb.block g f).trans a,fun j c=>⟨(b j c).1.below hb,(b j c).2⟩⟩
def RowA.set{w:At}{g n:Nat}{P:Nat->Prop}{D:Ae}{k:Nat}(h:RowA w g P n D k)(q:k<n){y:AA}(r:BSl w y (D.getD k []))(p:Apt P y)(f:Apt (fun b=>b=g) y):RowA (w.setCell ⟨g,k,J⟩ y) g P n D (k+1):=by
 obtain⟨a,d,m,o⟩:=h;have i:=Chg.of_wrote1 (Wrote.setCell w g k y);refine⟨a.set k y,by rw[AR];exact d,km m k y,fun j u=>?_⟩;by_cases e:j=k
 . subst e
   have c:(a.set j y).getD j undef=y:=(by simp[d,q]);rw[c];exact⟨(r.chg f i).1,p,f⟩
 . have c:(a.set k y).getD j undef=a.getD j undef:=by
    rw[Az,BB Aa,<- Az]
   rw[c];obtain⟨s,t,l⟩:=o j Aa;exact⟨(s.chg l i).1,t,l⟩
def RowA.done{w:At}{g n:Nat}{P:Nat->Prop}{D:Ae}(h:RowA w g P n D n)(f:D.length=n)(i:¬ P g):BBa w P (E (I ⟨g,0,J⟩) n n) D:=by
 obtain⟨d,k,a,b⟩:=h;subst f;refine A8 ⟨_,D.length,rfl,AE _,fun j c=>⟨⟨(Au.1 a).1,i⟩,rfl,d.getD j undef,?_,(b j c).1,(b j c).2.1⟩⟩;show w.cell? ⟨g,0+j,J⟩=_
 rw[BC,AD _ _ _ _ _ _ a];simp[show j<d.length from Aa]
section
variable {w:At}{P:Nat->Prop}{p:AA}{s:DS}
def UH(h:Dk w P p s)(X:64<=s.F.length)(hd:s.dn=AN):
 AH Aq 120 #[p] w fun e w'=>∃ Y cap,e=Av (AT #[E Y 40 cap,O Ap 0])/\BBa w' P (E Y 40 cap) (EA s.vis)/\AB w.heap.size w w':=by
 have a:=fun k t=>h.lt k t
 have KU:=wN (Pv h AQ (AK X));have V:(EA s.vis).length=40:=EC (by rw[DS.vis_length];omega);have KR:=wN (fun W (hb:AB w.heap.size w W) (k:Nat) (t:k<40)=>(tC (h.below hb) (3+k) Aa hd));have S:=wN (fun(k:Nat) (t:k<40)=>H3 s.vis k t);have d:=wN (fun W (hr:RowA W w.heap.size P 40 (EA s.vis) 40)=>hr.done V (fun u=>Nat.lt_irrefl _ (a _ u)));obtain⟨bp,rfl⟩:=h.ptr;obtain⟨D,hD⟩:=nm (EA s.vis);rw[<- hD] at S d |-
 have x:=wN a;have l:=AF w (Ay (AW 40 (E J 0 0)) 77);have C:=RowA.make w P 40 D;clear h X hd V hD a;go_enter func120,ntmps120
 go_wp2_with (first|(go_at_call 159;(with_reducible refine Ad KU.out ?_);rintro R rfl)|(at_make;refine J4 w rfl _ _ rfl (40:Int) 40 rfl rfl rfl Aa ?_))
 generalize w.alloc (Ay (AW 40 (E J 0 0)) 77)=w1 at l C |-
 have f:=wN C;have r:=wN l;obtain⟨g,K⟩:=nm w.heap.size;rw[<- K] at f d |-
 have HG:=wN K;clear C l K;go_loopw [14] (fun i wr=>∃ k:Nat,k<=40/\i=O Ap k/\Hid (RowA wr g P 40 D k)/\Hid (AB w.heap.size w wr)) (fun i _=>40-(intOf i).toNat)
 case atStart=>exact⟨0,Aa,rfl,f,r⟩
 case round=>
  obtain⟨k,t,rfl,A,q⟩:=hrel;clear f r;by_cases a:k<40
  . have U:=wN (KR.out _ q.out k a)
    have ek:(k:Int)<40:=Aa;have Z:((3+k:Nat):Int)=3+(k:Int):=(by push_cast;rfl);rw[Z] at U;clear Z
    go_wp2_with (go_at_call 146;(with_reducible refine U.out.mono ?_);rintro e R ⟨y,rfl,c,j,M⟩
                 have Ef:=q.out.size;have m:=A.out.below j;have n:Hid (Apt P y):=wN (by rw[M];exact Apt.new (fun u=>by have:=x.out _ u;omega));have o:Hid (Apt (fun b=>b=g) y):=wN (by
                  rw[M];refine Apt.new (fun u=>?_);obtain⟨vs,_,L⟩:=A.out.row;have:=(Au.1 L).1;omega)
                 rw[<- S.out k a] at c;obtain⟨yo,yc,N,_⟩:=c.shape;have T:=wN c;subst N;generalize (D.getD k []).length=yl at T n o |-
                 clear M c;have B:=wN m;obtain⟨Q,lA,G⟩:=m.row;have a0:=aI G k;have H:∃ z,R.cell? ⟨g,k,J⟩=I z:=⟨Q[k]'Aa,by rw[AD _ _ _ _ _ _ G];simp[lA,a]⟩;obtain⟨z,hz⟩:=H;have v:=wN (q.out.trans (j.mono q.out.size));clear m lA G j Ef)
    go_roundw
    case rel=>exact⟨k+1,Aa,by go_num,B.out.set a T.out n.out o.out,(v.out.trans ((Wrote.setCell R g k _).below (by rw[HG.out];exact AE _)))⟩
    case measure=>simp[intOf];omega
  . obtain rfl:k=40:=by omega
    go_wp2;go_ret2;exact⟨_,_,rfl,d.out _ A.out,q.out⟩
end
def RE{L:Ae}{q d:Int}{N b:Ab}{D a:Ae}(h:Io L q N D)(c:Io L d b a):q=d/\N=b/\D=a:=by
 obtain⟨rfl,rfl⟩:=QM h.1.2 c.1.2;exact⟨rfl,rfl,h.2.2.2.1.symm.trans c.2.2.2.1⟩
def NB{L:Ae}{q:Int}{N:Ab}{D:Ae}(h:Io L q N D):Gc N D=AQ/\0<=q/\q<4294967296:=by
 obtain⟨⟨g,b,⟨d,f⟩,_⟩,i,_,a,c⟩:=h;refine⟨?_,d,f⟩;rw[Jc,b,c,AK]
 . rfl
 . rw[<- a,AV,By];omega
def PF(n:Nat)(L:Ae)(q:Int)(N:Ab)(D:Ae):Prop:=Io L q N D/\Ow n N=AQ
section
variable {w:At}{P:Nat->Prop}{p:AA}{s:DS}
def Vy(h:Dk w P p s){v:AA}{L:Ae}(R:BBSl w v L)(X:L.length<=1000000){q:Int}{N:Ab}{D:Ae}(t:PF s.F.length L q N D):
 AH Aq 121 #[p,v] w fun e w'=>∃ b i,e=Av (AT #[BS #[O .u32 q,b,i],AY AQ])/\IR w' 0 b N/\BBR w' 0 i D/\AB w.heap.size w w':=by
 obtain⟨t,Y⟩:=t;have JJ:N.length<=37:=(EM (NB t).1).1;have d:=AF w (Ay #[O .u32 0,E J 0 0,E J 0 0] 215);have U:=AC w (Ay #[O .u32 0,E J 0 0,E J 0 0] 215)
 have V:=wN (fun W (B:AB w.heap.size w W)=>show AH Aq 160 #[v] W fun e w'=>∃ b i,e=Av (AT #[BS #[O .u32 q,b,i],AY AQ])/\IR w' 0 b N/\BBR w' 0 i D/\AB W.heap.size W w' from
  (JN (R.below B) X).mono fun e w' ⟨B,hc⟩=>by
    rcases hc with⟨q',N',D',b,i,S,he,h1,h2⟩| ⟨Z,_⟩
    . obtain⟨rfl,rfl,rfl⟩:=RE t S
      exact⟨b,i,he,h1,h2,B⟩
    . exact absurd t (Z _ _ _))
 have KH:=wN (fun W (B:AB w.heap.size w W) b (hN:IR W 0 b N)=>Ua (h.below B) hN.sl Aa AQ Y);obtain⟨bp,rfl⟩:=h.ptr;obtain⟨vo,vc,rfl,_⟩:=R.shape;generalize L.length=y at V |-
 clear h R X t Y JJ;go_enter func121,ntmps121;go_upto_region 1 with(fail)
 have Ot:w.heap.size<(w.alloc (Ay #[O .u32 0,E J 0 0,E J 0 0] 215)).heap.size:=Ai;generalize w.alloc (Ay #[O .u32 0,E J 0 0,E J 0 0] 215)=w1 at d U Ot |-
 go_wp2_with (first
  |(go_at_call 160;(with_reducible refine(V.out _ d).mono ?_);rintro e u ⟨b,i,rfl,o,l,M⟩
    obtain⟨_,no,nc,rfl,_⟩:=o.isc;obtain⟨ao,dc,rfl,_⟩:=l.sl.shape;have G:=AC u (Ay #[O .u32 0,E J 0 0,E J 0 0] 215);have c:=AF u (Ay #[O .u32 0,E J 0 0,E J 0 0] 215);have k:=wN (o.below c);have j:=wN (l.below c);have x:=wN M;generalize hnn:N.length=n at k |-
    generalize hmm:D.length=m at j |-
    clear o l hnn hmm)
  |(with_reducible refine BO rfl 215 EH (.tmp 6) (.tmp 11) rfl u.heap.size rfl _ _ _ _ _ _ rfl rfl rfl rfl _ G ?_;intro T g f
    have C:=c.trans (g.below (AE _));have a:=x.out.trans (C.mono x.out.size);have K:=JR U a;have z:=wN (d.trans (a.mono d.size));have x0:T.cell? ⟨u.heap.size,0,J⟩=I (O .u32 q):=(by rw[AD _ _ _ _ _ _ f];rfl);have x1:T.cell? ⟨u.heap.size,1,J⟩=I (E no n nc):=(by rw[AD _ _ _ _ _ _ f];rfl);have x2:T.cell? ⟨u.heap.size,2,J⟩=I (E ao m dc):=(by rw[AD _ _ _ _ _ _ f];rfl);have A:=wN (k.out.wrote g G Af);have H:=wN (j.out.wrote g (A7 _) G Af Af);clear G c g C a k j f)|(go_at_call 161;(with_reducible refine Ad (KH.out _ z.out _ A.out) ?_);rintro w5 rfl)|(with_reducible refine BO rfl 215 EH (.tmp 4) (.tmp 23) rfl w.heap.size rfl _ _ _ _ _ _ rfl rfl rfl rfl _ K ?_;intro w9 r Q))
 refine A9 (DJ rfl underlying215 EH _ _ w.heap.size _ _ _ _ _ rfl Q rfl) rfl ⟨_,_,rfl,?_,?_,z.out.trans (r.below (AE _))⟩
 . exact A.out.wrote r K Af
 . exact H.out.wrote r (A7 _) K Af Af
def Yf(h:Dk w P p s){v:AA}{L:Ae}(H:BBSl w v L)(T:L.length<=1000000)(M:∀ q N D,¬ PF s.F.length L q N D):
 AH Aq 121 #[p,v] w fun e w'=>e=Av (AT #[BS #[O .u32 0,E J 0 0,E J 0 0],AY AN])/\AB w.heap.size w w':=by
 by_cases x:∃ q N D,Io L q N D
 . obtain⟨q,N,D,A⟩:=x
   have hh:Ow s.F.length N=AN:=by
    cases e:Ow s.F.length N
    . rfl
    . exact absurd ⟨A,e⟩ (M q N D)
   have JJ:N.length<=37:=(EM (NB A).1).1;have b:=AF w (Ay #[O .u32 0,E J 0 0,E J 0 0] 215);have Q:=AC w (Ay #[O .u32 0,E J 0 0,E J 0 0] 215)
   have R:=wN (fun W (j:AB w.heap.size w W)=>show AH Aq 160 #[v] W fun e w'=>∃ l K,e=Av (AT #[BS #[O .u32 q,l,K],AY AQ])/\IR w' 0 l N/\BBR w' 0 K D/\AB W.heap.size W w' from
    (JN (H.below j) T).mono fun e w' ⟨j,X⟩=>by
      rcases X with⟨q',N',D',l,K,B,he,Z,h2⟩| ⟨M,_⟩
      . obtain⟨rfl,rfl,rfl⟩:=RE A B
        exact⟨l,K,he,Z,h2,j⟩
      . exact absurd A (M _ _ _))
   have KH:=wN (fun W (j:AB w.heap.size w W) l (hN:IR W 0 l N)=>Ua (h.below j) hN.sl Aa AN hh);obtain⟨bp,rfl⟩:=h.ptr;obtain⟨vo,vc,rfl,_⟩:=H.shape;generalize L.length=y at R |-
   clear h H T A hh JJ M;go_enter func121,ntmps121;go_upto_region 1 with(fail)
   have Ot:w.heap.size<(w.alloc (Ay #[O .u32 0,E J 0 0,E J 0 0] 215)).heap.size:=Ai;generalize w.alloc (Ay #[O .u32 0,E J 0 0,E J 0 0] 215)=w1 at b Q Ot |-
   go_wp2_with (first
    |(go_at_call 160;(with_reducible refine(R.out _ b).mono ?_);rintro e o ⟨l,K,rfl,t,S,u⟩
      obtain⟨_,no,nc,rfl,_⟩:=t.isc;obtain⟨ao,dc,rfl,_⟩:=S.sl.shape;have G:=AC o (Ay #[O .u32 0,E J 0 0,E J 0 0] 215);have c:=AF o (Ay #[O .u32 0,E J 0 0,E J 0 0] 215);have r:=wN (t.below c);have f:=wN u;generalize hnn:N.length=n at r |-
      generalize hmm:D.length=m at |-
      clear t S hnn hmm)
    |(with_reducible refine BO rfl 215 EH (.tmp 6) (.tmp 11) rfl o.heap.size rfl _ _ _ _ _ _ rfl rfl rfl rfl _ G ?_;intro w4 d k
      have g:=c.trans (d.below (AE _));have a:=f.out.trans (g.mono f.out.size);have V:=JR Q a;have i:=wN (b.trans (a.mono b.size));have x1:w4.cell? ⟨o.heap.size,1,J⟩=I (E no n nc):=(by rw[AD _ _ _ _ _ _ k];rfl);have U:=wN (r.out.wrote d G Af);clear G c d g a r k)|(go_at_call 161;(with_reducible refine Ad (KH.out _ i.out _ U.out) ?_);rintro w5 rfl)|(with_reducible refine BO rfl 215 EH (.tmp 4) (.tmp 22) rfl w.heap.size rfl _ _ _ _ _ _ rfl rfl rfl rfl _ V ?_;intro w9 C z))
   refine A9 (DJ rfl underlying215 EH _ _ w.heap.size _ _ _ _ _ rfl z rfl) rfl ⟨rfl,i.out.trans (C.below (AE _))⟩
 . have Y:∀ q N D,¬ Io L q N D:=fun q N D A=>x ⟨q,N,D,A⟩
   have b:=AF w (Ay #[O .u32 0,E J 0 0,E J 0 0] 215);have Q:=AC w (Ay #[O .u32 0,E J 0 0,E J 0 0] 215)
   have R:=wN (fun W (j:AB w.heap.size w W)=>show AH Aq 160 #[v] W fun e w'=>e=Av (AT #[BS #[O .u32 0,E J 0 0,E J 0 0],AY AN])/\AB W.heap.size W w' from
    (JN (H.below j) T).mono fun e w' ⟨j,X⟩=>by
      rcases X with⟨q',N',D',l,K,B,he,Z,h2⟩| ⟨_,he⟩
      . exact absurd B (Y _ _ _)
      . exact⟨he,j⟩)
   obtain⟨bp,rfl⟩:=h.ptr;obtain⟨vo,vc,rfl,_⟩:=H.shape;generalize L.length=y at R |-
   clear h H T M Y x;go_enter func121,ntmps121;go_upto_region 1 with(fail)
   generalize w.alloc (Ay #[O .u32 0,E J 0 0,E J 0 0] 215)=w1 at b Q |-
   go_wp2_with (first
    |(go_at_call 160;(with_reducible refine Ad (R.out _ b) ?_);rintro o u
      have G:=AC o (Ay #[O .u32 0,E J 0 0,E J 0 0] 215);have c:=AF o (Ay #[O .u32 0,E J 0 0,E J 0 0] 215);have f:=wN u)
    |(with_reducible refine BO rfl 215 EH (.tmp 6) (.tmp 11) rfl o.heap.size rfl _ _ _ _ _ _ rfl rfl rfl rfl _ G ?_;intro w4 d k
      have g:=c.trans (d.below (AE _));have a:=f.out.trans (g.mono f.out.size);have V:=JR Q a;have i:=wN (b.trans (a.mono b.size));clear G c d g a k)|(with_reducible refine BO rfl 215 EH (.tmp 4) (.tmp 22) rfl w.heap.size rfl _ _ _ _ _ _ rfl rfl rfl rfl _ V ?_;intro w9 C z))
   refine A9 (DJ rfl underlying215 EH _ _ w.heap.size _ _ _ _ _ rfl z rfl) rfl ⟨rfl,i.out.trans (C.below (AE _))⟩
end
def Et(a:PA)(A:List PA)(s:DS):BP (a :: A) s=if s.ok=AQ then BP A (a.run s) else (2,s.pay):=rfl
def EE:∀ (A B:List PA) (s:DS),BP (A ++ B) s=if (BP A s).1=0 then BP B (BP A s).2 else BP A s
 |[],B,s=>by
  show BP B s=if (0:Int)=0 then BP B s else _
  rw[AG rfl]
 |a :: A,B,s=>by
  rw[List.cons_append,Et,Et];by_cases h:s.ok=AQ
  . rw[AG h,AG h];exact EE A B _
  . rw[AJ h,AJ h,AJ (by show ¬ (2:Int)=0;decide)]
def GC{X:List PA}{a:PA}{s:DS}(h:(BP X s).1=0)(b:(BP X s).2.ok=AQ):BP (X ++ [a]) s=(0,a.run (BP X s).2):=by
 rw[EE,AG h,Et,AG b];rfl
def Sj{X Y:List PA}{a:PA}{s:DS}(h:(BP X s).1=0)(b:(BP X s).2.ok=AN):BP (X ++ a :: Y) s=(2,(BP X s).2.pay):=by
 rw[EE,AG h,Et,AJ (by rw[b];decide)]
def FD:∀ (A:List PA) (s:DS),(BP A s).2.F.length=s.F.length/\(BP A s).2.U.length<=s.U.length+A.length
 |[],s=>⟨rfl,AE _⟩
 |a :: A,s=>by
  unfold BP;by_cases h:s.ok=AQ
  . rw[AG h]
    obtain⟨c,g⟩:=FD A (a.run s);cases a with
    |w n l=>
     have b:(PA.run s (.w n l)).F.length=s.F.length:=rfl;have d:(PA.run s (.w n l)).U.length=s.U.length+1:=(by show(s.U ++ [(n,l)]).length=_;simp);exact⟨c.trans b,by simp only[BJ];omega⟩
    |f=>
     have b:(PA.run s .f).F.length=s.F.length:=DS.vis_length s;have d:(PA.run s .f).U.length=0:=rfl;exact⟨c.trans b,by simp only[BJ];omega⟩
  . rw[AJ h]
    exact⟨rfl,Nat.le_add_right _ _⟩
def RunQ(A:List PA)(w:At)(P:Nat->Prop)(p:AA)(s:DS)(e:Ending)(w':At):Prop:=
 e=Av (O Ap (BP A s).1)/\∃ a,Dk w' a p (BP A s).2/\Chg P a w w'
def RunQ.stop{X Y:List PA}{a:PA}{w W:At}{P b:Nat->Prop}{p:AA}{s:DS}(h:(BP X s).1=0)(c:(BP X s).2.ok=AN)(hd:Dk W b p (BP X s).2.pay)(d:Chg P b w W):RunQ (X ++ a :: Y) w P p s (Av (O Ap 2)) W:=by
 unfold RunQ;rw[Sj h c];exact⟨rfl,b,hd,d⟩
def RunQ.done{X:List PA}{w W:At}{P a:Nat->Prop}{p:AA}{s:DS}(h:(BP X s).1=0)(hd:Dk W a p (BP X s).2)(b:Chg P a w W):RunQ X w P p s (Av (O Ap 0)) W:=by
 unfold RunQ;rw[h];exact⟨rfl,a,hd,b⟩
def Chg.cell{P b:Nat->Prop}{w w':At}(h:Chg P b w w'){g i:Nat}(c:g<w.heap.size)(d:¬ P g):w'.cell? ⟨g,i,J⟩=w.cell? ⟨g,i,J⟩:=
 Bi (a:=⟨g,i,J⟩) (h.keep g c d).1
def dK(N:Ab)(D:Ae)(k:Nat)(a:k<N.length):Ci N D=(Ci N D).take k ++ .w (N.getD k 0).toNat (D.getD k []) :: (Ci N D).drop (k+1)/\(Ci N D).take (k+1)=(Ci N D).take k ++ [.w (N.getD k 0).toNat (D.getD k [])]:=by
 have b:k<(Ci N D).length:=by rw[Fg];exact a
 have e:(Ci N D)[k]=.w (N.getD k 0).toNat (D.getD k []):=by simp[Ci,Cq]
 refine⟨?_,?_⟩
 . rw[<- e,List.getElem_cons_drop,Fw]
 . rw[BI b,e]
section
variable {w:At}{P:Nat->Prop}{p:AA}{s:DS}
def RL(h:Dk w P p s){v:AA}{q:Int}{N:Ab}{D:Ae}(hv:TxVa w P v q N D)(hB:Gb s.F.length N D=AQ)(hU:s.U.length<=900000):
 AH Aq 122 #[p,v] w (RunQ (Ci N D) w P p s):=by
 have a3:=hv;obtain⟨no,nc,ao,dc,rfl,hN,hD⟩:=hv;have H:=hB;unfold Gb at H;rw[A0,A0] at H;obtain⟨_,hF,hH⟩:=H;obtain⟨f1,f2,f3⟩:=EM hF;have a2:=(Ki _ _).1 hH;have KT:=wN (fun W (hb:AB w.heap.size w W)=>RT (h.below hb) (a3.v.below hb) AQ hB);have a:=fun k g=>h.lt k g
 have a7:=wN (fun W (hb:AB w.heap.size w W)=>h.below hb);have l:=fun k=>FD ((Ci N D).take k) s
 have KW:=wN (fun k (g:k<N.length) W t (hd:Dk W t p (BP ((Ci N D).take k) s).2) v (hv:BSl W v (D.getD k []))=>iX hd (N.getD k 0).toNat (by
  have h1:=a2 k g;have h2:=(f3 k g).1;have h3:=(l k).1;omega) hv (f3 k g).2.1 (by
  have h1:=(l k).2;rw[AV,Fg] at h1;omega))
 have Z:=wN (fun k (g:k<N.length)=>show N.getD k 0=((N.getD k 0).toNat:Int) by have:=(f3 k g).1;omega);have HL:=wN (fun k (g:k<N.length)=>(f3 k g).2.1);have X:=wN (fun W r (z:Chg P r w W)=>(hN.1.1.chg hN.2 z).1.open');have V:=wN (fun W r (z:Chg P r w W)=>(hD.chg z).sl.open');have HG:=wN (fun k g=>dK N D k g);have c:Hid ((Ci N D).take N.length=Ci N D):=wN (A2 (by rw[Fg];exact AE _));obtain⟨bp,rfl⟩:=h.ptr;obtain⟨A,hA⟩:=nm (Ci N D);rw[<- hA] at KW HG c |-
 obtain⟨n,hn⟩:=nm N.length;have ma:D.length=n:=f2.trans hn.symm;rw[<- hn] at KT KW Z HL X HG c f1 |-
 rw[ma] at KT V |-
 have y:=AF w (Ay #[O .u32 q,E no n nc,E ao n dc] 215);have M:=AC w (Ay #[O .u32 q,E no n nc,E ao n dc] 215);clear h hN hD a3 hB hF hH a2 l f2 f3 hA hn ma;go_enter func122,ntmps122;go_upto_region 1 with(fail)
 generalize w.alloc (Ay #[O .u32 q,E no n nc,E ao n dc] 215)=u at y M |-
 have a1:=wN (KT.out _ y);have d0:u.cell? ⟨w.heap.size,0,J⟩=I (O .u32 q):=by rw[AD _ _ _ _ _ _ M];rfl
 have d1:u.cell? ⟨w.heap.size,1,J⟩=I (E no n nc):=by rw[AD _ _ _ _ _ _ M];rfl
 have d2:u.cell? ⟨w.heap.size,2,J⟩=I (E ao n dc):=by rw[AD _ _ _ _ _ _ M];rfl
 have Ot:w.heap.size<u.heap.size:=(Au.1 M).1;obtain⟨d,hd⟩:=nm w.heap.size;have Y:Hid (¬ P d):=wN (fun hp=>by have:=a _ hp;omega);have S:=wN y;rw[<- hd] at d0 d1 d2 Ot |-
 clear M KT y a hd
 go_wp2_with (go_at_call 162;(with_reducible refine Ad a1.out ?_);rintro C j
              have R:=wN (S.out.trans (j.mono S.out.size));have g1:=(j.cell (p:=⟨d,1,J⟩) Ot).trans d1;have g2:=(j.cell (p:=⟨d,2,J⟩) Ot).trans d2;have L:=AL Ot j.size;clear j)
 have a5:=wN (fun W r (z:Chg P r C W)=>(z.cell (i:=1) L Y.out).trans g1);have a6:=wN (fun W r (z:Chg P r C W)=>(z.cell (i:=2) L Y.out).trans g2);have m:=wN (fun W r (z:Chg P r C W)=>(Chg.of_below (P:=P) R.out).trans z);have a0:Hid (∃ t,Dk C t (Ax (I ⟨bp,0,J⟩)) (BP (A.take 0) s).2/\Chg P t C C):=wN ⟨P,a7.out _ R.out,Chg.refl P C⟩;clear g1 g2 L d0 d1 d2 Ot a1;go_loopw [15] (fun i wr=>∃ k:Nat,k<=n/\i=O Ap k/\Hid ((BP (A.take k) s).1=0)/\Hid (∃ t,Dk wr t (Ax (I ⟨bp,0,J⟩)) (BP (A.take k) s).2/\Chg P t C wr)) (fun i _=>n-(intOf i).toNat)
 case atStart=>exact⟨0,Aa,rfl,wN (by rw[List.take_zero];rfl),a0⟩
 case round=>
  obtain⟨k,g,rfl,HR,HS⟩:=hrel;clear a0;obtain⟨t,B,b⟩:=HS.out;by_cases a:k<n
  . have y1:=a5.out _ _ b
    have y2:=a6.out _ _ b;obtain⟨b3,b0,e1,q1⟩:=X.out _ _ (m.out _ _ b);obtain⟨rfl,rfl⟩:=And.intro (Be e1).1 (Be e1).2.2;obtain⟨b1,o1,rfl,_,c1⟩:=q1 Aa;have z1:=c1 k a;rw[Z.out k a] at z1;obtain⟨a8,a9,e2,_,q2⟩:=V.out _ _ (m.out _ _ b);obtain⟨rfl,rfl⟩:=And.intro (Be e2).1 (Be e2).2.2;obtain⟨b2,o2,rfl,_,c2⟩:=q2 Aa;obtain⟨x,z2,hx⟩:=c2 k a;have Q:=wN (KW.out k a _ _ B _ hx);obtain⟨xo,xc,rfl,_⟩:=hx.shape;rw[HL.out k a] at z2 Q;have ek:(k:Int)<(n:Int):=Aa;have G:=wN (HG.out k a);obtain⟨x1,a4⟩:=nm ((N.getD k 0).toNat);rw[<- a4] at z1 Q G;clear a4;have T:=wN b;clear e1 e2 q1 q2 c1 c2 hx B b;cases f:(BP (A.take k) s).2.ok
    . rw[f,AJ CP,AJ CP] at Q
      have o:=wN f;clear f;go_wp2_with (go_at_call 163;(with_reducible refine Ad Q.out ?_);rintro w3 ⟨P3,aX,K⟩)
      go_ret;rw[G.out.1];exact RunQ.stop HR.out o.out aX (m.out _ _ (T.out.trans K))
    . rw[f,AG rfl,AG rfl] at Q
      have o:=wN f;clear f;go_wp2_with (go_at_call 163;(with_reducible refine Ad Q.out ?_);rintro w3 ⟨P3,aX,K⟩)
      go_roundw
      case rel=>
       have e5:=G.out.2;refine⟨k+1,Aa,by go_num,wN ?_,wN ⟨P3,?_,T.out.trans K⟩⟩
       . rw[e5,GC HR.out o.out]
       . rw[e5,GC HR.out o.out];exact aX
      case measure=>simp[intOf];omega
  . obtain rfl:k=n:=by omega
    clear HG;go_wp2;go_ret;rw[c.out] at HR HS;obtain⟨t,B,b⟩:=HS.out;exact RunQ.done HR.out B (m.out _ _ b)
end
def Ju(a:Nat)(bs:Ae):List PA:=(BE bs.length).map fun i=>.w (a+i) (bs.getD i [])
def F6(a:List (Nat × Ae)):List PA:=a.flatMap fun x=>Ju x.1 x.2 ++ [.f]
def Ic(a:Nat)(bs:Ae):(Ju a bs).length=bs.length:=by simp[Ju]
def oX(a:Nat)(bs:Ae)(k:Nat)(b:k<bs.length):Ju a bs=(Ju a bs).take k ++ .w (a+k) (bs.getD k []) :: (Ju a bs).drop (k+1)/\(Ju a bs).take (k+1)=(Ju a bs).take k ++ [.w (a+k) (bs.getD k [])]:=by
 have c:k<(Ju a bs).length:=by rw[Ic];exact b
 have e:(Ju a bs)[k]=.w (a+k) (bs.getD k []):=by simp[Ju]
 refine⟨?_,?_⟩
 . rw[<- e,List.getElem_cons_drop,Fw]
 . rw[BI c,e]
def Ol(A B:List (Nat × Ae)):F6 (A ++ B)=F6 A ++ F6 B:=DY
def Hm(x:Nat × Ae)(B:List (Nat × Ae)):F6 (x :: B)=Ju x.1 x.2 ++ [.f] ++ F6 B:=CL
def VX:F6 []=[]:=rfl
def Uz(a:List (Nat × Ae))(j:Nat)(b:j<a.length):
 F6 a=F6 (a.take j) ++ (Ju (a.getD j (0,[])).1 (a.getD j (0,[])).2 ++ [.f] ++ F6 (a.drop (j+1)))/\
 F6 (a.take (j+1))=F6 (a.take j) ++ (Ju (a.getD j (0,[])).1 (a.getD j (0,[])).2 ++ [.f]):=by
 have e:a.getD j (0,[])=a[j]:=by simp[b]
 rw[e];refine⟨?_,?_⟩
 . conv=>lhs;rw[<- Fw j a]
   rw[IJ b,Ol,Hm]
 . rw[BI b,Ol,Hm,VX,Cc]
def qU(a:List (Nat × Ae)):Nat:=(F6 a).length
def rD:(Aq.info? 268).map (·.size)=I 2:=Ac
def Ov{b:Array BK}{rest:List BK}{o:BK}{a:Act}{w:At}{Q:Exit->Act->At->Prop}(f:o.guard=J)(c:Cn)(hi:(Aq.info? c).map (·.size)=I 2)(x y:Operand)(i:o.op=.store c x y)
 (g:Nat) (k:a.eval x=Ax (I ⟨g,0,J⟩)) (p q m n:AA) (l:a.eval y=BS #[p,q]) (hp:p.oneCell'=AQ) (j:q.oneCell'=AQ) (T:Cn) (d:w.heap[g]? =I (Ay #[m,n] T (0,0)))
 (h:∀ w',Wrote w w' g->w'.heap[g]? =I (Ay #[p,q] T (0,0))->Cj Aq b Q rest (a.put o.dst undef) w'):Cj Aq b Q (o :: rest) a w:=
 C8 f c x y i g #[p,q] k l T _ d hi rfl (by simp[hp,j]) (h _ (Wrote.setRow _ _ _) (CJ _ _ _ _ _ _ d))
def StSl(w:At)(P:Nat->Prop)(b off:Nat)(a:List (Nat × Ae)):Prop:=
 b<w.heap.size/\¬ P b/\∀ j,j<a.length->∃ c d,w.cell? ⟨b,off+j*2,J⟩=I (O Ap ((a.getD j (0,[])).1:Nat))/\w.cell? ⟨b,off+j*2+1,J⟩=I (E c (a.getD j (0,[])).2.length d)/\
  BBa w P (E c (a.getD j (0,[])).2.length d) (a.getD j (0,[])).2
def StSl.chg{w w':At}{P f:Nat->Prop}{b off:Nat}{g:List (Nat × Ae)}(h:StSl w P b off g)(a:Chg P f w w'):StSl w' f b off g:=by
 obtain⟨c,d,l⟩:=h;refine⟨AL c a.size,(a.keep b c d).2,fun j m=>?_⟩;obtain⟨i,k,n,o,p⟩:=l j m;exact⟨i,k,(a.cell c d).trans n,(a.cell c d).trans o,p.chg a⟩
section
variable {w:At}{P:Nat->Prop}{p:AA}{s:DS}
def oo(h:Dk w P p s){b off cap:Nat}{c:List (Nat × Ae)}(hs:StSl w P b off c)(hU:s.U.length<=900000)(a9:qU c<=1000)(c3:c.length<=1000)
 (g:∀ j,j<c.length->∀ i,i<(c.getD j (0,[])).2.length->(c.getD j (0,[])).1+i<s.F.length/\((c.getD j (0,[])).2.getD i []).length=256) (GB:∀ j,j<c.length->(c.getD j (0,[])).1<=1000/\(c.getD j (0,[])).2.length<=1000):
 AH Aq 173 #[p,E (I ⟨b,off,J⟩) c.length cap] w (RunQ (F6 c) w P p s):=by
 have y:=fun A=>FD A s
 have M:∀ j,j<c.length->(F6 (c.take j)).length+(c.getD j (0,[])).2.length+1<=1000:=fun j D=>by
  have:=BF List.length (Uz c j D).1;simp only[AO,Ic,BJ,List.length_nil] at this;unfold qU at a9;omega
 have KW:=wN (fun j (D:j<c.length) i (hi:i<(c.getD j (0,[])).2.length) W l (hd:Dk W l p (BP (F6 (c.take j) ++ (Ju (c.getD j (0,[])).1 (c.getD j (0,[])).2).take i) s).2) v (hv:BSl W v ((c.getD j (0,[])).2.getD i []))=>iX hd ((c.getD j (0,[])).1+i) (by
  have h1:=(g j D i hi).1;have h3:=(y (F6 (c.take j) ++ (Ju (c.getD j (0,[])).1 (c.getD j (0,[])).2).take i)).1;omega) hv (g j D i hi).2 (by
  have h1:=(y (F6 (c.take j) ++ (Ju (c.getD j (0,[])).1 (c.getD j (0,[])).2).take i)).2;have h2:=M j D;rw[AO,AV,Ic] at h1;omega))
 have KF:=wN (fun j (D:j<c.length) W l (hd:Dk W l p (BP (F6 (c.take j) ++ Ju (c.getD j (0,[])).1 (c.getD j (0,[])).2) s).2)=>Tj hd (by
  have h1:=(y (F6 (c.take j) ++ Ju (c.getD j (0,[])).1 (c.getD j (0,[])).2)).2;have h2:=M j D;rw[AO,Ic] at h1;omega))
 have R:=wN (fun j D=>Uz c j D);have HL:=wN (fun j (D:j<c.length) i (hi:i<(c.getD j (0,[])).2.length)=>(g j D i hi).2);have a3:=wN GB;have HS:=wN (fun W P' (hc:Chg P P' w W)=>hs.chg hc);have c4:=wN (fun W (hb:AB w.heap.size w W)=>h.below hb);have a8:Hid (∃ l,Dk w l p (BP (F6 (c.take 0)) s).2/\Chg P l w w):=wN ⟨P,h,Chg.refl P w⟩;have r:Hid (F6 (c.take c.length)=F6 c):=wN (by rw[BZ]);obtain⟨bp,rfl⟩:=h.ptr;obtain⟨A,hA⟩:=nm (F6 c);rw[<- hA] at R r |-
 obtain⟨n,hn⟩:=nm c.length;rw[<- hn] at KW KF R HL a3 r c3 |-
 have HN:=wN hn;clear h hs g GB y M a9 hU hA hn;go_enter func173,ntmps173;go_wp2;go_loopw [13] (fun t wr=>∃ j:Nat,j<=n/\t=O Ap j/\Hid ((BP (F6 (c.take j)) s).1=0)/\Hid (∃ l,Dk wr l (Ax (I ⟨bp,0,J⟩)) (BP (F6 (c.take j)) s).2/\Chg P l w wr)) (fun t _=>n-(intOf t).toNat)
 case atStart=>exact⟨0,Aa,rfl,wN (by rw[List.take_zero];rfl),a8⟩
 case round=>
  obtain⟨j,D,rfl,HR,a2⟩:=hrel;clear a8;obtain⟨l,B,L⟩:=a2.out;by_cases C:j<n
  . obtain⟨hb,I9,Di⟩:=HS.out _ _ L
    obtain⟨ao,dc,x0,x1,T⟩:=Di j (by rw[<- HN.out];exact C);have b0:=fun k hk=>B.lt k hk
    have N:=a3.out j C;have z:=wN (R.out j C);have a1:=wN (HL.out j C);have K:=wN (KW.out j C);have S:=wN (KF.out j C);obtain⟨a,ha⟩:=nm ((c.getD j (0,[])).1);obtain⟨q,b1⟩:=nm ((c.getD j (0,[])).2);rw[<- ha] at x0 N z K S;rw[<- b1] at x1 T N z a1 K S;obtain⟨X,hX⟩:=nm (F6 (c.take j));rw[<- hX] at B HR z K S;obtain⟨m,hm⟩:=nm q.length;rw[<- hm] at x1 N a1 K T;obtain⟨c7,c8⟩:=N;have c0:Hid ((Ju a q).take m=Ju a q):=wN (A2 (by rw[Ic,hm];exact AE _));have c1:=wN (fun i (hi:i<m)=>oX a q i (by rw[<- hm];exact hi));have b4:=wN (fun W P' (hc:Chg l P' wr W)=>by have:=(T.chg hc).sl.open';rw[<- hm] at this;exact this);have ej:(j:Int)<(n:Int):=Aa;have a0:=wN L;have b7:=wN B;have b5:=wN b0;have uv:=AC wr (Ay #[O Ap 0,E J 0 0] 268);have Z:=AF wr (Ay #[O Ap 0,E J 0 0] 268);clear hb I9 Di T ha b1 hX hm L B b0
    go_wp2_with (with_reducible refine Ov rfl 268 rD (.tmp 6) (.tmp 16) rfl wr.heap.size rfl _ _ _ _ rfl rfl rfl _ uv ?_;intro Y b3 V
                 have a4:=wN (Z.trans (b3.below (AE _)));have y0:Y.cell? ⟨wr.heap.size,0,J⟩=I (O Ap (a:Nat)):=(by rw[AD _ _ _ _ _ _ V];rfl);have y1:Y.cell? ⟨wr.heap.size,1,J⟩=I (E ao m dc):=(by rw[AD _ _ _ _ _ _ V];rfl);have I8:=(Au.1 V).1;clear uv Z b3 V)
    obtain⟨d,hd⟩:=nm wr.heap.size;rw[<- hd] at y0 y1 I8 |-
    have b8:Hid (¬ l d):=wN (fun hp=>by have:=b5.out _ hp;omega);have b6:=wN (fun W P' (hc:Chg l P' Y W)=>(hc.cell (i:=0) I8 b8.out).trans y0);have Q:=wN (fun W P' (hc:Chg l P' Y W)=>(Chg.of_below (P:=l) a4.out).trans hc);have a7:Hid (∃ Pi,Dk Y Pi (Ax (I ⟨bp,0,J⟩)) (BP (X ++ (Ju a q).take 0) s).2/\Chg l Pi Y Y):=wN ⟨l,by rw[List.take_zero,Cc];exact b7.out.below a4.out,Chg.refl l Y⟩;have a6:Hid ((BP (X ++ (Ju a q).take 0) s).1=0):=wN (by rw[List.take_zero,Cc];exact HR.out);clear x0 x1 y0 y1 I8 hd;go_loopw [20] (fun t wi=>∃ i:Nat,i<=m/\t=O Ap i/\Hid ((BP (X ++ (Ju a q).take i) s).1=0)/\Hid (∃ Pi,Dk wi Pi (Ax (I ⟨bp,0,J⟩)) (BP (X ++ (Ju a q).take i) s).2/\Chg l Pi Y wi)) (fun t _=>m-(intOf t).toNat)
    case atStart=>exact⟨0,Aa,rfl,a6,a7⟩
    case round=>
     obtain⟨i,hi,rfl,u,b9⟩:=hrel;clear a7 a6;obtain⟨Pi,uw,Uj⟩:=b9.out;by_cases ux:i<m
     . have y0:=b6.out _ _ Uj
       obtain⟨c5,c6,e2,_,q2⟩:=b4.out _ _ (Q.out _ _ Uj);obtain⟨rfl,rfl⟩:=And.intro (Be e2).1 (Be e2).2.2;obtain⟨b2,o2,rfl,_,c2⟩:=q2 Aa;obtain⟨x,z2,hx⟩:=c2 i ux;have H:=wN (K.out i ux _ _ uw _ hx);obtain⟨xo,xc,rfl,_⟩:=hx.shape;rw[a1.out i ux] at z2 H;have e3:((a+i:Nat):Int)=(a:Int)+(i:Int):=(by push_cast;rfl);rw[e3] at H;have ei:(i:Int)<(m:Int):=Aa;have a5:=wN (c1.out i ux);have G:=wN Uj;clear e2 e3 q2 c2 hx uw Uj;cases g:(BP (X ++ (Ju a q).take i) s).2.ok
       . rw[g,AJ CP,AJ CP] at H
         have o:=wN g;clear g;go_wp2_with (go_at_call 163;(with_reducible refine Ad H.out ?_);rintro w5 ⟨P5,a_,OP⟩)
         go_ret;have e6:A=(X ++ (Ju a q).take i) ++ .w (a+i) (q.getD i []) :: ((Ju a q).drop (i+1) ++ [.f] ++ F6 (c.drop (j+1))):=by
          rw[z.out.1]
          conv=>lhs;rw[a5.out.1]
          simp only[Bj,List.cons_append]
         rw[e6];exact RunQ.stop u.out o.out a_ (a0.out.trans (Q.out _ _ (G.out.trans OP)))
       . rw[g,AG rfl,AG rfl] at H
         have o:=wN g;clear g;go_wp2_with (go_at_call 163;(with_reducible refine Ad H.out ?_);rintro w5 ⟨P5,a_,OP⟩)
         go_roundw
         case rel=>
          have e5:X ++ (Ju a q).take (i+1)=(X ++ (Ju a q).take i) ++ [.w (a+i) (q.getD i [])]:=(by rw[a5.out.2,Bj]);refine⟨i+1,Aa,by go_num,wN ?_,wN ⟨P5,?_,G.out.trans OP⟩⟩
          . rw[e5,GC u.out o.out]
          . rw[e5,GC u.out o.out];exact a_
         case measure=>simp[intOf];omega
     . obtain rfl:i=m:=by omega
       rw[c0.out] at uw u;have H:=wN (S.out _ _ uw);have G:=wN Uj;clear uw Uj;cases g:(BP (X ++ Ju a q) s).2.ok
       . rw[g,AJ CP,AJ CP] at H
         have o:=wN g;clear g;go_wp2_with (go_at_call 123;(with_reducible refine Ad H.out ?_);rintro w5 ⟨P5,a_,OP⟩)
         go_ret;have e6:A=(X ++ Ju a q) ++ .f :: F6 (c.drop (j+1)):=by
          rw[z.out.1];simp only[Bj,List.cons_append,List.nil_append]
         rw[e6];exact RunQ.stop u.out o.out a_ (a0.out.trans (Q.out _ _ (G.out.trans OP)))
       . rw[g,AG rfl,AG rfl] at H
         have o:=wN g;clear g;go_wp2_with (go_at_call 123;(with_reducible refine Ad H.out ?_);rintro w5 ⟨P5,a_,OP⟩)
         go_roundw
         case rel=>
          have e5:F6 (c.take (j+1))=(X ++ Ju a q) ++ [.f]:=(by rw[z.out.2,Bj]);refine⟨j+1,Aa,by go_num,wN ?_,wN ⟨P5,?_,a0.out.trans (Q.out _ _ (G.out.trans OP))⟩⟩
          . rw[e5,GC u.out o.out]
          . rw[e5,GC u.out o.out];exact a_
         case measure=>simp[intOf];omega
  . obtain rfl:j=n:=by omega
    clear R;go_wp2;go_ret;rw[r.out] at HR a2;obtain⟨l,B,L⟩:=a2.out;exact RunQ.done HR.out B L
end
def Eg(q:Int)(N:Ab)(D:Ae):List (Nat × Ab):=(BE (D.length+1)).map fun i=>(3+i,(BV (CB q N) :: D).getD i [])
def nh(q:Int)(N:Ab)(D:Ae):List (Nat × Ae):=[(0,[]),(42,[z256]),(3,BV (CB q N) :: D),(42,[BV (DZ q)])]
def Sl(q:Int)(N:Ab)(D:Ae):F6 (nh q N D)=Dq q (Eg q N D):=by
 have b:Ju 3 (BV (CB q N) :: D)=(Eg q N D).map fun y=>.w y.1 y.2:=by
  unfold Ju Eg;rw[List.map_map,BJ];rfl
 have a:Ju 0 []=[]:=rfl;have c:Ju 42 [z256]=[.w 42 z256]:=rfl;have d:Ju 42 [BV (DZ q)]=[.w 42 (BV (DZ q))]:=rfl;unfold nh;rw[Hm,Hm,Hm,Hm,VX,a,b,c,d];unfold Dq;simp only[Bj,List.nil_append,List.cons_append,Cc]
def Ru{q:Int}{N:Ab}{D:Ae}{x:Nat × Ab}(h:x∈Eg q N D):∃ i,i<D.length+1/\x=(3+i,(BV (CB q N) :: D).getD i []):=by
 obtain⟨i,a,rfl⟩:=Ce.1 h;exact⟨i,Bq.1 a,rfl⟩
def Sw{q:Int}{N:Ab}{D F:Ae}(d:43<=F.length)(c:D.length<=37)(i:Nat)(hi:i<D.length+1):(Cl (Eg q N D) F).getD (3+i) []=(BV (CB q N) :: D).getD i []:=by
 refine IT _ F (3+i) _ Aa (fun x a e=>?_) ⟨(3+i,(BV (CB q N) :: D).getD i []),Ce.2 ⟨i,Bq.2 hi,rfl⟩,rfl⟩;obtain⟨k,f,rfl⟩:=Ru a;have b:3+k=3+i:=e;obtain rfl:k=i:=Aa;rfl
def ag{q:Int}{N:Ab}{D:Ae}(b:Gc N D=AQ):ry q N D (Eg q N D):=by
 obtain⟨d,h,_⟩:=EM b;refine⟨fun x c=>?_,fun F a=>⟨?_,fun j f=>?_⟩⟩
 . obtain⟨k,g,rfl⟩:=Ru c
   show 3<=3+k/\3+k<42
   omega
 . have:=Sw (q:=q) (N:=N) a (by omega:D.length<=37) 0 Aa
   exact this
 . have:=Sw (q:=q) (N:=N) a (by omega:D.length<=37) (1+j) Aa
   rw[show 3+(1+j)=4+j from Aa] at this;rw[this,show 1+j=j+1 from Aa];rfl
def YM(W:At)(n:Nat)(h:n<=1000000)(C:Int)(g:C=n):(Instr.makeSlice 77 (O Ap C) (O Ap C)).run Aq W=.ok (E (I ⟨W.heap.size,0,J⟩) n n) (W.alloc (Ay (AW n (O .u8 0)) 5)):=by
 subst g;obtain⟨i,b,c,d,f⟩:=Bs IA;have a:=run_make (P:=Aq) W 77 5 i (O .u8 0) underlying77 b c Ap Ap n n Aa Aa (by rw[f];omega) Aa;simp only[Cf,d,Nat.mul_one,Z6] at a;exact a
def jo(b off M cap K:Nat)(C:Int)(g:C=K)(l:K<=cap)(m:0<cap)(W:At):(Instr.slice 95 (E (I ⟨b,off,J⟩) M cap) J (I (O Ap C)) J).run Aq W=.ok (E (I ⟨b,off,J⟩) K cap) W:=by
 subst g;obtain⟨i,d,j,f,k⟩:=Bs PP;have c:Aq.elem 95=77:=Ac;have h:(sizeOf 77).run Aq W=.ok 1 W:=by simp[sizeOf,typeInfo,d,f]
 rw[run_slice_h W 95 _ M cap (by rw[c];exact underlying95) Ap (K:Int) Aa Aa,c,h];have a:cap≠0:=Aa;simp[sliced,a,Cd]
def Y5(b off M cap K:Nat)(C:Int)(h:C=K)(m:K+1=M)(n:M<=cap)(W:At):(Instr.slice 95 (E (I ⟨b,off,J⟩) M cap) (I (O Ap C)) J J).run Aq W=.ok (E (I ⟨b,off+K,J⟩) 1 (cap-K)) W:=by
 subst h;obtain⟨i,f,k,g,l⟩:=Bs PP;have c:Aq.elem 95=77:=Ac;have j:(sizeOf 77).run Aq W=.ok 1 W:=by simp[sizeOf,typeInfo,f,g]
 rw[run_slice_l W 95 _ M cap (by rw[c];exact underlying95) Ap (K:Int) Aa Aa,c,j];have a:cap≠K:=Aa;have d:M-K=1:=Aa;simp[sliced,a,Cd,d]
def BBa.mid{w:At}{P:Nat->Prop}{b off cap:Nat}{L:Ae}(h:BBa w P (E (I ⟨b,off,J⟩) L.length cap) L)(lo m:Nat)(s:lo+m<=L.length)(M:Ae)(d:(L.drop lo).take m=M):BBa w P (E (I ⟨b,off+lo,J⟩) m (cap-lo)) M:=by
 have a:((L.drop lo).take m).length=m:=Ak;rw[d] at a;rcases h with⟨c,_⟩| ⟨g,i,c,q,p⟩
 . simp at c
 . obtain⟨rfl,rfl⟩:(⟨b,off,J⟩:Addr)=g/\cap=i:=⟨Bc (Be c).1,(Be c).2.2⟩
   refine A8 ⟨⟨b,off+lo,J⟩,cap-lo,by rw[a],Aa,fun j f=>?_⟩;rw[a] at f;obtain⟨k,r,u,l,n,o⟩:=p (lo+j) Aa;have e:M.getD j []=L.getD (lo+j) []:=by
    rw[<- d];simp[f]
   refine⟨k,rfl,u,?_,by rw[e];exact n,o⟩;show w.cell? ⟨b,off+lo+j,J⟩=_
   rw[Dw];exact l
def Qi{w:At}{g:Nat}(b:w.heap[g]? =I (Ay (AW 256 (O .u8 0)) 5 (0,0))):BSl w (E (I ⟨g,0,J⟩) 256 256) z256:=by
 have a:z256.length=256:=Bg;refine⟨Db 256,A8 ⟨_,256,by rw[a],by rw[a];exact AE _,fun j c=>⟨(Au.1 b).1,rfl,?_⟩⟩⟩;rw[a] at c;show w.cell? ⟨g,0+j,J⟩=_
 rw[BC,AD _ _ _ _ _ _ b];have d:∀ n,j<n->(AW n (O .u8 0))[j]? =I (O .u8 ((AI n (0:Int)).getD j 0)):=fun n h=>by simp[h]
 exact d 256 c
def cI{W:At}{P:Nat->Prop}(A:∀ k,P k->k<W.heap.size){q:Int}{N:Ab}{D:Ae}{b off M cap K:Nat}(hb:BBa W P (E (I ⟨b,off,J⟩) M cap) (Iy q N D))(z:(Iy q N D).length=M)(y:D.length+1=K):
 AB W.heap.size W (((W.alloc (Ay (AW 256 (O .u8 0)) 5)).alloc (Ay #[E (I ⟨W.heap.size,0,J⟩) 256 256] 77)).alloc (Ay #[O Ap 0,E J 0 0,O Ap 42,E (I ⟨W.heap.size+1,0,J⟩) 1 1,O Ap 3,E (I ⟨b,off,J⟩) K cap,O Ap 42,E (I ⟨b,off+K,J⟩) 1 (cap-K)] 268))/\
 StSl (((W.alloc (Ay (AW 256 (O .u8 0)) 5)).alloc (Ay #[E (I ⟨W.heap.size,0,J⟩) 256 256] 77)).alloc (Ay #[O Ap 0,E J 0 0,O Ap 42,E (I ⟨W.heap.size+1,0,J⟩) 1 1,O Ap 3,E (I ⟨b,off,J⟩) K cap,O Ap 42,E (I ⟨b,off+K,J⟩) 1 (cap-K)] 268)) P (W.heap.size+1+1) 0 (nh q N D):=by
 subst y;have o:=AF W (Ay (AW 256 (O .u8 0)) 5);have s:=AC W (Ay (AW 256 (O .u8 0)) 5);have t:(W.alloc (Ay (AW 256 (O .u8 0)) 5)).heap.size=W.heap.size+1:=Ai;generalize W.alloc (Ay (AW 256 (O .u8 0)) 5)=d at o s t |-
 have p:=AF d (Ay #[E (I ⟨W.heap.size,0,J⟩) 256 256] 77);have l:=AC d (Ay #[E (I ⟨W.heap.size,0,J⟩) 256 256] 77);have w:(d.alloc (Ay #[E (I ⟨W.heap.size,0,J⟩) 256 256] 77)).heap.size=W.heap.size+1+1:=by simp[t]
 generalize d.alloc (Ay #[E (I ⟨W.heap.size,0,J⟩) 256 256] 77)=n at p l w |-
 rw[t] at l;have r:=AF n (Ay #[O Ap 0,E J 0 0,O Ap 42,E (I ⟨W.heap.size+1,0,J⟩) 1 1,O Ap 3,E (I ⟨b,off,J⟩) (D.length+1) cap,O Ap 42,E (I ⟨b,off+(D.length+1),J⟩) 1 (cap-(D.length+1))] 268);have m:=AC n (Ay #[O Ap 0,E J 0 0,O Ap 42,E (I ⟨W.heap.size+1,0,J⟩) 1 1,O Ap 3,E (I ⟨b,off,J⟩) (D.length+1) cap,O Ap 42,E (I ⟨b,off+(D.length+1),J⟩) 1 (cap-(D.length+1))] 268);generalize n.alloc (Ay #[O Ap 0,E J 0 0,O Ap 42,E (I ⟨W.heap.size+1,0,J⟩) 1 1,O Ap 3,E (I ⟨b,off,J⟩) (D.length+1) cap,O Ap 42,E (I ⟨b,off+(D.length+1),J⟩) 1 (cap-(D.length+1))] 268)=f at r m |-
 rw[w] at m;have h:AB d.heap.size d f:=p.trans (r.mono p.size);have g:AB W.heap.size W f:=o.trans (h.mono o.size);have u:Chg P P W f:=Chg.of_below g;have L:=(h.block _ (Au.1 s).1).trans s;have x:=(r.block _ (Au.1 l).1).trans l;have c:∀ k,W.heap.size<=k->¬ P k:=fun k Q G=>by have:=A k G;omega
 have R:(Iy q N D).length=D.length+2:=Mh q N D;rw[<- z] at hb;have v:=hb.mid 0 (D.length+1) Aa (BV (CB q N) :: D) (by
  unfold Iy;rw[CX];show List.take ((BV (CB q N) :: D).length) ((BV (CB q N) :: D) ++ [BV (DZ q)])=_
  rw[List.take_left])
 have H:=hb.mid (D.length+1) 1 Aa [BV (DZ q)] (by
  unfold Iy;show List.take 1 (List.drop ((BV (CB q N) :: D).length) ((BV (CB q N) :: D) ++ [BV (DZ q)]))=_
  rw[List.drop_left];rfl)
 rw[Nat.add_zero,Nat.sub_zero] at v;refine⟨g,(Au.1 m).1,c _ Aa,fun j C=>?_⟩;have F:j<4:=C;have a:∀ i,f.cell? ⟨W.heap.size+1+1,i,J⟩=(#[O Ap 0,E J 0 0,O Ap 42,E (I ⟨W.heap.size+1,0,J⟩) 1 1,O Ap 3,E (I ⟨b,off,J⟩) (D.length+1) cap,O Ap 42,E (I ⟨b,off+(D.length+1),J⟩) 1 (cap-(D.length+1))]:Array AA)[i]? :=fun i=>AD _ _ _ _ _ _ m
 obtain rfl|rfl|rfl|rfl:j=0\/j=1\/j=2\/j=3:=Aa
 . exact⟨J,0,a _,a _,BBa.nil _ _⟩
 . refine⟨_,_,a _,a _,A8 ⟨_,1,rfl,AE _,fun i B=>?_⟩⟩
   obtain rfl:i=0:=by have:i<1:=B;omega
   refine⟨⟨(Au.1 x).1,c _ (Nat.le_succ _)⟩,rfl,E (I ⟨W.heap.size,0,J⟩) 256 256,?_,Qi L,Apt.new (c _ (AE _))⟩;show f.cell? ⟨W.heap.size+1,0,J⟩=_
   rw[AD _ _ _ _ _ _ x];rfl
 . exact⟨_,_,a _,a _,v.chg u⟩
 . exact⟨_,_,a _,a _,H.chg u⟩
def StSl.drew{w:At}{P:Nat->Prop}{b off:Nat}{a:List (Nat × Ae)}(h:StSl w P b off a):StSl w.drew P b off a:=h.chg (Chg.of_below (Bd (AP _ _) 1))
def Tr{B:Nat}{w w':At}(h:AB B w w'):AB B w w'.drew:=Bd h 1
section
variable {w:At}{P:Nat->Prop}{p:AA}{s:DS}
def Yg(h:Dk w P p s){v:AA}{q:Int}{N:Ab}{D:Ae}(hv:TxV w v q N D)(q0:0<=q)(q1:q<4294967296)(hB:Gb s.F.length N D=AQ)(hU:s.U.length<=900000):
 AH Aq 130 #[p,v] w (RunQ (Dq q (Eg q N D)) w P p s):=by
 have L:=hv;obtain⟨no,nc,ao,dc,rfl,hN,hD⟩:=hv;have C:=hB;unfold Gb at C;rw[A0,A0,Bh] at C;obtain⟨OO,hF,hH⟩:=C;obtain⟨f1,f2,f3⟩:=EM hF;have KT:=wN (fun W (c:AB w.heap.size w W)=>RT (h.below c) (L.below c) AQ hB);have KP:=wN (fun W (c:AB w.heap.size w W)=>fX (L.below c) hF q0 q1);obtain⟨M,hM⟩:=nm ((Iy q N D).length);obtain⟨K,hK⟩:=nm (D.length+1);have a2:K+1=M:=by rw[hM,Mh,hK]
 have a1:M<=40:=Aa;have KL:Hid (∀ W g U3,AB w.heap.size w W->(W.heap.size+1+1=g)->(StSl U3 P g 0 (nh q N D))->AB W.heap.size W U3->AH Aq 173 #[p,E (I ⟨g,0,J⟩) 4 4] U3 (fun e w'=>e=Av (O Ap (BP (Dq q (Eg q N D)) s).1)/\∃ P',Dk w' P' p (BP (Dq q (Eg q N D)) s).2/\Chg P P' w w')):=wN (fun W g U3 c _ hs a=>by
  have:=oo (cap:=4) (h.below (c.trans (a.mono c.size))) hs hU (by
   unfold qU;rw[Sl];unfold Dq;simp[Eg];omega) (by show 4<=1000;omega) (fun j hj i hi=>by
   have b0:j<4:=hj;obtain rfl|rfl|rfl|rfl:j=0\/j=1\/j=2\/j=3:=Aa
   . exact absurd hi (Bm _)
   . obtain rfl:i=0:=by have:i<1:=hi;omega
     exact⟨by show 42+0<_;omega,by show z256.length=256;exact Bg⟩
   . have b3:i<D.length+1:=hi
     refine⟨by show 3+i<_;omega,?_⟩;show((BV (CB q N) :: D).getD i []).length=256
     cases i with
     |zero=>exact Dp _ (by rw[Gk];omega)
     |succ i=>exact(f3 i Aa).2.1
   . obtain rfl:i=0:=by have:i<1:=hi;omega
     exact⟨by show 42+0<_;omega,by show(BV (DZ q)).length=256;exact Dp _ (by rw[JZ];omega)⟩) (fun j hj=>by
   have b0:j<4:=hj;obtain rfl|rfl|rfl|rfl:j=0\/j=1\/j=2\/j=3:=Aa
   . exact⟨by show 0<=1000;omega,by show 0<=1000;omega⟩
   . exact⟨by show 42<=1000;omega,by show 1<=1000;omega⟩
   . exact⟨by show 3<=1000;omega,by show D.length+1<=1000;omega⟩
   . exact⟨by show 42<=1000;omega,by show 1<=1000;omega⟩)
  rw[Sl] at this;refine this.mono ?_;rintro e w' ⟨he,P',hd,hc⟩;exact⟨he,P',hd,(Chg.of_below (c.trans (a.mono c.size))).trans hc⟩)
 have a5:=fun k hk=>h.lt k hk
 have b2:=wN (fun W (c:AB w.heap.size w W) u (G:BB2 W W.heap.size 0 u (Iy q N D))=>G.zero.apart (h.below c));have S:=wN (fun W (c:AB w.heap.size w W) B u (G:BB2 W B 0 u (Iy q N D))=>G.zero.apart (h.below c));have a8:=wN (fun W (c:AB w.heap.size w W) b t l (G:BBa W P (E (I ⟨b,t,J⟩) M l) (Iy q N D))=>cI (W:=W) (P:=P) (fun k hk=>AL (a5 k hk) c.size) G hM.symm hK.symm);have Y:=wN (fun W u (G:BBSl W u (Iy q N D))=>G.open');rw[<- hM] at Y;obtain⟨bp,rfl⟩:=h.ptr;unfold RunQ;obtain⟨A,hA⟩:=nm (Dq q (Eg q N D));rw[<- hA] at KL |-
 obtain⟨rr,a7⟩:=nm ((BP A s).1);obtain⟨rs,lX⟩:=nm ((BP A s).2);rw[<- a7,<- lX] at KL |-
 generalize N.length=n at KT KP |-
 generalize D.length=m at KT KP |-
 have r:=AF w (Ay #[O .u32 q,E no n nc,E ao m dc] 215);have Q:=AC w (Ay #[O .u32 q,E no n nc,E ao m dc] 215);have a3:((K:Nat):Int)=(M:Int)-1:=Aa;have z:=wN a2;have V:=wN a1;have X:=wN a3;clear h hN hD L hB hF hH f1 f2 f3 OO a5 hU q0 q1 hM hK hA a7 lX a2 a3;go_enter func130,ntmps130;go_upto_region 1 with(fail)
 generalize w.alloc (Ay #[O .u32 q,E no n nc,E ao m dc] 215)=u at r Q |-
 have a9:=wN (KT.out _ r);have d0:u.cell? ⟨w.heap.size,0,J⟩=I (O .u32 q):=by rw[AD _ _ _ _ _ _ Q];rfl
 have d1:u.cell? ⟨w.heap.size,1,J⟩=I (E no n nc):=by rw[AD _ _ _ _ _ _ Q];rfl
 have d2:u.cell? ⟨w.heap.size,2,J⟩=I (E ao m dc):=by rw[AD _ _ _ _ _ _ Q];rfl
 have Ot:w.heap.size<u.heap.size:=(Au.1 Q).1;obtain⟨d,hd⟩:=nm w.heap.size;have T:=wN r;have o:Hid (0<M):=wN (by have:=z.out;omega);rw[<- hd] at d0 d1 d2 Ot |-
 have e1:1<=M:=o.out;clear Q KT r hd
 go_wp2_with (first
  |(go_at_call 162;(with_reducible refine Ad a9.out ?_);rintro w2 a
    have x:=wN (T.out.trans (a.mono T.out.size));have g0:=(a.cell (p:=⟨d,0,J⟩) Ot).trans d0;have g1:=(a.cell (p:=⟨d,1,J⟩) Ot).trans d1;have g2:=(a.cell (p:=⟨d,2,J⟩) Ot).trans d2;clear a d0 d1 d2)
  |(go_at_call 172;(with_reducible refine(KP.out _ x.out).mono ?_);rintro e w3 ⟨u3,rfl,H,a4⟩
    have y:=wN (x.out.trans (a4.mono x.out.size));have R:=wN (S.out _ y.out _ _ H);obtain⟨bo,l,rfl,CD,a6⟩:=Y.out _ _ H.zero.sl;obtain⟨b,t,rfl,_,_⟩:=a6 o.out;have f:=wN CD;clear H a4 a6 CD g0 g1 g2))
 have b4:Ap.wrap ((M:Int)-1)=(M:Int)-1:=Bz _ (by have:=V.out;have:=o.out;omega);obtain⟨Z,hZ⟩:=nm (AW 256 (O .u8 0));have rY:=fun W=>YM W 256 Af 256 rfl
 have IK:=fun W=>jo b t M l K ((M:Int)-1) X.out.symm (by have:=f.out;have:=z.out;omega) (by have:=f.out;have:=o.out;omega) W
 have Oq:=fun W=>Y5 b t M l K ((M:Int)-1) X.out.symm z.out f.out W
 obtain⟨h1,h2⟩:=a8.out _ y.out _ _ _ R.out;have a0:=wN (KL.out _ _ _ y.out rfl h2.drew (Tr h1));rw[<- hZ] at rY a0;clear h1 h2 hZ R;go_region_held3 (fun W=>True) (trivial) (first|(go_at_call 173;(with_reducible refine Ad a0.out ?_);rintro w5 b1))
 go_wp2;go_ret;exact⟨rfl,b1⟩
end
end Go.Proofs.YtfpdajplfmakhaaGreatDoor
