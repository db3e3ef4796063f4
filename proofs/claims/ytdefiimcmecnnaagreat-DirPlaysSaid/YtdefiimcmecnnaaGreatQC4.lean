/- What the law rests on. -/
import Derived.Lib.SliceRun
import Derived.Test.YtdefiimcmecnnaaGreatQC3
open Go.Value renaming int->O,slice->E,pointer->Am,tuple->AO,bool->A1,agg->BD
open Go.IntKind renaming i64->Ad
open Go.Proofs.Tryz renaming prog->Ae
open Option renaming none->J,some->I
open Go.Ending renaming returned->Ag
open Go renaming World->C,Value->Aq,Calls->AA,Oper->BS,wpList->Cn
open Go.Obj renaming cells->Ar
open Go.RowKit renaming Below->At
open List renaming replicate->AD,nil_append->B0,length_cons->Ch,range->Co
open Bool renaming false->AI,true->AL
open Or renaming inl->AN,inr->Ba
open Array renaming replicate->A3
namespace Go.Proofs.YtdefiimcmecnnaaGreat
set_option maxHeartbeats 12000000
set_option linter.unusedVariables false
set_option maxRecDepth 100000
theorem CH:type_of% @Bool.false_ne_true:=@Bool.false_ne_true
open Go.RowKit
def JC(c:List Int)(n:Nat):List Int:=(Co n).map fun i=>Cc c (10+2*i) 2
theorem Ng(c:List Int)(n:Nat):(JC c n).length=n:=by simp[JC]
theorem OK(c:List Int)(n i:Nat)(hi:i<n):(JC c n).getD i 0=Cc c (10+2*i) 2:=by
 simp[JC,hi]
def DD(b:List Int)(q:Int)(N:List Int):Prop:=ES N=AL/\(0<=q/\q<4294967296)/\b=BU (Cw q N)
theorem Nq{b:List Int}{q:Int}{N:List Int}(h:DD b q N):FG b/\Cc (b.take 252) 4 4=q/\Cc (b.take 252) 8 2=(N.length:Int)/\JC (b.take 252) N.length=N:=by
 obtain⟨hN,⟨q0,q1⟩,rfl⟩:=h;obtain⟨Ki,hx⟩:=GU hN;have hl:(Cw q N).length<=252:=by rw[Gu];omega
 rw[SO q N Ki];refine⟨JS _ hl,Xq q N q0 q1,Sc q N Ki,?_⟩;apply Bi (Ng _ _);intro i a b;have:=OK (DM (Cw q N)) N.length i b;rw[PH q N i b (hx i b)] at this
 simpa [a,b] using this
theorem RH{b:List Int}{q q':Int}{N N':List Int}(h:DD b q N)(h':DD b q' N'):q=q'/\N=N':=by
 obtain⟨_,a1,a2,a3⟩:=Nq h;obtain⟨_,b1,b2,b3⟩:=Nq h';have e:N.length=N'.length:=by
  have:=a2.symm.trans b2;omega
 exact⟨a1.symm.trans b1,by rw[<- a3,<- b3,e]⟩
theorem tc{c:List Int}(h:FJ c)(a:Nat):0<=Cc c a 2/\Cc c a 2<=65535:=by
 have:=D4 (CZ h) a 2;simp at this;omega
theorem ZW{w:C}{v:Aq}{c:List Int}(hs:BSl w v c)(hc:c.length=252)(h:37<Cc c 8 2):
 AA Ae 182 #[v] w fun e w'=>e=Ag (AO #[E J 0 0,A1 AI])/\w=w':=by
 have K8:=vJ (Ri hs (by omega) 8 2 8 2 rfl rfl (by omega) (by omega) (by omega) _ rfl);obtain⟨x,hx⟩:=nm (Cc c 8 2);rw[<- hx] at K8 h;clear hs hc hx;go_enter Tryz.func182,Tryz.ntmps182;go_wp2_with (go_at_call 181;(with_reducible refine K8.out.mono ?_);rintro e w2 ⟨rfl,rfl⟩)
 go_ret2;exact⟨rfl,rfl⟩
theorem Zr{w:C}{v:Aq}{c:List Int}(hs:BSl w v c)(hc:c.length=252):
 AA Ae 182 #[v] w fun e w'=>∃ u B,e=Ag (AO #[u,A1 B])/\At w.heap.size w w'/\
  ((B=AL/\Cc c 8 2<=37/\ES (JC c (Cc c 8 2).toNat)=AL/\IR w' 0 u (JC c (Cc c 8 2).toNat))\/
   (B=AI/\(Cc c 8 2<=37->ES (JC c (Cc c 8 2).toNat)=AI)/\∃ ao n cap,u=E ao n cap)):=by
 by_cases h:Cc c 8 2<=37
 . have h0:=(tc hs.1 8).1
   obtain⟨n,hn⟩:=nm ((Cc c 8 2).toNat);rw[<- hn];have hl:=Ng c n;have hbd:∀ i,i<n->0<=(JC c n).getD i 0/\(JC c n).getD i 0<=65535:=fun i hi=>by rw[OK c n i hi];exact tc hs.1 _
   refine(SI hs hc (N:=JC c n) (by rw[hl];omega) (by rw[hl];omega) (fun i hi=>(OK c n i (by rw[hl] at hi;exact hi)).symm) (fun i hi=>hbd i (by rw[hl] at hi;exact hi)) _ rfl).mono ?_;rintro e w' ⟨u,rfl,hu,hb⟩;refine⟨u,_,rfl,hb,?_⟩;cases hf:ES (JC c n)
   . obtain⟨ao,cap,hv⟩:=hu.sl.shape
     exact Ba ⟨rfl,fun _=>rfl,ao,_,cap,hv⟩
   . exact AN ⟨rfl,h,rfl,hu⟩
 . refine(ZW hs hc (by omega)).mono ?_
   rintro e w' ⟨rfl,rfl⟩;exact⟨_,_,rfl,AM _ _,Ba ⟨rfl,fun h'=>absurd h' h,J,0,0,rfl⟩⟩
theorem tReadH_nil{w:C}{cap:Nat}{ao:Option Addr}:AA Ae 153 #[E ao 0 cap] w fun e w'=>e=Ag (AO #[O .u32 0,E J 0 0,A1 AI])/\w=w':=by
 go_enter Tryz.func153,Tryz.ntmps153;go_wp2;go_ret3;exact⟨rfl,rfl⟩
theorem W6{w:C}{v:Aq}{L:List (List Int)}(hs:BBSl w v L)(h0:0<L.length)(hh:¬ FG (L.getD 0 [])):
 AA Ae 153 #[v] w fun e w'=>e=Ag (AO #[O .u32 0,E J 0 0,A1 AI])/\At w.heap.size w w':=by
 obtain⟨ao,cap,rfl,_,hc⟩:=hs.open';obtain⟨b,off,rfl,hb,hcc⟩:=hc h0;obtain⟨u0,Ol,hb0⟩:=hcc 0 h0;rw[Nat.add_zero] at Ol;obtain⟨uo,uc,rfl,_⟩:=hb0.shape;have KO:=vJ (Tl hb0 hh);obtain⟨y,hy⟩:=nm ((L.getD 0 []).length);rw[<- hy] at KO Ol;obtain⟨m,hm⟩:=nm L.length;rw[<- hm] at h0 |-
 have FH:¬ (m:Int)=0:=by omega
 have hm1:((m:Int)==0)=AI:=by simpa using FH
 have hm2:(0:Int)<(m:Int):=by omega
 clear hs hc hh hcc hb0 hm hy;go_enter Tryz.func153,Tryz.ntmps153;go_wp2_with (go_at_call 168;(with_reducible refine KO.out.mono ?_);rintro e w2 ⟨rfl,hb2⟩)
 go_ret3;exact⟨rfl,hb2⟩
theorem SA{w:C}{v:Aq}{L:List (List Int)}(hs:BBSl w v L)(h0:0<L.length)(hh:FG (L.getD 0 []))(C6:∀ q N,¬ DD (L.getD 0 []) q N):
 AA Ae 153 #[v] w fun e w'=>e=Ag (AO #[O .u32 0,E J 0 0,A1 AI])/\At w.heap.size w w':=by
 obtain⟨ao,cap,rfl,_,hc⟩:=hs.open';obtain⟨b,off,rfl,hb,hcc⟩:=hc h0;obtain⟨u0,Ol,hb0⟩:=hcc 0 h0;rw[Nat.add_zero] at Ol;obtain⟨uo,uc,rfl,_⟩:=hb0.shape;have KO:=vJ (Kt hb0 hh);have hl:=Nt hh;have Oe:(L.getD 0 []).length=256:=hh.1;have hby:=hb0.1;rw[Oe] at Ol hb0 KO;have HU0:=vJ hb0;generalize L.getD 0 []=bb at KO hl C6 HU0 hby;obtain⟨c,hcd⟩:=nm (bb.take 252);have hbc:FJ c:=by rw[hcd];exact Ez hby 252
 rw[<- hcd] at KO hl;have hq:=D4 (CZ hbc) 4 4;have q0:=hq.1;have q1:Cc c 4 4<4294967296:=by simpa using hq.2
 have K4:=vJ (fun W v (h:BSl W v c)=>Ri h (by omega) 4 4 4 4 rfl rfl (by omega) (by omega) (by omega) _ rfl);have KR:=vJ (fun W v (h:BSl W v c)=>Zr h hl);obtain⟨q,hqd⟩:=nm (Cc c 4 4);rw[<- hqd] at q0 q1 K4;obtain⟨N,hN⟩:=nm (JC c (Cc c 8 2).toNat);rw[<- hN] at KR;have KH:=vJ (fun(hf:ES N=AL) W u (h:IR W 0 u N)=>Rg h.sl (GU hf).1 (GU hf).2 q0 q1);have HNE:=vJ (fun(hf:ES N=AL)=>show ¬ BU (Cw q N)=bb from fun e=>C6 q N ⟨hf,⟨q0,q1⟩,e.symm⟩);generalize BU (Cw q N)=HS at KH HNE;obtain⟨m,hm⟩:=nm L.length;rw[<- hm] at h0 |-
 have FH:¬ (m:Int)=0:=by omega
 have hm1:((m:Int)==0)=AI:=by simpa using FH
 have hm2:(0:Int)<(m:Int):=by omega
 have sJ:IntKind.u32.wrap q=q:=IntWalk.u32_in _ (by omega);clear hs hc hh hcc hb0 Oe hl C6 hby hcd hbc hq hqd hN hm q0 q1;go_enter Tryz.func153,Tryz.ntmps153
 go_wp2_with (first
  |(go_at_call 168;(with_reducible refine KO.out.mono ?_);rintro e w2 ⟨v2,rfl,hob2,hb2⟩
    have HV2:=vJ hob2.bsl;have HB2:=vJ hb2)
  |(go_at_call 181;(with_reducible refine(K4.out _ _ HV2.out).mono ?_);rintro e w3 ⟨rfl,rfl⟩)
  |(go_at_call 182;(with_reducible refine(KR.out _ _ HV2.out).mono ?_);rintro e w4 ⟨v4,B4,rfl,hb4,Of⟩
    have HCASE:=vJ Of;clear Of))
 have HB4:Hid (At w.heap.size w w4.drew):=vJ (A2 (HB2.out.trans (hb4.mono HB2.out.size)) 1);have HB44:Hid (At w.heap.size w w4):=vJ (HB2.out.trans (hb4.mono HB2.out.size));clear hob2 hb2 hb4;rcases HCASE.out with⟨rfl,_,hf,hv4⟩| ⟨rfl,_,ao4,n4,cap4,rfl⟩
 . have HF:=vJ hf
   have HV4:Hid (IR w4.drew 0 v4 N):=vJ hv4;have e0:w4.drew.cell? ⟨b,off,J⟩=I (E uo 256 uc):=(HB4.out.cell (p:=⟨b,off,J⟩) hb).trans Ol;have Si:b<w4.drew.heap.size:=AH hb HB4.out.size;have HU4:=vJ (HU0.out.below HB4.out);clear Ol HU0 hf hv4 HCASE HB44
   go_region_held3 (fun W=>W.cell? ⟨b,off,J⟩=I (E uo 256 uc)) (first|exact f0|exact e0) (first
    |(go_at_call 183;(with_reducible refine(KH.out HF.out _ _ HV4.out).mono ?_);rintro e w5 ⟨v5,rfl,hob5,hb5⟩
      have f0:=(hb5.cell (p:=⟨b,off,J⟩) Si).trans e0;have K6:=vJ (EC hob5.bsl (HU4.out.below hb5));rw[AG (HNE.out HF.out)] at K6;have HB5:=vJ (HB4.out.trans (hb5.mono HB4.out.size)))
    |(go_at_call 156;(with_reducible refine K6.out.mono ?_);rintro e w6 ⟨rfl,rfl⟩))
   go_wp2;go_ret3;exact⟨rfl,HB5.out⟩
 . clear HCASE HB4
   go_quiet (fail)
   go_wp2;go_ret3;exact⟨rfl,A2 HB44.out nq⟩
theorem Rz{w:C}{v:Aq}{L:List (List Int)}(hs:BBSl w v L):
 AA Ae 153 #[v] w fun e w'=>At w.heap.size w w'/\
  ((∃ q N u,0<L.length/\DD (L.getD 0 []) q N/\e=Ag (AO #[O .u32 q,u,A1 AL])/\IR w' 0 u N)\/
   ((∀ q N,¬ (0<L.length/\DD (L.getD 0 []) q N))/\e=Ag (AO #[O .u32 0,E J 0 0,A1 AI]))):=by
 by_cases h0:0<L.length
 . by_cases hd:∃ q N,DD (L.getD 0 []) q N
   . obtain⟨q,N,hq⟩:=hd
     refine(Jo hs h0 hq.2.2 hq.1 hq.2.1.1 hq.2.1.2).mono ?_;rintro e w' ⟨u,rfl,hu,hb⟩;exact⟨hb,AN ⟨q,N,u,h0,hq,rfl,hu⟩⟩
   . have C6:∀ q N,¬ DD (L.getD 0 []) q N:=fun q N h=>hd ⟨q,N,h⟩
     by_cases sK:FG (L.getD 0 [])
     . refine(SA hs h0 sK C6).mono ?_
       rintro e w' ⟨rfl,hb⟩;exact⟨hb,Ba ⟨fun q N h=>C6 q N h.2,rfl⟩⟩
     . refine(W6 hs h0 sK).mono ?_
       rintro e w' ⟨rfl,hb⟩;exact⟨hb,Ba ⟨fun q N h=>C6 q N h.2,rfl⟩⟩
 . obtain⟨ao,cap,rfl,_⟩:=hs.shape
   have e:L.length=0:=(by omega);rw[e];refine tReadH_nil.mono ?_;rintro e w' ⟨rfl,rfl⟩;exact⟨AM _ _,Ba ⟨fun q N h=>absurd h.1 (by omega),rfl⟩⟩
theorem jp{w:C}{v:Aq}{L:List (List Int)}(hs:BBSl w v L):
 AA Ae 105 #[v] w fun e w'=>At w.heap.size w w'/\
  ((∃ q N,0<L.length/\DD (L.getD 0 []) q N/\e=Ag (AO #[O .u32 q,A1 AL]))\/
   ((∀ q N,¬ (0<L.length/\DD (L.getD 0 []) q N))/\e=Ag (AO #[O .u32 0,A1 AI]))):=by
 by_cases h:∃ q N,0<L.length/\DD (L.getD 0 []) q N
 . obtain⟨q,N,h0,hq⟩:=h
   refine(nO hs h0 hq.2.2 hq.1 hq.2.1.1 hq.2.1.2).mono ?_;rintro e w' ⟨rfl,hb⟩;exact⟨hb,AN ⟨q,N,h0,hq,rfl⟩⟩
 . have C6:∀ q N,¬ (0<L.length/\DD (L.getD 0 []) q N):=fun q N hh=>h ⟨q,N,hh⟩
   have K:Hid (AA Ae 153 #[v] w fun e w'=>e=Ag (AO #[O .u32 0,E J 0 0,A1 AI])/\At w.heap.size w w'):=vJ ((Rz hs).mono fun e w' ⟨hb,hc⟩=>by
    rcases hc with⟨q,N,u,h0,hq,_⟩| ⟨_,he⟩
    . exact absurd ⟨h0,hq⟩ (C6 q N)
    . exact⟨he,hb⟩)
   have HNO:=vJ C6;clear hs h C6;go_enter Tryz.func105,Tryz.ntmps105;go_wp2_with (go_at_call 153;(with_reducible refine K.out.mono ?_);rintro e w2 ⟨rfl,hb2⟩)
   go_ret2;exact⟨hb2,Ba ⟨HNO.out,rfl⟩⟩
theorem US(w:C)(b off n cap l h:Nat)(h1:l<=h)(h2:h<=cap)(h3:l<cap):
 (Instr.sliceAt 63 (E (I ⟨b,off,J⟩) n cap) (I (O Ad (l:Int))) (I (O Ad (h:Int))) J).run Ae w=.ok (E (I ⟨b,off+l,J⟩) (h-l) (cap-l)) w:=by
 obtain⟨i,g2,g3,g4,g5⟩:=By Sb;have hne:cap≠l:=by omega
 have ee:Ae.elem 63=49:=by kernel_rfl
 have hs:(sizeOf 49).run Ae w=.ok 1 w:=by simp[sizeOf,typeInfo,g2,g4]
 rw[run_sliceAt_slice w 63 _ _ _ _ (by rw[ee];exact Tryz.underlying63),run_slice_lh w 63 _ n cap (by rw[ee];exact Tryz.underlying63) Ad Ad (l:Int) (h:Int) (by omega) (by omega) (by omega),ee,hs];simp[sliced,hne,Cb]
theorem Ka{w:C}{ops:Array BS}{rest:List BS}{o:BS}{a:Act}{Q:Exit->Act->C->Prop}(Dn:o.guard=J)(x lo hi:Operand)(ho:o.op=.slice 63 x (I lo) (I hi) J)
 (b off n cap:Nat) (hx:a.eval x=E (I ⟨b,off,J⟩) n cap) (L H:Int) (hl:a.eval lo=O Ad L) (hh:a.eval hi=O Ad H) (l h m:Nat) (hm:h-l=m) (hL:L=l) (hH:H=h) (h1:l<=h) (h2:h<=cap) (h3:l<cap)
 (hK:Cn Ae ops Q rest (a.put o.dst (E (I ⟨b,off+l,J⟩) m (cap-l))) w):Cn Ae ops Q (o :: rest) a w:=by
 subst hL hH hm;refine CM Dn fun K hK'=>?_
 unfold BS.wp execOp;simp only[ho,hx,hl,hh,Option.map_some,Option.map_none,US w b off n cap l h h1 h2 h3,DE,Sem.run_pure,Result.andThen_ok];exact hK' _ _ hK
theorem BBSl.mid{w:C}{b off cap:Nat}{L:List (List Int)}(h:BBSl w (E (I ⟨b,off,J⟩) L.length cap) L)(lo m:Nat)(hm:lo+m<=L.length)(M:List (List Int))(hM:(L.drop lo).take m=M):BBSl w (E (I ⟨b,off+lo,J⟩) m (cap-lo)) M:=by
 have hlen:((L.drop lo).take m).length=m:=by simp;omega
 rw[hM] at hlen;rcases h with⟨hv,_⟩| ⟨a',c',hv,Cm,hc⟩
 . simp at hv
 . obtain⟨rfl,rfl⟩:(⟨b,off,J⟩:Addr)=a'/\cap=c':=⟨Bz (A0 hv).1,(A0 hv).2.2⟩
   refine Ba ⟨⟨b,off+lo,J⟩,cap-lo,by rw[hlen],by omega,fun j hj=>?_⟩;rw[hlen] at hj;obtain⟨h1,h2,u,h3,h4⟩:=hc (lo+j) (by omega);refine⟨h1,rfl,u,?_,?_⟩
   . show w.cell? ⟨b,off+lo+j,J⟩=_
     rw[D6];exact h3
   . have e:M.getD j []=L.getD (lo+j) []:=by
      rw[<- hM];simp[hj]
     rw[e];exact h4
theorem EN:(Ae.info? 180).map (·.size)=I 3:=by kernel_rfl
theorem BQ{ops:Array BS}{rest:List BS}{o:BS}{a:Act}{w:C}{Q:Exit->Act->C->Prop}(Dn:o.guard=J)(ty:TypeId)(hi:(Ae.info? ty).map (·.size)=I 3)(x y:Operand)(ho:o.op=.store ty x y)
 (g:Nat) (hx:a.eval x=Am (I ⟨g,0,J⟩)) (p q r p' q' r':Aq) (hy:a.eval y=BD #[p,q,r]) (hp:p.oneCell'=AL) (hq:q.oneCell'=AL) (hr:r.oneCell'=AL) (T:TypeId) (hg:w.heap[g]? =I (Ar #[p',q',r'] T (0,0)))
 (h:∀ w',Wrote w w' g->w'.heap[g]? =I (Ar #[p,q,r] T (0,0))->Cn Ae ops Q rest (a.put o.dst undef) w'):Cn Ae ops Q (o :: rest) a w:=
 Do Dn ty x y ho g #[p,q,r] hx hy T _ hg hi rfl (by simp[hp,hq,hr]) (h _ (Wrote.setRow _ _ _) (Cr _ _ _ _ _ _ hg))
theorem DK{fn:Func}{p u:Tmp}{ty:TypeId}{fs}(h:fn.results=#[.cell p ty,.tmp u])(hu:Ae.underlying ty=I (.struct fs))(hi:(Ae.info? ty).map (·.size)=I 3)
 (tmps:Array Aq) (w:C) (g:Nat) (T:TypeId) (a b c x:Aq) (hp:tmps.getD p undef=Am (I ⟨g,0,J⟩)) (hg:w.heap[g]? =I (Ar #[a,b,c] T (0,0))) (hx:tmps.getD u undef=x):
 (results fn tmps).run Ae w=.ok (AO #[BD #[a,b,c],x]) w:=by
 rw[results_cell_tmp h,hp,hx];simp only[asAddr,Sem.run_pure,Result.andThen_ok];rw[run_loadVar_row w g T ty _ (0,0) _ hg hu rfl (by rw[hi];rfl)];rfl
theorem Lc{w w1:C}{g:Nat}{o:Obj}(h:w.heap[g]? =I o)(hb:At w.heap.size w w1):w1.heap[g]? =I o:=(hb.block _ (Al.1 h).1).trans h
theorem IR.wrote{w w':C}{B g:Nat}{v:Aq}{l:List Int}(h:IR w B v l)(hw:Wrote w w' g){cur:Array Aq}{T:TypeId}(hg:w.heap[g]? =I (Ar cur T (0,0)))(hT:T≠3):IR w' B v l:=by
 refine⟨h.1,?_⟩;rcases h.2 with h| ⟨g',cap,cur',hv,hB,hh,r⟩
 . exact AN h
 . refine Ba ⟨g',cap,cur',hv,hB,?_,r⟩
   rw[hw.2.2.2.2 g' (fun e=>by
    subst e;rw[hg] at hh
    injection hh with hh
    injection hh with _ h4
    exact hT h4)]
   exact hh
theorem BElt.wrote{w w':C}{B g:Nat}{x:Aq}{l:List Int}(h:BElt w B x l)(hw:Wrote w w' g)(hB:B<=g){cur:Array Aq}{T:TypeId}(hg:w.heap[g]? =I (Ar cur T (0,0)))(hT:T≠5):BElt w' B x l:=by
 by_cases h0:0<l.length
 . obtain⟨b,off,cap,rfl,hb,hor⟩:=h.2 h0
   have hne:b≠g:=fun e=>by
    subst e;rcases hor with h3| ⟨cur',h3⟩
    . omega
    . rw[h3] at hg
      injection hg with hg
      injection hg with _ h4
      exact hT h4.symm
   have ro:=hw.2.2.2.2 b hne;refine⟨⟨h.1.1,?_⟩,fun _=>⟨b,off,cap,rfl,by rw[hw.2.2.2.1];exact hb,hor.elim AN fun⟨cur,hc⟩=>Ba ⟨cur,by rw[ro];exact hc⟩⟩⟩;rcases h.1.2 with⟨hv,_⟩| ⟨a,cap',hv,Cm,hc⟩
   . simp at hv
   . obtain⟨rfl,rfl⟩:a=⟨b,off,J⟩/\cap=cap':=⟨(Bz (A0 hv).1).symm,(A0 hv).2.2⟩
     refine Ba ⟨_,cap,rfl,Cm,fun j hj=>?_⟩;obtain⟨h1,h2,h3⟩:=hc j hj;exact⟨by rw[hw.2.2.2.1];exact h1,rfl,by rw[Bh (a:=⟨b,off+j,J⟩) ro];exact h3⟩
 . obtain rfl:l=[]:=Bb (by omega)
   refine⟨⟨Gq,?_⟩,fun h=>absurd h h0⟩;rcases h.1.2 with h| ⟨a,cap,hv,Cm,_⟩
   . exact AN h
   . exact Ba ⟨a,cap,hv,Cm,fun j hj=>absurd hj (A8 _)⟩
theorem BBR.wrote{w w':C}{B g:Nat}{v:Aq}{L:List (List Int)}(h:BBR w B v L)(hw:Wrote w w' g)(hB:B<=g){cur:Array Aq}{T:TypeId}(hg:w.heap[g]? =I (Ar cur T (0,0)))(hT:T≠5)(sL:T≠49):BBR w' B v L:=by
 obtain⟨vs,hl,hr,ho⟩:=h;refine⟨vs,hl,fun j hj=>(hr j hj).wrote hw hB hg hT,ho.1,?_⟩;rcases ho.2 with h| ⟨g',cap,cur',hv,hB',hh,r⟩
 . exact AN h
 . refine Ba ⟨g',cap,cur',hv,hB',?_,r⟩
   rw[hw.2.2.2.2 g' (fun e=>by
    subst e;rw[hg] at hh
    injection hh with hh
    injection hh with _ h4
    exact sL h4)]
   exact hh
theorem VI{w:C}{v:Aq}{q:Int}{N:List Int}{D L:List (List Int)}(hs:BBSl w v L)(hL:L.length<=1000000)(hlen:N.length+2<=L.length)(hh:L.getD 0 []=BU (Cw q N))(hz:L.getD (L.length-1) []=BU (Ec q))
 (hD:(L.drop 1).take N.length=D) (hw:whole D=AL) (hN:ES N=AL) (q0:0<=q) (q1:q<4294967296):
 AA Ae 146 #[v] w fun e w'=>∃ vN vD,e=Ag (AO #[BD #[O .u32 q,vN,vD],A1 AL])/\IR w' 0 vN N/\BBR w' 0 vD D/\At w.heap.size w w':=by
 have hDl:D.length=N.length:=by rw[<- hD];simp;omega
 have Ki:=(GU hN).1;have hbx:=Ay w (Ar #[O .u32 0,E J 0 0,E J 0 0] 180);have E5:=Aw w (Ar #[O .u32 0,E J 0 0,E J 0 0] 180);have KR:=vJ (fun W (hb:At w.heap.size w W)=>Jo (hs.below hb) (by omega) hh hN q0 q1);have KE:=vJ (fun W=>Uo W q0 q1);obtain⟨ao,cap,rfl,Cm,hc⟩:=hs.open';obtain⟨b,off,rfl,hb,hcc⟩:=hc (by omega);obtain⟨u0,Ol,hb0⟩:=hcc (L.length-1) (by omega);rw[hz] at hb0;have Oe:=Dt (Ec q) (by rw[Lq];omega);obtain⟨uo,uc,rfl,_⟩:=hb0.shape;rw[Oe] at Ol hb0;have hmid:=hs.mid 1 N.length (by omega) D hD;have KW:=vJ (fun W (hb:At w.heap.size w W)=>OZ (hmid.below hb) (by omega));rw[hw] at KW;have KC:=vJ (fun W (hb:At w.heap.size w W)=>QF (hmid.below hb) (by omega) (fun j=>by
  by_cases hj:j<D.length
  . rw[(OW D).1 hw j hj];omega
  . rw[An,A5 (by omega)];exact AX _) 0 (AX _))
 have HU0:=vJ hb0;generalize BU (Ec q)=EB at KE HU0;have HNS:=vJ (fun W vN (h:IR W 0 vN N)=>h.isc.2);obtain⟨n,hn⟩:=nm N.length;obtain⟨m,hm⟩:=nm L.length;rw[<- hm] at hlen Cm Ol hL KR |-
 rw[<- hn] at hlen Ki KW KC hDl HNS;have HDL:=vJ hDl;have ew:Ad.wrap ((m:Int)-1)=(m:Int)-1:=A9 _ (by omega);have ew2:Ad.wrap ((n:Int)+2)=(n:Int)+2:=A9 _ (by omega);have e1:(0:Int)<=(m:Int)-1:=by omega
 have e2:((m:Int)-1).toNat=m-1:=by omega
 have e3:(m:Int)-1<(m:Int):=by omega
 have e4:¬ (m:Int)<(n:Int)+2:=by omega
 have e5:decide ((m:Int)<(n:Int)+2)=AI:=AG e4;have e6:m-1<m:=by omega
 have e7:(1:Int)<=(m:Int):=by omega
 have e8:1<=m:=by omega
 have e9:0<m:=by omega
 have e10:(0:Int)<(m:Int):=by omega
 have HE1:Hid (1+n-1=n):=vJ (by omega);have HE2:Hid ((1:Int)+(n:Int)=((1+n:Nat):Int)):=vJ (by push_cast;rfl);have HE3:Hid (1<=1+n/\1+n<=cap/\1<cap):=vJ (by omega);clear hs hh hz hD hw hN q0 q1 hc hcc hb0 Oe hmid hn hm hDl Ki;go_enter Tryz.func146,Tryz.ntmps146;go_upto_region 1 with(fail)
 have PI:w.heap.size<(w.alloc (Ar #[O .u32 0,E J 0 0,E J 0 0] 180)).heap.size:=by simp
 generalize w.alloc (Ar #[O .u32 0,E J 0 0,E J 0 0] 180)=w1 at hbx E5 PI |-
 go_wp2_with (go_at_call 153;(with_reducible refine(KR.out _ hbx).mono ?_);rintro e w2 ⟨v2,rfl,ic,hb2⟩
              obtain⟨no,nc,rfl,_⟩:=HNS.out _ _ ic)
 have HB2:Hid (At w1.heap.size w1 w2.drew):=vJ (A2 hb2 1);have HV2:Hid (IR w2.drew 0 (E no n nc) N):=vJ ic;have HBX:=vJ hbx;have HNX:=vJ E5;have e0:w2.drew.cell? ⟨b,off+(m-1),J⟩=I (E uo 256 uc):=((hbx.trans (HB2.out.mono hbx.size)).cell (p:=⟨b,off+(m-1),J⟩) hb).trans Ol;have HU2:=vJ (HU0.out.below (hbx.trans (HB2.out.mono hbx.size)));have JG:b<w2.drew.heap.size:=AH hb (hbx.trans (HB2.out.mono hbx.size)).size;clear ic hb2 hbx E5 Ol hb HU0
 go_region_held3 (fun W=>W.cell? ⟨b,off+(m-1),J⟩=I (E uo 256 uc)) (first|exact f0|exact e0) (first
  |(go_at_call 177;(with_reducible refine(KE.out _).mono ?_);rintro e w5 ⟨v5,rfl,hob5,hb5⟩
    have f0:=(hb5.cell (p:=⟨b,off+(m-1),J⟩) JG).trans e0;have K6:=vJ (EC (HU2.out.below hb5) hob5.bsl);rw[AF (rfl:EB=EB)] at K6;have HB5:=vJ (HB2.out.trans (hb5.mono HB2.out.size));have HV5:=vJ (HV2.out.below hb5);clear hob5)
  |(go_at_call 156;(with_reducible refine K6.out.mono ?_);rintro e w6 ⟨rfl,rfl⟩))
 have HB05:=vJ (HBX.out.trans (HB5.out.mono HBX.out.size));have K7:=vJ (KW.out _ HB05.out);have K8:=vJ (KC.out _ HB05.out);clear ew ew2 e1 e2 e3 e4 e5 e6 e7 e8 e9 e10 e0 f0 hb5 KW KC KE KR K6
 go_wp2_with (first
  |(with_reducible refine Ka rfl (.tmp 37) (.const (O Ad 1)) (.tmp 40) rfl b off m cap rfl 1 (1+(n:Int)) rfl rfl 1 (1+n) n HE1.out rfl HE2.out HE3.out.1 HE3.out.2.1 HE3.out.2.2 ?_)
  |(go_at_call 178;(with_reducible refine K7.out.mono ?_);rintro e w7 ⟨rfl,rfl⟩)
  |(go_at_call 179;(with_reducible refine K8.out.mono ?_);rintro e w8 ⟨v8,rfl,hv8,hb8⟩
    obtain⟨co,cc,rfl,_⟩:=hv8.sl.shape;rw[HDL.out] at hv8 |-
    have HV8:=vJ hv8;have HN8:=vJ (HV5.out.below hb8);have ie:=Lc HNX.out (HB5.out.trans (hb8.mono HB5.out.size));have HB8:=vJ (HB05.out.trans (hb8.mono HB05.out.size));clear hv8)
  |(with_reducible refine BQ rfl 180 EN (.tmp 2) (.tmp 50) rfl w.heap.size rfl _ _ _ _ _ _ rfl rfl rfl rfl _ ie ?_;intro w9 hw9 hr9))
 refine Bv (DK rfl Tryz.underlying180 EN _ _ w.heap.size _ _ _ _ _ rfl hr9 rfl) rfl ⟨_,_,rfl,?_,?_,HB8.out.trans (hw9.below (AB _))⟩
 . exact HN8.out.wrote hw9 ie (by decide)
 . exact HV8.out.wrote hw9 (AX _) ie (by decide) (by decide)
def IS(L:List (List Int))(q:Int)(N:List Int)(D:List (List Int)):Prop:=
 (0<L.length/\DD (L.getD 0 []) q N)/\N.length+2<=L.length/\L.getD (L.length-1) []=BU (Ec q)/\(L.drop 1).take N.length=D/\whole D=AL
def iP(w:C)(e:Ending)(w':C):Prop:=e=Ag (AO #[BD #[O .u32 0,E J 0 0,E J 0 0],A1 AI])/\At w.heap.size w w'
theorem U6{w:C}{v:Aq}{L:List (List Int)}(hs:BBSl w v L)(C6:∀ q N,¬ (0<L.length/\DD (L.getD 0 []) q N)):AA Ae 146 #[v] w (iP w):=by
 have hbx:=Ay w (Ar #[O .u32 0,E J 0 0,E J 0 0] 180);have E5:=Aw w (Ar #[O .u32 0,E J 0 0,E J 0 0] 180);have KR:Hid (∀ W,At w.heap.size w W->AA Ae 153 #[v] W fun e w'=>e=Ag (AO #[O .u32 0,E J 0 0,A1 AI])/\At W.heap.size W w'):=vJ fun W hb=>(Rz (hs.below hb)).mono fun e w' ⟨hb,hc⟩=>by
  rcases hc with⟨q,N,u,h0,hq,_⟩| ⟨_,he⟩
  . exact absurd ⟨h0,hq⟩ (C6 q N)
  . exact⟨he,hb⟩
 obtain⟨ao,cap,rfl,_⟩:=hs.shape;generalize L.length=m at KR |-
 clear hs C6;go_enter Tryz.func146,Tryz.ntmps146;go_upto_region 1 with(fail)
 generalize w.alloc (Ar #[O .u32 0,E J 0 0,E J 0 0] 180)=w1 at hbx E5 |-
 have HBX:=vJ hbx;have HNX:=vJ E5;clear E5;go_wp2_with (go_at_call 153;(with_reducible refine(KR.out _ hbx).mono ?_);rintro e w2 ⟨rfl,hb2⟩)
 have HB2:=vJ hb2;clear hb2 hbx;go_quiet (fail)
 have hr2:(w2.drewN nq).heap[w.heap.size]? =I (Ar #[O .u32 0,E J 0 0,E J 0 0] 180 (0,0)):=Lc HNX.out (A2 HB2.out nq);go_wp2_with (with_reducible refine BQ rfl 180 EN (.tmp 2) (.tmp 36) rfl w.heap.size rfl _ _ _ _ _ _ rfl rfl rfl rfl _ hr2 ?_;intro w9 hw9 hr9)
 refine Bv (DK rfl Tryz.underlying180 EN _ _ w.heap.size _ _ _ _ _ rfl hr9 rfl) rfl ⟨rfl,?_⟩;exact(A2 (HBX.out.trans (HB2.out.mono HBX.out.size)) nq).trans (hw9.below (AB _))
theorem Ss{w:C}{v:Aq}{q:Int}{N:List Int}{L:List (List Int)}(hs:BBSl w v L)(h0:0<L.length)(hq:DD (L.getD 0 []) q N)(hlen:¬ N.length+2<=L.length):AA Ae 146 #[v] w (iP w):=by
 have hbx:=Ay w (Ar #[O .u32 0,E J 0 0,E J 0 0] 180);have E5:=Aw w (Ar #[O .u32 0,E J 0 0,E J 0 0] 180);have KR:=vJ (fun W (hb:At w.heap.size w W)=>Jo (hs.below hb) h0 hq.2.2 hq.1 hq.2.1.1 hq.2.1.2);have Ki:=(GU hq.1).1;have HNS:=vJ (fun W vN (h:IR W 0 vN N)=>h.isc.2);obtain⟨ao,cap,rfl,_⟩:=hs.shape;obtain⟨n,hn⟩:=nm N.length;obtain⟨m,hm⟩:=nm L.length;rw[<- hm] at hlen KR |-
 rw[<- hn] at hlen Ki HNS;have e1:(m:Int)<(n:Int)+2:=by omega
 have e2:decide ((m:Int)<(n:Int)+2)=AL:=AF e1;have ew2:Ad.wrap ((n:Int)+2)=(n:Int)+2:=A9 _ (by omega);clear hs h0 hq hn hm;go_enter Tryz.func146,Tryz.ntmps146;go_upto_region 1 with(fail)
 generalize w.alloc (Ar #[O .u32 0,E J 0 0,E J 0 0] 180)=w1 at hbx E5 |-
 have HBX:=vJ hbx;have HNX:=vJ E5;clear E5
 go_wp2_with (go_at_call 153;(with_reducible refine(KR.out _ hbx).mono ?_);rintro e w2 ⟨v2,rfl,ic,hb2⟩
              obtain⟨no,nc,rfl,_⟩:=HNS.out _ _ ic)
 have HB2:=vJ hb2;clear hb2 hbx ic;go_quiet (fail)
 have hr2:(w2.drewN nq).heap[w.heap.size]? =I (Ar #[O .u32 0,E J 0 0,E J 0 0] 180 (0,0)):=Lc HNX.out (A2 HB2.out nq);go_wp2_with (with_reducible refine BQ rfl 180 EN (.tmp 2) (.tmp 36) rfl w.heap.size rfl _ _ _ _ _ _ rfl rfl rfl rfl _ hr2 ?_;intro w9 hw9 hr9)
 refine Bv (DK rfl Tryz.underlying180 EN _ _ w.heap.size _ _ _ _ _ rfl hr9 rfl) rfl ⟨rfl,?_⟩;exact(A2 (HBX.out.trans (HB2.out.mono HBX.out.size)) nq).trans (hw9.below (AB _))
theorem Np{w:C}{v:Aq}{q:Int}{N:List Int}{L:List (List Int)}(hs:BBSl w v L)(hL:L.length<=1000000)(hq:DD (L.getD 0 []) q N)(hlen:N.length+2<=L.length)
 (lK:L.getD (L.length-1) []≠BU (Ec q)\/L.getD (L.length-1) []=BU (Ec q)/\whole ((L.drop 1).take N.length)=AI):AA Ae 146 #[v] w (iP w):=by
 have Ki:=(GU hq.1).1;have hbx:=Ay w (Ar #[O .u32 0,E J 0 0,E J 0 0] 180);have E5:=Aw w (Ar #[O .u32 0,E J 0 0,E J 0 0] 180);have KR:=vJ (fun W (hb:At w.heap.size w W)=>Jo (hs.below hb) (by omega) hq.2.2 hq.1 hq.2.1.1 hq.2.1.2);have KE:=vJ (fun W=>Uo W hq.2.1.1 hq.2.1.2);obtain⟨ao,cap,rfl,Cm,hc⟩:=hs.open';obtain⟨b,off,rfl,hb,hcc⟩:=hc (by omega);obtain⟨u0,Ol,hb0⟩:=hcc (L.length-1) (by omega);obtain⟨uo,uc,rfl,_⟩:=hb0.shape;have hmid:=hs.mid 1 N.length (by omega) _ rfl;have ik:((L.drop 1).take N.length).length<=1000000:=by simp;omega
 have KW:=vJ (fun W (hb:At w.heap.size w W)=>OZ (hmid.below hb) ik);have HU0:=vJ hb0;have HNS:=vJ (fun W vN (h:IR W 0 vN N)=>h.isc.2);generalize BU (Ec q)=EB at KE lK;obtain⟨LB,hLB⟩:=nm (L.getD (L.length-1) []);rw[<- hLB] at HU0 lK Ol;obtain⟨y,hy⟩:=nm LB.length;rw[<- hy] at Ol HU0;obtain⟨WB,hWB⟩:=nm (whole ((L.drop 1).take N.length));rw[<- hWB] at KW lK;obtain⟨n,hn⟩:=nm N.length;obtain⟨m,hm⟩:=nm L.length;rw[<- hm] at hlen Cm Ol hL KR |-
 rw[<- hn] at hlen Ki KW HNS;have ew:Ad.wrap ((m:Int)-1)=(m:Int)-1:=A9 _ (by omega);have ew2:Ad.wrap ((n:Int)+2)=(n:Int)+2:=A9 _ (by omega);have e1:(0:Int)<=(m:Int)-1:=by omega
 have e2:((m:Int)-1).toNat=m-1:=by omega
 have e3:(m:Int)-1<(m:Int):=by omega
 have e4:¬ (m:Int)<(n:Int)+2:=by omega
 have e5:decide ((m:Int)<(n:Int)+2)=AI:=AG e4;have e6:m-1<m:=by omega
 have e7:(1:Int)<=(m:Int):=by omega
 have e8:1<=m:=by omega
 have e9:0<m:=by omega
 have e10:(0:Int)<(m:Int):=by omega
 have HE1:Hid (1+n-1=n):=vJ (by omega);have HE2:Hid ((1:Int)+(n:Int)=((1+n:Nat):Int)):=vJ (by push_cast;rfl);have HE3:Hid (1<=1+n/\1+n<=cap/\1<cap):=vJ (by omega);have HBAD:=vJ lK;clear hs hq hc hcc hb0 hmid hn hm Ki ik hLB hWB lK hy;go_enter Tryz.func146,Tryz.ntmps146;go_upto_region 1 with(fail)
 generalize w.alloc (Ar #[O .u32 0,E J 0 0,E J 0 0] 180)=w1 at hbx E5 |-
 go_wp2_with (go_at_call 153;(with_reducible refine(KR.out _ hbx).mono ?_);rintro e w2 ⟨v2,rfl,ic,hb2⟩
              obtain⟨no,nc,rfl,_⟩:=HNS.out _ _ ic)
 have HB2:Hid (At w1.heap.size w1 w2.drew):=vJ (A2 hb2 1);have HBX:=vJ hbx;have HNX:=vJ E5;have e0:w2.drew.cell? ⟨b,off+(m-1),J⟩=I (E uo y uc):=((hbx.trans (HB2.out.mono hbx.size)).cell (p:=⟨b,off+(m-1),J⟩) hb).trans Ol;have HU2:=vJ (HU0.out.below (hbx.trans (HB2.out.mono hbx.size)));have JG:b<w2.drew.heap.size:=AH hb (hbx.trans (HB2.out.mono hbx.size)).size;clear ic hb2 hbx E5 Ol hb HU0;rcases HBAD.out with hne| ⟨Sg,hwh⟩
 . have HNE:=vJ hne
   clear hne HBAD
   go_region_held3 (fun W=>W.cell? ⟨b,off+(m-1),J⟩=I (E uo y uc)) (first|exact f0|exact e0) (first
    |(go_at_call 177;(with_reducible refine(KE.out _).mono ?_);rintro e w5 ⟨v5,rfl,hob5,hb5⟩
      have f0:=(hb5.cell (p:=⟨b,off+(m-1),J⟩) JG).trans e0;have K6:=vJ (EC (HU2.out.below hb5) hob5.bsl);rw[AG HNE.out] at K6;have HB5:=vJ (HB2.out.trans (hb5.mono HB2.out.size));clear hob5)
    |(go_at_call 156;(with_reducible refine K6.out.mono ?_);rintro e w6 ⟨rfl,rfl⟩))
   have E3:=Lc HNX.out HB5.out;clear ew ew2 e1 e2 e3 e4 e5 e6 e7 e8 e9 e10 e0 f0 hb5 KW KE KR K6;go_wp2_with (with_reducible refine BQ rfl 180 EN (.tmp 2) (.tmp 36) rfl w.heap.size rfl _ _ _ _ _ _ rfl rfl rfl rfl _ E3 ?_;intro w9 hw9 hr9)
   refine Bv (DK rfl Tryz.underlying180 EN _ _ w.heap.size _ _ _ _ _ rfl hr9 rfl) rfl ⟨rfl,?_⟩;exact(HBX.out.trans (HB5.out.mono HBX.out.size)).trans (hw9.below (AB _))
 . subst Sg hwh
   clear HBAD
   go_region_held3 (fun W=>W.cell? ⟨b,off+(m-1),J⟩=I (E uo y uc)) (first|exact f0|exact e0) (first
    |(go_at_call 177;(with_reducible refine(KE.out _).mono ?_);rintro e w5 ⟨v5,rfl,hob5,hb5⟩
      have f0:=(hb5.cell (p:=⟨b,off+(m-1),J⟩) JG).trans e0;have K6:=vJ (EC (HU2.out.below hb5) hob5.bsl);rw[AF (rfl:LB=LB)] at K6;have HB5:=vJ (HB2.out.trans (hb5.mono HB2.out.size));clear hob5)
    |(go_at_call 156;(with_reducible refine K6.out.mono ?_);rintro e w6 ⟨rfl,rfl⟩))
   have HB05:=vJ (HBX.out.trans (HB5.out.mono HBX.out.size));have K7:=vJ (KW.out _ HB05.out);have E3:=Lc HNX.out HB5.out;clear ew ew2 e1 e2 e3 e4 e5 e6 e7 e8 e9 e10 e0 f0 hb5 KW KE KR K6
   go_wp2_with (first
    |(with_reducible refine Ka rfl (.tmp 37) (.const (O Ad 1)) (.tmp 40) rfl b off m cap rfl 1 (1+(n:Int)) rfl rfl 1 (1+n) n HE1.out rfl HE2.out HE3.out.1 HE3.out.2.1 HE3.out.2.2 ?_)
    |(go_at_call 178;(with_reducible refine K7.out.mono ?_);rintro e w7 ⟨rfl,rfl⟩)
    |(with_reducible refine BQ rfl 180 EN (.tmp 2) (.tmp 45) rfl w.heap.size rfl _ _ _ _ _ _ rfl rfl rfl rfl _ E3 ?_;intro w9 hw9 hr9))
   refine Bv (DK rfl Tryz.underlying180 EN _ _ w.heap.size _ _ _ _ _ rfl hr9 rfl) rfl ⟨rfl,?_⟩;exact HB05.out.trans (hw9.below (AB _))
theorem Kr{w:C}{v:Aq}{L:List (List Int)}(hs:BBSl w v L)(hL:L.length<=1000000):
 AA Ae 146 #[v] w fun e w'=>At w.heap.size w w'/\
  ((∃ q N D vN vD,IS L q N D/\e=Ag (AO #[BD #[O .u32 q,vN,vD],A1 AL])/\IR w' 0 vN N/\BBR w' 0 vD D)\/
   ((∀ q N D,¬ IS L q N D)/\e=Ag (AO #[BD #[O .u32 0,E J 0 0,E J 0 0],A1 AI]))):=by
 by_cases hd:∃ q N,0<L.length/\DD (L.getD 0 []) q N
 . obtain⟨q,N,h0,hq⟩:=hd
   have one:∀ q' N' D,IS L q' N' D->q'=q/\N'=N:=fun q' N' D h=>RH h.1.2 hq
   by_cases hlen:N.length+2<=L.length
   . by_cases hz:L.getD (L.length-1) []=BU (Ec q)
     . cases hw:whole ((L.drop 1).take N.length)
       . refine(Np hs hL hq hlen (Ba ⟨hz,hw⟩)).mono ?_
         rintro e w' ⟨rfl,hb⟩;refine⟨hb,Ba ⟨fun q' N' D h=>?_,rfl⟩⟩;obtain⟨rfl,rfl⟩:=one _ _ _ h;obtain⟨_,_,_,rfl,h5⟩:=h;rw[hw] at h5;cases h5
       . refine(VI hs hL hlen hq.2.2 hz rfl hw hq.1 hq.2.1.1 hq.2.1.2).mono ?_
         rintro e w' ⟨vN,vD,rfl,h1,h2,hb⟩;exact⟨hb,AN ⟨q,N,_,vN,vD,⟨⟨h0,hq⟩,hlen,hz,rfl,hw⟩,rfl,h1,h2⟩⟩
     . refine(Np hs hL hq hlen (AN hz)).mono ?_
       rintro e w' ⟨rfl,hb⟩;refine⟨hb,Ba ⟨fun q' N' D h=>?_,rfl⟩⟩;obtain⟨rfl,rfl⟩:=one _ _ _ h;exact hz h.2.2.1
   . refine(Ss hs h0 hq hlen).mono ?_
     rintro e w' ⟨rfl,hb⟩;refine⟨hb,Ba ⟨fun q' N' D h=>?_,rfl⟩⟩;obtain⟨rfl,rfl⟩:=one _ _ _ h;exact hlen h.2.1
 . have C6:∀ q N,¬ (0<L.length/\DD (L.getD 0 []) q N):=fun q N h=>hd ⟨q,N,h⟩
   refine(U6 hs C6).mono ?_;rintro e w' ⟨rfl,hb⟩;exact⟨hb,Ba ⟨fun q N D h=>C6 q N h.1,rfl⟩⟩
inductive PA where
 |w (n:Nat) (l:List Int)
 |f
def PA.run(s:DS):PA->DS
 |.w n l=>s.write n l
 |.f=>s.flush
def BP:List PA->DS->Int × DS
 |[],s=>(0,s)
 |a :: A,s=>if s.ok=AL then BP A (a.run s) else (2,s.pay)
def PA.fu(x:List (List Int) × List (Nat × List Int)):PA->List (List Int) × List (Nat × List Int)
 |.w n l=>(x.1,x.2 ++ [(n,l)])
 |.f=>(Cf x.2 x.1,[])
def Gg(A:List PA)(x:List (List Int) × List (Nat × List Int)):List (List Int) × List (Nat × List Int):=A.foldl PA.fu x
def DS.fuP(s:DS):List (List Int) × List (Nat × List Int):=(s.F,s.U)
theorem Cs(A B:List PA)(x:List (List Int) × List (Nat × List Int)):Gg (A ++ B) x=Gg B (Gg A x):=List.foldl_append
theorem PA.run_fu(s:DS)(a:PA):(a.run s).fuP=a.fu s.fuP:=by cases a <;> rfl
theorem IB:∀ (A:List PA) (s:DS),∃ k,k<=A.length/\(BP A s).2.fuP=Gg (A.take k) s.fuP/\((BP A s).1=0/\k=A.length\/(BP A s).1=2)
 |[],s=>⟨0,AB _,rfl,AN ⟨rfl,rfl⟩⟩
 |a :: A,s=>by
  unfold BP;by_cases h:s.ok=AL
  . rw[AC h]
    obtain⟨k,hk,h1,h2⟩:=IB A (a.run s);refine⟨k+1,by simp;omega,?_,?_⟩
    . rw[h1,PA.run_fu];rfl
    . rcases h2 with⟨h2,h3⟩|h2
      . exact AN ⟨h2,by simp[h3]⟩
      . exact Ba h2
  . rw[AE h]
    exact⟨0,AX _,rfl,Ba rfl⟩
theorem LR:∀ (A:List PA) (s:DS),s.fu=AI->s.dn=AI->(BP A s).1=0/\(BP A s).2.fuP=Gg A s.fuP/\(BP A s).2.fu=AI/\(BP A s).2.dn=AI/\(BP A s).2.le=s.le
 |[],s,h1,h2=>⟨rfl,rfl,h1,h2,rfl⟩
 |a :: A,s,h1,h2=>by
  have hok:s.ok=AL:=by unfold DS.ok l4;rw[h1,h2];rfl
  unfold BP;rw[AC hok];have f1:(a.run s).fu=AI:=by cases a <;> exact h1
  have f2:(a.run s).dn=AI:=by
   have:XS s.fu s.le s.dn=AI:=(by unfold XS;rw[h1,h2];rfl);cases a <;> exact this
  have f3:(a.run s).le=s.le:=by
   have:Zi s.fu s.le s.dn=s.le:=(by unfold Zi;rw[AE (by rw[h1];simp)]);cases a <;> exact this
  obtain⟨g1,g2,g3,g4,g5⟩:=LR A (a.run s) f1 f2;exact⟨g1,by rw[g2,PA.run_fu];rfl,g3,g4,g5.trans f3⟩
theorem Gz(W:List (Nat × List Int))(x:List (List Int) × List (Nat × List Int)):Gg (W.map fun y=>.w y.1 y.2) x=(x.1,x.2 ++ W):=by
 induction W generalizing x with
 |nil=>simp[Gg]
 |cons y W ih=>
  show Gg (W.map fun y=>.w y.1 y.2) (x.1,x.2 ++ [(y.1,y.2)])=_
  rw[ih];simp
theorem b9:∀ (W:List (Nat × List Int)) (F:List (List Int)) (i:Nat) (y:List Int),(∀ x∈W,x.1=i->x.2=y)->(Cf W F).getD i []=F.getD i []\/(Cf W F).getD i []=y
 |[],F,i,y,_=>AN rfl
 |x :: W,F,i,y,h=>by
  have ih:=b9 W (F.set x.1 x.2) i y fun z hz=>h z (CC _ hz)
  show(Cf W (F.set x.1 x.2)).getD i []=_\/_
  rcases ih with ih|ih
  . show(Cf W (F.set x.1 x.2)).getD i []=F.getD i []\/(Cf W (F.set x.1 x.2)).getD i []=y
    rw[ih];by_cases e:x.1=i
    . by_cases hi:i<F.length
      . right
        have:=h x (B7 ..) e;subst e;rw[<- this];simp[hi]
      . left
        rw[An,A5 (by rw[AJ];omega),An,A5 (by omega)]
    . left
      rw[An,Bw e,<- An]
  . exact Ba ih
theorem Jj:∀ (W:List (Nat × List Int)) (F:List (List Int)) (i:Nat) (y:List Int),i<F.length->(∀ x∈W,x.1=i->x.2=y)->(∃ x∈W,x.1=i)->(Cf W F).getD i []=y
 |[],F,i,y,_,_,h=>by obtain⟨x,hx,_⟩:=h;cases hx
 |x :: W,F,i,y,hi,hall,hex=>by
  show(Cf W (F.set x.1 x.2)).getD i []=y
  by_cases h:∃ z∈W,z.1=i
  . exact Jj W _ i y (by rw[AJ];exact hi) (fun z hz=>hall z (CC _ hz)) h
  . have e:x.1=i:=by
     obtain⟨z,hz,hzi⟩:=hex;rcases Cy.1 hz with rfl|hz
     . exact hzi
     . exact absurd ⟨z,hz,hzi⟩ h
    rw[Dp W _ i fun z hz hzi=>h ⟨z,hz,hzi⟩];have:=hall x (B7 ..) e;subst e;rw[<- this];simp[hi]
def EK(V:List (List Int)):List (List Int):=(V.drop 3).take 40
theorem EP{V:List (List Int)}(h:43<=V.length):(EK V).length=40:=by simp[EK];omega
theorem Iz(V:List (List Int))(j:Nat)(hj:j<40):(EK V).getD j []=V.getD (3+j) []:=by
 simp[EK,hj]
theorem ZX{V V':List (List Int)}(h:43<=V.length)(h':43<=V'.length)(he:∀ i,3<=i->i<43->V.getD i []=V'.getD i []):EK V=EK V':=by
 apply Bi
 . rw[EP h,EP h']
 . intro j a b
   have hj:j<40:=(by rw[EP h] at a;exact a);have g1:(EK V).getD j []=(EK V)[j]:=(by simp[a]);have g2:(EK V').getD j []=(EK V')[j]:=(by simp[b]);rw[<- g1,<- g2,Iz V j hj,Iz V' j hj];exact he _ (by omega) (by omega)
theorem kr(q:Int):(BU (Ec q)).getD 0 0=100:=by
 have e:BU (Ec q)=100 :: ([111,110,101] ++ BN q 4 ++ AD (252-(Ec q).length) 0 ++ BN (FB (DM (Ec q))) 4):=by
  unfold BU;generalize FB (DM (Ec q))=S;unfold DM;generalize AD (252-(Ec q).length) (0:Int)=R;unfold Ec Rt;simp
 rw[e];rfl
theorem jZ(n:Nat)(h:0<n):(AD n (0:Int)).getD 0 0=0:=by
 cases n with
 |zero=>omega
 |succ n=>rfl
def z256:List Int:=AD 256 0
theorem eM{V:List (List Int)}(h:43<=V.length)(hz:V.getD 42 []=z256)(q:Int)(N:List Int)(D:List (List Int)):¬ IS (EK V) q N D:=by
 rintro⟨_,_,hl,_⟩;rw[EP h,Iz V 39 (by omega)] at hl;have e:=kr q;rw[<- hl,hz,z256,jZ 256 (by omega)] at e;exact absurd e (by decide)
theorem Xx{V:List (List Int)}(h:43<=V.length){q:Int}{N:List Int}{D:List (List Int)}(hF:GA N D=AL)(hq:0<=q/\q<4294967296)(h3:V.getD 3 []=BU (Cw q N))(hb:∀ j,j<N.length->V.getD (4+j) []=D.getD j [])(hz:V.getD 42 []=BU (Ec q)):IS (EK V) q N D:=by
 obtain⟨Ki,hDl,hall⟩:=EX hF;have hFN:ES N=AL:=by rw[JM] at hF;rw[AY] at hF;exact hF.1
 have hW:whole D=AL:=by rw[JM,AY,AY] at hF;exact hF.2.2
 have MY:=EP h;refine⟨⟨by omega,hFN,hq,by rw[Iz V 0 (by omega)];exact h3⟩,by omega,by rw[MY,Iz V 39 (by omega)];exact hz,?_,hW⟩;apply Bi
 . simp[MY];omega
 . intro j a b
   have hj:j<N.length:=(by omega);have h1:=Iz V (1+j) (by omega);have h2:=hb j hj;have h3:(EK V)[1+j]? =I (V.getD (4+j) []):=by
    rw[An,AS (by omega)] at h1;rw[AS (by omega),<- show 3+(1+j)=4+j by omega,<- h1];rfl
   have h4:((EK V).drop 1).take N.length=((EK V).drop 1).take N.length:=rfl;have h5:(((EK V).drop 1).take N.length)[j]? =I (V.getD (4+j) []):=by
    rw[AZ,AC hj,Bp];exact h3
   rw[AS a] at h5;have h6:D.getD j []=D[j]:=(by simp[b]);rw[Bz h5,h2,h6]
def Ei(i:Nat):Prop:=i<3\/43<=i
def Cj(N:List Int)(D:List (List Int)):List (Nat × List Int):=(Co N.length).map fun j=>((N.getD j 0).toNat,D.getD j [])
theorem OL{N:List Int}{D:List (List Int)}{x:Nat × List Int}(h:x∈Cj N D):∃ j,j<N.length/\x=((N.getD j 0).toNat,D.getD j []):=by
 obtain⟨j,hj,rfl⟩:=Cq.1 h;exact⟨j,Bo.1 hj,rfl⟩
def gw(n:Nat)(N:List Int):Prop:=∀ j,j<N.length->Ei (N.getD j 0).toNat/\(N.getD j 0).toNat<n
theorem TC{N:List Int}{D:List (List Int)}(hF:GA N D=AL){x y:Nat × List Int}(hx:x∈Cj N D)(hy:y∈Cj N D)(h:x.1=y.1):x.2=y.2:=by
 obtain⟨_,_,hall⟩:=EX hF;obtain⟨i,hi,rfl⟩:=OL hx;obtain⟨j,hj,rfl⟩:=OL hy;have hi':=hall i hi;have hj':=hall j hj;have e:N.getD i 0=N.getD j 0:=by
  have:(N.getD i 0).toNat=(N.getD j 0).toNat:=h;omega
 have eij:i=j:=by
  rcases Nat.lt_trichotomy i j with hlt|hlt|hlt
  . exact absurd e ((Q9 N j hj).1 hj'.2.2 i hlt)
  . exact hlt
  . exact absurd e.symm ((Q9 N i hi).1 hi'.2.2 j hlt)
 rw[eij]
theorem eA{N:List Int}{D:List (List Int)}(hF:GA N D=AL){W:List (Nat × List Int)}(hW:∀ x∈W,x∈Cj N D)(F G:List (List Int))(i:Nat)(hi:i<G.length)(h0:F.getD i []=G.getD i []\/F.getD i []=(Cf (Cj N D) G).getD i []):
 (Cf W F).getD i []=G.getD i []\/(Cf W F).getD i []=(Cf (Cj N D) G).getD i []:=by
 by_cases hex:∃ x∈Cj N D,x.1=i
 . obtain⟨x,hx,hxi⟩:=hex
   have hall:∀ z∈Cj N D,z.1=i->z.2=x.2:=fun z hz hzi=>TC hF hz hx (hzi.trans hxi.symm)
   have h1:=Jj (Cj N D) G i x.2 hi hall ⟨x,hx,hxi⟩;rw[h1];rcases b9 W F i x.2 (fun z hz hzi=>hall z (hW z hz) hzi) with h|h
   . rw[h];rw[h1] at h0;exact h0
   . exact Ba h
 . have C6:∀ z∈Cj N D,z.1≠i:=fun z hz hzi=>hex ⟨z,hz,hzi⟩
   rw[Dp W F i fun z hz=>C6 z (hW z hz)];exact h0
theorem VD{N:List Int}{D:List (List Int)}(hF:GA N D=AL)(F G:List (List Int))(hl:F.length=G.length)(i:Nat)(hi:i<G.length)(h0:F.getD i []=G.getD i []\/F.getD i []=(Cf (Cj N D) G).getD i []):
 (Cf (Cj N D) F).getD i []=(Cf (Cj N D) G).getD i []:=by
 by_cases hex:∃ x∈Cj N D,x.1=i
 . obtain⟨x,hx,hxi⟩:=hex
   have hall:∀ z∈Cj N D,z.1=i->z.2=x.2:=fun z hz hzi=>TC hF hz hx (hzi.trans hxi.symm)
   rw[Jj (Cj N D) G i x.2 hi hall ⟨x,hx,hxi⟩,Jj (Cj N D) F i x.2 (by omega) hall ⟨x,hx,hxi⟩]
 . have C6:∀ z∈Cj N D,z.1≠i:=fun z hz hzi=>hex ⟨z,hz,hzi⟩
   have e:=Dp (Cj N D) G i C6;rw[Dp _ F i C6,e];rcases h0 with h0|h0
   . exact h0
   . rw[h0,e]
theorem Ta{N:List Int}{D:List (List Int)}{n:Nat}(hf:gw n N){W:List (Nat × List Int)}(hW:∀ x∈W,x∈Cj N D)(F:List (List Int))(h:43<=F.length):EK (Cf W F)=EK F:=by
 refine ZX (by rw[B6];exact h) h fun i h1 h2=>Dp W F i fun x hx e=>?_
 obtain⟨j,hj,rfl⟩:=OL (hW x hx);have:=(hf j hj).1;have e:(N.getD j 0).toNat=i:=e;rw[e] at this;rcases this with h|h <;> omega
def InvT(F:List (List Int))(q:Int)(N:List Int)(D G:List (List Int)):Prop:=
 F.length=G.length/\IS (EK F) q N D/\∀ i,Ei i->i<G.length->F.getD i []=G.getD i []\/F.getD i []=(Cf (Cj N D) G).getD i []
def InvN(F G:List (List Int)):Prop:=F.length=G.length/\F.getD 42 []=z256/\∀ i,Ei i->i<G.length->F.getD i []=G.getD i []
theorem InvT.home{F:List (List Int)}{q:Int}{N:List Int}{D G:List (List Int)}(h:InvT F q N D G)(hF:GA N D=AL)(hf:gw G.length N)(hG:43<=G.length){W:List (Nat × List Int)}(hW:∀ x∈W,x∈Cj N D):InvT (Cf W F) q N D G:=
 ⟨by rw[B6];exact h.1,by rw[Ta hf hW F (by rw[h.1];exact hG)];exact h.2.1,fun i hi hl=>eA hF hW F G i hl (h.2.2 i hi hl)⟩
theorem InvT.done{F:List (List Int)}{q:Int}{N:List Int}{D G:List (List Int)}(h:InvT F q N D G)(hF:GA N D=AL)(i:Nat)(hi:Ei i)(hl:i<G.length):(Cf (Cj N D) F).getD i []=(Cf (Cj N D) G).getD i []:=
 VD hF F G h.1 i hl (h.2.2 i hi hl)
def Du(q:Int)(W:List (Nat × List Int)):List PA:=[.f,.w 42 z256,.f] ++ (W.map fun y=>.w y.1 y.2) ++ [.f,.w 42 (BU (Ec q)),.f]
def qG(q:Int)(N:List Int)(D:List (List Int))(W:List (Nat × List Int)):Prop:=
 (∀ x∈W,3<=x.1/\x.1<42)/\∀ F:List (List Int),43<=F.length->(Cf W F).getD 3 []=BU (Cw q N)/\∀ j,j<N.length->(Cf W F).getD (4+j) []=D.getD j []
theorem Gi(F:List (List Int))(k i:Nat)(x:List Int)(h:k≠i):(F.set k x).getD i []=F.getD i []:=by
 rw[An,Bw h,<- An]
theorem Nc(F:List (List Int))(k:Nat)(x:List Int)(h:k<F.length):(F.set k x).getD k []=x:=by
 simp[h]
theorem LL(kp:Nat->Bool)(x:Nat × List Int):Ea kp [x]=[]\/Ea kp [x]=[x]:=by
 unfold Ea;cases h:kp 0
 . left;simp[h]
 . right;simp[h]
theorem ff{q1 q2:Int}{N1 N2:List Int}{D1 D2 Z:List (List Int)}(hZ:43<=Z.length){W:List (Nat × List Int)}(hW:qG q2 N2 D2 W)(rl:GA N1 D1=AL)(hf1:gw Z.length N1)(oK:GA N2 D2=AL)(TW:0<=q2/\q2<4294967296)
 (s:DS) (hs:InvT s.F q1 N1 D1 Z) (hU:∀ x∈s.U,x∈Cj N1 D1) (hv:∀ i,Ei i->i<Z.length->s.vis.getD i []=(Cf (Cj N1 D1) Z).getD i []) (kp:Nat->Bool):
 let r:=BP (Du q2 W) s
 let G:=Cf (Cj N1 D1) Z
 (InvT (Cf (Ea kp r.2.U) r.2.F) q1 N1 D1 Z/\r.1=2\/InvN (Cf (Ea kp r.2.U) r.2.F) G/\r.1=2\/InvT (Cf (Ea kp r.2.U) r.2.F) q2 N2 D2 G)/\
   (r.1=0->r.2.U=[]/\InvT r.2.F q2 N2 D2 G/\∀ i,Ei i->i<Z.length->r.2.F.getD i []=G.getD i []):=by
 intro r G;have oL:G.length=Z.length:=B6 _ _;obtain⟨k,hk,Mc,hr⟩:=IB (Du q2 W) s;have Mv:r.2.F=(Gg ((Du q2 W).take k) s.fuP).1:=BH Prod.fst Mc;have Mj:r.2.U=(Gg ((Du q2 W).take k) s.fuP).2:=BH Prod.snd Mc;have hlen:(Du q2 W).length=6+W.length:=by simp[Du];omega
 obtain⟨V0,l9⟩:=nm s.vis;have oM:V0.length=Z.length:=by rw[l9,DS.vis_length,hs.1]
 have hV0j:EK V0=EK s.F:=by rw[l9];exact Ta hf1 hU s.F (by rw[hs.1];exact hZ)
 have tL:∀ i,Ei i->i<Z.length->V0.getD i []=G.getD i []:=by rw[l9];exact hv
 have pP:InvT V0 q1 N1 D1 Z:=⟨oM,by rw[hV0j];exact hs.2.1,fun i hi hl=>Ba (tL i hi hl)⟩;obtain⟨V1,il⟩:=nm (V0.set 42 z256);have aq:V1.length=Z.length:=by rw[il,AJ,oM]
 have out42:∀ i,Ei i->42≠i:=fun i hi e=>by rcases hi with h|h <;> omega
 have tM:∀ i,Ei i->i<Z.length->V1.getD i []=G.getD i []:=fun i hi hl=>by rw[il,Gi _ _ _ _ (out42 i hi)];exact tL i hi hl
 have tN:V1.getD 42 []=z256:=by rw[il];exact Nc _ _ _ (by omega)
 have hN1:InvN V1 G:=⟨by rw[aq,oL],tN,fun i hi hl=>tM i hi (by rw[oL] at hl;exact hl)⟩;have tO:∀ X,(∀ x∈X,x∈W)->InvN (Cf X V1) G:=fun X hX=>by
  refine⟨by rw[B6,aq,oL],?_,fun i hi hl=>?_⟩
  . rw[Dp X V1 42 fun x hx e=>by have:=(hW.1 x (hX x hx)).2;omega];exact tN
  . rw[Dp X V1 i fun x hx e=>by have:=hW.1 x (hX x hx);rcases hi with h|h <;> omega]
    exact tM i hi (by rw[oL] at hl;exact hl)
 obtain⟨V2,ar⟩:=nm (Cf W V1);have rq:V2.length=Z.length:=by rw[ar,B6,aq]
 have hN2:InvN V2 G:=by rw[ar];exact tO W fun x hx=>hx
 obtain⟨V3,av⟩:=nm (V2.set 42 (BU (Ec q2)));have rt:V3.length=Z.length:=by rw[av,AJ,rq]
 obtain⟨hd,hbl⟩:=hW.2 V1 (by omega);have Ki:=(EX oK).1;have hT3:IS (EK V3) q2 N2 D2:=by
  refine Xx (by omega) oK TW ?_ (fun j hj=>?_) ?_
  . rw[av,Gi _ _ _ _ (by omega),ar];exact hd
  . rw[av,Gi _ _ _ _ (by omega),ar];exact hbl j hj
  . rw[av];exact Nc _ _ _ (by omega)
 have lL:∀ i,Ei i->i<Z.length->V3.getD i []=G.getD i []:=fun i hi hl=>by rw[av,Gi _ _ _ _ (out42 i hi)];exact hN2.2.2 i hi (by rw[oL];exact hl)
 have ru:InvT V3 q2 N2 D2 G:=⟨by rw[rt,oL],hT3,fun i hi hl=>AN (lL i hi (by rw[oL] at hl;exact hl))⟩;have full:k=(Du q2 W).length->r.2.F=V3/\r.2.U=[]:=fun e=>by
  rw[Mv,Mj,e,B8];unfold Du;rw[Cs,Cs,Gz];have a1:Gg [.f,.w 42 z256,.f] s.fuP=(V1,[]):=by
   show(Cf ([] ++ [(42,z256)]) (Cf s.U s.F),([]:List (Nat × List Int)))=(V1,[])
   rw[il,l9];rfl
  rw[a1];show(Cf ([] ++ [(42,BU (Ec q2))]) (Cf ([] ++ W) V1))=V3/\_
  rw[av,ar];exact⟨rfl,rfl⟩
 refine⟨?_,fun h0=>?_⟩
 . have Of:k=0\/k=1\/k=2\/(3<=k/\k<=3+W.length)\/k=4+W.length\/k=5+W.length\/k=6+W.length:=by omega
   have h2:k≠(Du q2 W).length->r.1=2:=fun hne=>by
    rcases hr with⟨_,h⟩|h
    . exact absurd h hne
    . exact h
   have step:∀ j,(Du q2 W).take (3+j)=([PA.f,PA.w 42 z256,PA.f]:List PA) ++ ((W.map fun y:Nat × List Int=>PA.w y.1 y.2) ++ [PA.f,PA.w 42 (BU (Ec q2)),PA.f]).take j:=fun j=>by
    unfold Du;rw[AQ];exact DT (l₁:=([PA.f,PA.w 42 z256,PA.f]:List PA)) j
   have a1:Gg [.f,.w 42 z256,.f] s.fuP=(V1,[]):=by
    show(Cf ([] ++ [(42,z256)]) (Cf s.U s.F),([]:List (Nat × List Int)))=(V1,[])
    rw[il,l9];rfl
   rcases Of with rfl|rfl|rfl| ⟨ha,hb⟩|rfl|rfl|rfl
   . refine AN ⟨?_,h2 (by omega)⟩
     have e1:r.2.F=s.F:=Mv;have e2:r.2.U=s.U:=Mj;rw[e1,e2];exact hs.home rl hf1 hZ fun x hx=>hU x (Ic hx)
   . refine AN ⟨?_,h2 (by omega)⟩
     have e1:r.2.F=V0:=(by rw[l9];exact Mv);have e2:r.2.U=[]:=Mj;rw[e1,e2];exact pP
   . have e1:r.2.F=V0:=by rw[l9];exact Mv
     have e2:r.2.U=[(42,z256)]:=Mj;rw[e1,e2];rcases LL kp (42,z256) with e|e
     . rw[e];exact AN ⟨pP,h2 (by omega)⟩
     . rw[e]
       refine Ba (AN ⟨?_,h2 (by omega)⟩);show InvN (V0.set 42 z256) G
       rw[<- il];exact hN1
   . obtain⟨j,rfl⟩:∃ j,k=3+j:=⟨k-3,by omega⟩
     have hj:j<=W.length:=(by omega);rw[step,CT (by simpa using hj),<- List.map_take,Cs,a1,Gz] at Mv Mj;rw[Mv,Mj];refine Ba (AN ⟨tO _ fun x hx=>?_,h2 (by omega)⟩);have:=Ic hx;rw[B0] at this;exact Dg this
   . have e0:(Du q2 W).take (4+W.length)=[.f,.w 42 z256,.f] ++ ((W.map fun y=>PA.w y.1 y.2) ++ [.f]):=by
      rw[show 4+W.length=3+(W.length+1) by omega,step];congr 1;rw[show W.length+1=(W.map fun y=>PA.w y.1 y.2).length+1 by simp,DT];rfl
     rw[e0,Cs,Cs,a1,Gz] at Mv Mj;have e1:r.2.F=V2:=(by rw[ar];exact Mv);have e2:r.2.U=[]:=Mj;rw[e1,e2];exact Ba (AN ⟨hN2,h2 (by omega)⟩)
   . have e0:(Du q2 W).take (5+W.length)=[.f,.w 42 z256,.f] ++ ((W.map fun y=>PA.w y.1 y.2) ++ [.f,.w 42 (BU (Ec q2))]):=by
      rw[show 5+W.length=3+(W.length+2) by omega,step];congr 1;rw[show W.length+2=(W.map fun y=>PA.w y.1 y.2).length+2 by simp,DT];rfl
     rw[e0,Cs,Cs,a1,Gz] at Mv Mj;have e1:r.2.F=V2:=(by rw[ar];exact Mv);have e2:r.2.U=[(42,BU (Ec q2))]:=Mj;rw[e1,e2];rcases LL kp (42,BU (Ec q2)) with e|e
     . rw[e];exact Ba (AN ⟨hN2,h2 (by omega)⟩)
     . rw[e]
       refine Ba (Ba ?_);show InvT (V2.set 42 (BU (Ec q2))) q2 N2 D2 G
       rw[<- av];exact ru
   . obtain⟨e1,e2⟩:=full (by omega)
     rw[e1,e2];exact Ba (Ba ru)
 . have I3:k=(Du q2 W).length:=by
    rcases hr with⟨_,h⟩|h
    . exact h
    . have h0':(BP (Du q2 W) s).1=0:=h0
      rw[h0'] at h;cases h
   obtain⟨e1,e2⟩:=full I3;rw[e1,e2];exact⟨rfl,ru,lL⟩
def B9(N:List Int)(D:List (List Int)):List PA:=(Cj N D).map fun y=>.w y.1 y.2
theorem JO(N:List Int)(D:List (List Int))(k:Nat)(x:List (List Int) × List (Nat × List Int)):Gg ((B9 N D).take k) x=(x.1,x.2 ++ (Cj N D).take k):=by
 unfold B9;rw[<- List.map_take,Gz]
theorem FA(N:List Int)(D:List (List Int)):(B9 N D).length=N.length:=by simp[B9,Cj]
theorem Rj{q:Int}{N:List Int}{D G:List (List Int)}(hF:GA N D=AL)(hf:gw G.length N)(hG:43<=G.length)(s:DS)(hs:InvT s.F q N D G)(hU:∀ x∈s.U,x∈Cj N D)(fl:Bool)(kp:Nat->Bool):
 let r:=BP (B9 N D ++ (if fl then [.f] else [])) s
 InvT (Cf (Ea kp r.2.U) r.2.F) q N D G/\InvT r.2.F q N D G/\(∀ x∈r.2.U,x∈Cj N D):=by
 intro r;obtain⟨k,hk,Mc,_⟩:=IB (B9 N D ++ (if fl then [PA.f] else [])) s;have Mv:r.2.F=(Gg ((B9 N D ++ (if fl then [PA.f] else [])).take k) s.fuP).1:=BH Prod.fst Mc;have Mj:r.2.U=(Gg ((B9 N D ++ (if fl then [PA.f] else [])).take k) s.fuP).2:=BH Prod.snd Mc;have key:InvT r.2.F q N D G/\∀ x∈r.2.U,x∈Cj N D:=by
  by_cases hkl:k<=(B9 N D).length
  . rw[CT hkl,JO] at Mv Mj
    rw[Mv,Mj];refine⟨hs,fun x hx=>?_⟩;rcases C0.1 hx with h|h
    . exact hU x h
    . exact Dg h
  . cases fl
    . rw[Ax] at hk
      simp at hk;omega
    . have e:(B9 N D ++ (if AL then [PA.f] else [])).take k=B9 N D ++ [PA.f]:=by
       apply AV;simp;omega
      rw[e,Cs] at Mv Mj;have e2:=JO N D (B9 N D).length s.fuP;rw[B8] at e2;rw[e2] at Mv Mj;have e3:(Cj N D).take (B9 N D).length=Cj N D:=by
       apply AV;simp[B9]
      rw[e3] at Mv Mj;have e4:r.2.F=Cf (s.U ++ Cj N D) s.F:=Mv;have e5:r.2.U=[]:=Mj;rw[e4,e5];refine⟨hs.home hF hf hG fun x hx=>?_,fun x hx=>by cases hx⟩;rcases C0.1 hx with h|h
      . exact hU x h
      . exact h
 exact⟨key.1.home hF hf hG fun x hx=>key.2 x (Ic hx),key.1,key.2⟩
theorem Ew(w:C)(b off n cap l h:Nat)(hi:Option Aq)(tw:(hi=J/\h=n)\/hi=I (O Ad (h:Int)))(h1:l<=h)(h2:h<=cap)(h3:l<cap):
 (Instr.sliceAt 49 (E (I ⟨b,off,J⟩) n cap) (I (O Ad (l:Int))) hi J).run Ae w=.ok (E (I ⟨b,off+l,J⟩) (h-l) (cap-l)) w:=by
 obtain⟨i,g2,g3,g4,g5⟩:=By F7;have hne:cap≠l:=by omega
 have ee:Ae.elem 49=5:=by kernel_rfl
 have hs:(sizeOf 5).run Ae w=.ok 1 w:=by simp[sizeOf,typeInfo,g2,g4]
 rcases tw with⟨rfl,rfl⟩|rfl
 . rw[run_sliceAt_slice w 49 _ _ _ _ (by rw[ee];exact Tryz.underlying49),run_slice_l w 49 _ h cap (by rw[ee];exact Tryz.underlying49) Ad (l:Int) (by omega) (by omega),ee,hs]
   simp[sliced,hne,Cb]
 . rw[run_sliceAt_slice w 49 _ _ _ _ (by rw[ee];exact Tryz.underlying49),run_slice_lh w 49 _ n cap (by rw[ee];exact Tryz.underlying49) Ad Ad (l:Int) (h:Int) (by omega) (by omega) (by omega),ee,hs]
   simp[sliced,hne,Cb]
theorem Ee{w:C}{ops:Array BS}{rest:List BS}{o:BS}{a:Act}{Q:Exit->Act->C->Prop}(Dn:o.guard=J)(x lo hi:Operand)(ho:o.op=.slice 49 x (I lo) (I hi) J)
 (b off n cap:Nat) (hx:a.eval x=E (I ⟨b,off,J⟩) n cap) (L H:Int) (hl:a.eval lo=O Ad L) (hh:a.eval hi=O Ad H) (l h m:Nat) (hm:h-l=m) (hL:L=l) (hH:H=h) (h1:l<=h) (h2:h<=cap) (h3:l<cap)
 (hK:Cn Ae ops Q rest (a.put o.dst (E (I ⟨b,off+l,J⟩) m (cap-l))) w):Cn Ae ops Q (o :: rest) a w:=by
 subst hL hH hm;refine CM Dn fun K hK'=>?_
 unfold BS.wp execOp;simp only[ho,hx,hl,hh,Option.map_some,Option.map_none,Ew w b off n cap l h _ (Ba rfl) h1 h2 h3,DE,Sem.run_pure,Result.andThen_ok];exact hK' _ _ hK
theorem BSl.mid{w:C}{b off cap:Nat}{l:List Int}(h:BSl w (E (I ⟨b,off,J⟩) l.length cap) l)(lo m:Nat)(hm:lo+m<=l.length):BSl w (E (I ⟨b,off+lo,J⟩) m (cap-lo)) ((l.drop lo).take m):=by
 have hlen:((l.drop lo).take m).length=m:=by simp;omega
 rcases h.2 with⟨hv,_⟩| ⟨a',c',hv,qY,hc⟩
 . simp at hv
 . obtain⟨rfl,rfl⟩:a'=⟨b,off,J⟩/\cap=c':=by
    have:=A0 hv;exact⟨(Bz this.1).symm,this.2.2⟩
   refine⟨Ez (NE h.1 lo) m,Ba ⟨⟨b,off+lo,J⟩,cap-lo,by rw[hlen],by rw[hlen];omega,fun j hj=>?_⟩⟩;rw[hlen] at hj;obtain⟨h1,_,h3⟩:=hc (lo+j) (by omega);refine⟨h1,rfl,?_⟩;show w.cell? ⟨b,off+lo+j,J⟩=_
   rw[D6];have h3:w.cell? ⟨b,off+(lo+j),J⟩=I (O .u8 (l.getD (lo+j) 0)):=h3;rw[h3];simp[hj]
theorem BSl.open'{w:C}{v:Aq}{l:List Int}(h:BSl w v l)(h0:0<l.length):∃ b off cap,v=E (I ⟨b,off,J⟩) l.length cap/\l.length<=cap/\b<w.heap.size:=by
 rcases h.2 with⟨_,hl⟩| ⟨⟨b,off,spot⟩,cap,hv,qY,hc⟩
 . rw[hl] at h0;simp at h0
 . obtain⟨h1,h2,_⟩:=hc 0 h0
   obtain rfl:spot=J:=h2;exact⟨b,off,cap,hv,qY,h1⟩
structure Rw (w:C) (B:Nat) (v:Aq) (l:List Int) (g cap:Nat) (T:TypeId) (rest:List Aq):Prop where
 byt:FJ l
 len:l.length=256
 val:v=E (I ⟨g,0,J⟩) 256 cap
 ge:B<=g
 row:w.heap[g]? =I (Ar (l.map (O .u8) ++ rest).toArray T (0,0))
 cap:256<=cap
section
variable {w w':C}{B g cap:Nat}{v:Aq}{l:List Int}{T:TypeId}{rest:List Aq}
theorem Rw.lt(h:Rw w B v l g cap T rest):g<w.heap.size:=(Al.1 h.row).1
theorem Rw.bsl(h:Rw w B v l g cap T rest):BSl w v l:=by
 refine⟨h.byt,Ba ⟨⟨g,0,J⟩,cap,by rw[h.val,h.len],by rw[h.len];exact h.cap,fun j hj=>⟨h.lt,rfl,?_⟩⟩⟩;show w.cell? ⟨g,0+j,J⟩=_
 rw[Bm,Az _ _ _ _ _ _ h.row];simp only[List.getElem?_toArray];rw[BT (by simpa using hj),List.getElem?_map,AS hj,An,AS hj];rfl
theorem OB.rw'(h:OB w B v l)(hl:l.length=256):∃ g cap T rest,Rw w B v l g cap T rest:=by
 rcases h.2.2 with⟨_,h0⟩| ⟨g,cap,cur,hv,hg,hh,Hn,LD,Hb,ht⟩
 . omega
 . refine⟨g,cap,5,cur.toList.drop 256,h.1,hl,by rw[hv,hl],hg,?_,by omega⟩
   rw[hh];have:l.map (O .u8) ++ cur.toList.drop 256=cur.toList:=by
    rw[<- ht,hl,Nat.mul_one,Be]
   rw[this]
theorem YP{α β:Type}(f:α->β)(L:List α)(R:List β)(o:Nat)(cs:List α)(h:o+cs.length<=L.length):splice (L.map f ++ R) o (cs.map f)=(splice L o cs).map f ++ R:=by
 unfold splice;rw[CT (by rw[Bk];omega),Bk,List.drop_append_of_le_length (by rw[Bk];omega),Cv,Cv,List.map_take,List.map_drop,AQ,AQ]
theorem ac{L cs:List Int}(hL:FJ L)(hc:FJ cs)(o:Nat):FJ (splice L o cs):=CS (Ez hL o) (CS hc (NE hL _))
theorem Rw.wrote(h:Rw w B v l g cap T rest){o:Nat}{cs:List Int}(hc:FJ cs)(ho:o+cs.length<=256)(hr:w'.heap[g]? =I (Ar (splice (l.map (O .u8) ++ rest) o (cs.map (O .u8))).toArray T (0,0))):
 Rw w' B v (splice l o cs) g cap T rest:=by
 have hl:=h.len;refine⟨ac h.byt hc o,by rw[length_splice _ _ _ (by omega)];exact hl,h.val,h.ge,?_,h.cap⟩;rw[hr,YP _ _ _ _ _ (by omega)]
end
section
variable {w:C}{P:Nat->Prop}{p:Aq}{s:DS}
theorem Uw(h:Dk w P p s):AA Ae 173 #[p] w fun e w'=>e=Ag (O Ad (s.F.length:Nat))/\w=w':=by
 obtain⟨bp,bf,bv,u,rfl,h,_⟩:=h;have c1:=h.c1;rw[DS.vis_length] at c1;clear h;go_enter Tryz.func173,Tryz.ntmps173;go_wp2;go_ret;exact⟨rfl,rfl⟩
theorem je(hk:Dk w P p s)(n:Nat)(hn:n<s.F.length)(hd:s.dn=AI):
 AA Ae 139 #[p,O Ad n] w fun e w'=>∃ v,e=Ag (AO #[v,O Ad 0])/\Rw w' w.heap.size v (s.vis.getD n []) w.heap.size 256 126 []/\At w.heap.size w w':=by
 obtain⟨bp,bf,bv,u,rfl,h,_⟩:=hk;rw[hd] at h;have hnV:n<s.vis.length:=by rw[DS.vis_length];exact hn
 have hge:s.vis.getD n []=s.vis[n]:=by rw[An,AS hnV];rfl
 rw[hge];generalize s.vis=V at h hnV |-
 clear hge hn;have hlen:Ae.arrayLen 126=256:=by kernel_rfl
 have hblk:XR V[n]:=h.okV _ (Bf _);have hmem:=EE h.hv (o:=n*256) (vs:=cB V[n]) (by rw[CI,hblk.1];exact Gw (EH h.okV) n hnV);have KH:=vJ (Ub h n);have hdc:decide (0<=(n:Int)/\(n:Int)<V.length)=AL:=AF (by omega);rw[hdc] at KH;obtain⟨b,hb⟩:=nm (V[n]);rw[<- hb] at hblk hmem |-
 have HL:Hid ((cB b).length=256):=by show _=_;rw[CI,hblk.1]
 have HR:=vJ hmem;have HB:=vJ hblk;have HZ:=vJ Fw;have hone:∀ v∈zB,v.oneCell'=AL:=fun v hv=>by rw[BR hv];rfl
 have c1:=h.c1;have c5:=h.c5;have hn':(n:Int)<V.length:=by omega
 clear hb hblk hmem h hdc hd;go_enter Tryz.func139,Tryz.ntmps139
 go_wp2_with (first
  |(go_at_call 99;refine KH.out.mono ?_;rintro e w' ⟨rfl,rfl⟩)
  |with_reducible refine GR _ rfl rfl ?_
  |(refine N8 _ rfl _ (by rfl) bv (n*256) (cB b) (by rfl) HR.out HL.out ?_)
  |(refine FQ _ rfl _ _ (by rfl) _ 126 zB (cB b) (by rfl) (by rfl) (Cu _ _) HZ.out HL.out (Hd b) ?_
    rw[Fk]))
 go_ret2;refine⟨_,rfl,⟨HB.out.2,HB.out.1,rfl,AB _,?_,AB _⟩,(AM _ _).alloc (AB _) _⟩;rw[Cu,BB];rfl
theorem td(hk:Dk w P p s)(n:Nat)(hn:n<s.F.length)(hd:s.dn=AI):
 AA Ae 139 #[p,O Ad n] w fun e w'=>∃ v,e=Ag (AO #[v,O Ad 0])/\BSl w' v (s.vis.getD n [])/\At w.heap.size w w'/\v=E (I ⟨w.heap.size,0,J⟩) 256 256:=
 (je hk n hn hd).mono fun e w' ⟨v,he,hr,hb⟩=>⟨v,he,hr.bsl,hb,hr.val⟩
theorem kG(h:Dk w P p s)(n:Nat)(hn:n<s.F.length){v:Aq}{l:List Int}(hv:BSl w v l)(hl:l.length=256)(hU:s.U.length<=1000000):
 AA Ae 149 #[p,O Ad n,v] w fun e w'=>e=Ag (O Ad (if s.ok then 0 else 2))/\∃ P',Dk w' P' p (if s.ok then s.write n l else s.pay)/\Chg P P' w w':=by
 obtain⟨bp,bf,bv,u,rfl,h,⟨h0,h1⟩,hP⟩:=h;cases hok:s.ok
 . refine(ZZ h h0 h1 n hv ⟨by rw[DS.vis_length];omega,hl⟩ hok).mono ?_
   rintro e w' ⟨rfl,hd,hw⟩;exact⟨rfl,P,⟨bp,bf,bv,u,rfl,hd,OA ⟨h0,h1⟩,hP⟩,Chg.of_wrote hP hw⟩
 . refine(dX h h0 h1 hok n (by rw[DS.vis_length];exact hn) hv hl hU).mono ?_
   rintro e w' ⟨rfl,u',hd,_,Qt⟩;refine⟨rfl,_,⟨bp,bf,bv,u',rfl,?_,OA ⟨h0,h1⟩,fun k=>Iff.rfl⟩,Chg.of_frU hP Qt⟩;show DskAt w' 0 bp bf bv u' s.F (s.write n l).vis (s.U ++ [(n,l)]) s.fu _ _
   rw[DS.write_vis];exact hd
theorem Ug(h:Dk w P p s)(hU:s.U.length<=1000000):
 AA Ae 104 #[p] w fun e w'=>e=Ag (O Ad (if s.ok then 0 else 2))/\∃ P',Dk w' P' p (if s.ok then s.flush else s.pay)/\Chg P P' w w':=by
 obtain⟨bp,bf,bv,u,rfl,h,⟨h0,h1⟩,hP⟩:=h;have KP:=vJ (JP h h0 h1);have HP:=vJ hP;have HB:=vJ (OA (fu:=s.fu) (dn:=s.dn) ⟨h0,h1⟩);cases hok:s.ok
 . have lM:l4 s.fu s.le s.dn=AI:=hok
   rw[lM] at KP;clear h h0 h1 hP hok lM;go_enter Tryz.func104,Tryz.ntmps104;go_wp2_with (go_at_call 150;refine KP.out.mono ?_;rintro e w2 ⟨rfl,Vt,GN⟩)
   go_ret;exact⟨rfl,P,⟨bp,bf,bv,u,rfl,Vt,HB.out,HP.out⟩,Chg.of_wrote HP.out GN⟩
 . have lM:l4 s.fu s.le s.dn=AL:=hok
   rw[lM] at KP;have HSF:=vJ (nH s.U s.F);have HSV:=vJ (qW (fun _=>AL) s.U s.F);clear h h0 h1 hP hok lM;go_enter Tryz.func104,Tryz.ntmps104
   go_wp2_with (first
    |(go_at_call 150;refine KP.out.mono ?_;rintro e w2 ⟨rfl,Vt,GN⟩)
    |(go_at_call 151;refine(fy Vt (AX _) hU (fun _=>AL) (fun W _ i _=>Vy W i)).mono ?_
      rintro e w4 ⟨rfl,h4,_,f4⟩))
   go_ret;refine⟨rfl,_,⟨bp,bf,bv,E J 0 0,rfl,?_,HB.out,fun k=>Iff.rfl⟩,(Chg.of_wrote HP.out GN).trans (Chg.of_fr3 HP.out f4)⟩;show DskAt w4 0 bp bf bv (E J 0 0) s.vis s.flush.vis [] s.fu _ _
   rw[DS.flush_vis];have hd4:DskAt w4 0 bp bf bv (E J 0 0) (Sk (fun _=>AL) s.U s.F s.U.length) (Zx s.U (Sk (fun _=>AL) s.U s.F s.U.length) (Cf s.U s.F) s.U.length) [] s.fu (Zi s.fu s.le s.dn) (XS s.fu s.le s.dn):=h4;rw[HSV.out,HSF.out,TM] at hd4;exact hd4
end
theorem vr(w:C)(n:Nat)(hn:n<=2000):
 AA Ae 25 #[O Ad n] w fun e w'=>∃ p P,e=Ag p/\Dk w' P p (DS.new n)/\(∀ k,P k->w.heap.size<=k)/\At w.heap.size w w':=by
 refine(nl w n hn).mono ?_;rintro e w' ⟨p,rfl,_,⟨bp,bf,bv,u,rfl,hd⟩,hb⟩;refine⟨_,VQ bp bf bv u,rfl,⟨bp,bf,bv,u,rfl,hd.lower,⟨Int.le_refl _,(by decide:(0:Int)<=9223372036854775807)⟩,fun k=>Iff.rfl⟩,fun k hk=>?_,hb⟩;rcases hk with rfl|rfl|rfl|hk
 . exact hd.bB.1
 . exact hd.bB.2.1
 . exact hd.bB.2.2
 . exact(hd.hu.lt k hk).1
theorem ISc.chg{P P':Nat->Prop}{w w':C}{v:Aq}{l:List Int}(h:ISc w v l)(ha:Apt P v)(hc:Chg P P' w w'):ISc w' v l/\Apt P' v:=
 ⟨⟨(h.1.chg ha hc).1,h.2⟩,(h.1.chg ha hc).2⟩
theorem Dk.types{w:C}{P:Nat->Prop}{p:Aq}{s:DS}(h:Dk w P p s)(k:Nat)(hk:P k):∃ cur T,w.heap[k]? =I (Ar cur T (0,0))/\(T=102\/T=126\/T=130):=by
 obtain⟨bp,bf,bv,u,_,hd,_,hP⟩:=h;rcases(hP k).1 hk with rfl|rfl|rfl|hu
 . exact⟨_,_,hd.hp,AN rfl⟩
 . exact⟨_,_,hd.hf,Ba (AN rfl)⟩
 . exact⟨_,_,hd.hv,Ba (AN rfl)⟩
 . rcases hd.hu.2 with⟨h0,_⟩| ⟨g,cap,cur,hv,_,hh,_⟩
   . rw[h0] at hu;simp[Aq.ownBlock] at hu
   . rw[hv] at hu
     obtain rfl:g=k:=by simpa [Aq.ownBlock] using hu
     exact⟨_,_,hh,Ba (Ba rfl)⟩
theorem Dk.not{w:C}{P:Nat->Prop}{p:Aq}{s:DS}(h:Dk w P p s){k:Nat}{cur:Array Aq}{T:TypeId}(hk:w.heap[k]? =I (Ar cur T (0,0)))(h1:T≠102)(h2:T≠126)(h3:T≠130):¬ P k:=fun hp=>by
 obtain⟨cur',T',he,ht⟩:=h.types k hp;rw[hk] at he
 injection he with he
 injection he with _ e
 subst e;rcases ht with ht|ht|ht
 . exact h1 ht
 . exact h2 ht
 . exact h3 ht
theorem BElt.apt{w:C}{P:Nat->Prop}{p:Aq}{s:DS}(h:Dk w P p s){v:Aq}{l:List Int}(ho:BElt w 0 v l):Apt P v:=by
 intro ad n cap e hn;rcases ho.1.2 with⟨hv,_⟩| ⟨a,c,hv,_,hc⟩
 . rw[hv] at e;cases e
 . have e':=e
   rw[hv] at e';have hl:0<l.length:=(by rw[(A0 e').2.1];exact hn);obtain⟨b,off,c',hv',_,hor⟩:=ho.2 hl;rw[hv'] at e;obtain rfl:=Bz (A0 e).1;rcases hor with h0| ⟨cur,hh⟩
   . omega
   . exact h.not hh (by decide) (by decide) (by decide)
theorem IR.apt{w:C}{P:Nat->Prop}{p:Aq}{s:DS}(h:Dk w P p s){B:Nat}{v:Aq}{l:List Int}(ho:IR w B v l):Apt P v:=by
 intro ad n cap e hn;rcases ho.2 with⟨hv,_⟩| ⟨g,c,cur,hv,_,hh,_⟩
 . rw[hv] at e;cases e
 . rw[hv] at e
   obtain rfl:=Bz (A0 e).1;exact h.not hh (by decide) (by decide) (by decide)
theorem BBR.apart{w:C}{P:Nat->Prop}{p:Aq}{s:DS}(h:Dk w P p s){v:Aq}{L:List (List Int)}(ho:BBR w 0 v L):BBa w P v L:=by
 obtain⟨vs,hl,hr,ow⟩:=ho;rcases ow.2 with⟨hv,tH⟩| ⟨g,cap,cur,hv,hg,hh,Hn,LD,Hb,ht⟩
 . exact AN ⟨hv,Bb tH⟩
 . refine Ba ⟨_,cap,hv,Hn,fun j hj=>⟨⟨(Al.1 hh).1,h.not hh (by decide) (by decide) (by decide)⟩,rfl,vs.getD j undef,?_,(hr j hj).1,(hr j hj).apt h⟩⟩
   show w.cell? ⟨g,0+j,J⟩=_
   rw[Bm,Az _ _ _ _ _ _ hh];have:(cur.toList.take (L.length*1))[j]? =vs[j]? :=(by rw[ht]);rw[AZ,AC (by omega)] at this
   simpa [show j<vs.length by omega] using this
def TxVa(w:C)(P:Nat->Prop)(v:Aq)(q:Int)(N:List Int)(D:List (List Int)):Prop:=
 ∃ no nc ao dc,v=BD #[O .u32 q,E no N.length nc,E ao D.length dc]/\(ISc w (E no N.length nc) N/\Apt P (E no N.length nc))/\BBa w P (E ao D.length dc) D
theorem TxVa.v{w:C}{P:Nat->Prop}{v:Aq}{q:Int}{N:List Int}{D:List (List Int)}(h:TxVa w P v q N D):TxV w v q N D:=by
 obtain⟨no,nc,ao,dc,h1,h2,h3⟩:=h;exact⟨no,nc,ao,dc,h1,h2.1,h3.sl⟩
theorem TxVa.chg{P P':Nat->Prop}{w w':C}{v:Aq}{q:Int}{N:List Int}{D:List (List Int)}(h:TxVa w P v q N D)(hc:Chg P P' w w'):TxVa w' P' v q N D:=by
 obtain⟨no,nc,ao,dc,h1,h2,h3⟩:=h;exact⟨no,nc,ao,dc,h1,h2.1.chg h2.2 hc,h3.chg hc⟩
theorem TxVa.own{w:C}{P:Nat->Prop}{p:Aq}{s:DS}(h:Dk w P p s){q:Int}{vN vD:Aq}{N:List Int}{D:List (List Int)}(hN:IR w 0 vN N)(hD:BBR w 0 vD D):TxVa w P (BD #[O .u32 q,vN,vD]) q N D:=by
 have hN':=hN.isc;have hD':=hD.apart h;have ha:=hN.apt h;obtain⟨_,no,nc,rfl,_⟩:=hN';obtain⟨ao,dc,rfl,_⟩:=hD'.sl.shape;exact⟨no,nc,ao,dc,rfl,⟨hN.isc,ha⟩,hD'⟩
def PT(n:Nat)(N:List Int):Bool:=(Co N.length).all fun k=>decide (N.getD k 0<(n:Int))
theorem Lv(n:Nat)(N:List Int):PT n N=AL ↔ ∀ k,k<N.length->N.getD k 0<(n:Int):=by
 unfold PT;rw[DJ];exact⟨fun h k hk=>A7 (h k (Bo.2 hk)),fun h k hk=>AF (h k (Bo.1 hk))⟩
theorem m6{n:Nat}{N:List Int}(k:Nat)(hk:k<N.length)(h:¬ N.getD k 0<(n:Int)):PT n N=AI:=by
 cases e:PT n N
 . rfl
 . exact absurd ((Lv n N).1 e k hk) h
section
variable {w:C}{P:Nat->Prop}{p:Aq}{s:DS}
theorem Q0(h:Dk w P p s)(B:Bool)(hB:decide (64<=s.F.length)=B):AA Ae 145 #[p] w fun e w'=>e=Ag (A1 B)/\w=w':=by
 have KB:=vJ (Uw h);obtain⟨bp,rfl⟩:=h.ptr;generalize s.F.length=n at KB hB;have sI:decide ((64:Int)<=(n:Int))=B:=by rw[<- hB];exact decide_eq_decide.2 (by omega)
 have HB:=vJ (BH (fun b=>Ending.returned (Aq.bool b)) sI);clear h hB sI;go_enter Tryz.func145,Tryz.ntmps145;go_wp2_with (go_at_call 173;(with_reducible refine KB.out.mono ?_);rintro e w2 ⟨rfl,rfl⟩)
 go_ret;exact⟨HB.out,rfl⟩
theorem UD(h:Dk w P p s){v:Aq}{N:List Int}(hs:ISl w v N)(hN:N.length<=1000000)(B:Bool)(hB:PT s.F.length N=B):AA Ae 147 #[p,v] w fun e w'=>e=Ag (A1 B)/\w=w':=by
 have KB:=vJ (Uw h);obtain⟨bp,rfl⟩:=h.ptr;obtain⟨ao,cap,rfl,hc⟩:=hs.open';have C6:=fun k hk h=>m6 (n:=s.F.length) (N:=N) k hk h
 have EI:=(Lv s.F.length N).2;rw[hB] at C6 EI;generalize s.F.length=z at KB C6 EI;obtain⟨n,hn⟩:=nm N.length;rw[<- hn] at hc C6 EI hN |-
 have HC:=vJ hc;have HNO:=vJ C6;have HYE:=vJ EI;clear h hs hc C6 EI hB hn;go_enter Tryz.func147,Tryz.ntmps147;go_wp2
 go_loop [9] (fun i=>∃ k:Nat,k<=n/\i=O Ad k/\Hid (∀ j,j<k->N.getD j 0<(z:Int))) (fun i=>n-(intOf i).toNat)
 case atStart=>exact⟨0,by omega,rfl,fun j hj=>absurd hj (A8 _)⟩
 case round=>
  obtain⟨k,hk,rfl,HK⟩:=hrel;by_cases hlt:k<n
  . obtain⟨b,off,rfl,_,hcc⟩:=HC.out (by omega)
    have hck:=hcc k hlt;have hn1:=HNO.out k hlt;obtain⟨x,hx⟩:=nm (N.getD k 0);rw[<- hx] at hck hn1;have HX:=vJ hx;have HN1:=vJ hn1;have ek:(k:Int)<(n:Int):=(by omega);clear hx hcc hn1;by_cases hf:x<(z:Int)
    . have h1:¬ (z:Int)<=x:=by omega
      go_wp2_with (go_at_call 173;(with_reducible refine KB.out.mono ?_);rintro e w2 ⟨rfl,rfl⟩)
      go_round
      case rel=>
       refine⟨k+1,by omega,by go_num,fun j hj=>?_⟩;by_cases e:j=k
       . subst e;rw[<- HX.out];exact hf
       . exact HK.out j (by omega)
      case measure=>simp[intOf];omega
    . have h1:(z:Int)<=x:=by omega
      have hR:=HN1.out (by first|exact hf|exact h1);subst hR;go_wp2_with (go_at_call 173;(with_reducible refine KB.out.mono ?_);rintro e w2 ⟨rfl,rfl⟩)
      go_ret;exact⟨rfl,rfl⟩
  . obtain rfl:k=n:=by omega
    have hR:=HYE.out HK.out;subst hR;go_wp2;go_ret;exact⟨rfl,rfl⟩
def Gp(n:Nat)(N:List Int)(D:List (List Int)):Bool:=decide (64<=n) && (GA N D && PT n N)
theorem Ts(h:Dk w P p s){v:Aq}{q:Int}{N:List Int}{D:List (List Int)}(hv:TxV w v q N D)(B:Bool)(hB:Gp s.F.length N D=B):
 AA Ae 148 #[p,v] w fun e w'=>e=Ag (A1 B)/\At w.heap.size w w':=by
 have hv':=hv;obtain⟨no,nc,ao,dc,rfl,hN,hD⟩:=hv;have KU:=vJ (fun W (hb:At w.heap.size w W) B hB=>Q0 (h.below hb) B hB);have KF:=vJ (fun W (hb:At w.heap.size w W) B hB=>WY (hv'.below hb) B hB);have KH:=vJ (fun(hY:GA N D=AL) W (hb:At w.heap.size w W) B hB=>UD (h.below hb) (hN.below hb).1 (by have:=(EX hY).1;omega) B hB);obtain⟨bp,rfl⟩:=h.ptr;unfold Gp at hB;generalize s.F.length=z at KU KH hB;obtain⟨n,hn⟩:=nm N.length;obtain⟨m,hm⟩:=nm D.length;rw[<- hn,<- hm] at KF;rw[<- hn] at KH;rw[<- hn,<- hm];have hbx:=Ay w (Ar #[O .u32 q,E no n nc,E ao m dc] 180);have E5:=Aw w (Ar #[O .u32 q,E no n nc,E ao m dc] 180);clear hN hD hn hm hv' h;go_enter Tryz.func148,Tryz.ntmps148;go_upto_region 1 with(fail)
 generalize w.alloc (Ar #[O .u32 q,E no n nc,E ao m dc] 180)=u at hbx E5 |-
 have KU1:=vJ (KU.out _ hbx);have KF1:=vJ (KF.out _ hbx);have d0:u.cell? ⟨w.heap.size,0,J⟩=I (O .u32 q):=by rw[Az _ _ _ _ _ _ E5];rfl
 have d1:u.cell? ⟨w.heap.size,1,J⟩=I (E no n nc):=by rw[Az _ _ _ _ _ _ E5];rfl
 have d2:u.cell? ⟨w.heap.size,2,J⟩=I (E ao m dc):=by rw[Az _ _ _ _ _ _ E5];rfl
 have PI:w.heap.size<u.heap.size:=(Al.1 E5).1;have C1:=vJ (fun W (h:At u.heap.size u W)=>(h.cell (p:=⟨w.heap.size,1,J⟩) PI).trans d1);have HBT:=vJ (fun W (h:At u.heap.size u W)=>hbx.trans (h.mono hbx.size));clear E5 KU KF PI hbx;generalize decide (64<=z)=X at hB KU1;obtain⟨Y,hFX⟩:∃ Y,GA N D=Y:=⟨_,rfl⟩;obtain⟨Z,hHX⟩:∃ Z,PT z N=Z:=⟨_,rfl⟩;rw[hFX,hHX] at hB;rw[hFX] at KF1;have KH2:=vJ (fun hY W hb=>KH.out hY W hb Z hHX);have KU2:=vJ (KU1.out X rfl);have KF2:=vJ (KF1.out Y rfl);have HFX:=vJ hFX;clear KU1 KF1 KH hFX hHX;cases X
 . rw[Bool.false_and] at hB
   subst hB;go_wp2_with (go_at_call 145;(with_reducible refine KU2.out.mono ?_);rintro e w2 ⟨rfl,rfl⟩)
   go_ret;exact⟨rfl,HBT.out _ (AM _ _)⟩
 . cases Y
   . rw[Bool.false_and,AP] at hB
     subst hB
     go_wp2_with (first
      |(go_at_call 145;(with_reducible refine KU2.out.mono ?_);rintro e w2 ⟨rfl,rfl⟩)
      |(go_at_call 180;(with_reducible refine KF2.out.mono ?_);rintro e w3 ⟨rfl,hb3⟩))
     go_ret;exact⟨rfl,HBT.out _ hb3⟩
   . rw[AP,AP] at hB
     subst hB
     go_wp2_with (first
      |(go_at_call 145;(with_reducible refine KU2.out.mono ?_);rintro e w2 ⟨rfl,rfl⟩)
      |(go_at_call 180;(with_reducible refine KF2.out.mono ?_);rintro e w3 ⟨rfl,hb3⟩
        have e1:=C1.out _ hb3;have HB3:=vJ (HBT.out _ hb3);clear hb3)
      |(go_at_call 147;(with_reducible refine(KH2.out HFX.out _ HB3.out).mono ?_);rintro e w4 ⟨rfl,rfl⟩))
     go_ret;exact⟨rfl,HB3.out⟩
end
theorem Chg.of_wrote1{w w':C}{g:Nat}(h:Wrote w w' g):Chg (fun b=>b=g) (fun b=>b=g) w w':=
 ⟨h.1,h.2.1,h.2.2.1,Nat.le_of_eq h.2.2.2.1.symm,fun k _ hn=>⟨h.2.2.2.2 k hn,hn⟩⟩
def RowA(w:C)(g:Nat)(P:Nat->Prop)(n:Nat)(D:List (List Int))(k:Nat):Prop:=
 ∃ vs:List Aq,vs.length=n/\w.heap[g]? =I (Ar vs.toArray 49 (0,0))/\∀ j,j<k->BSl w (vs.getD j undef) (D.getD j [])/\Apt P (vs.getD j undef)/\Apt (fun b=>b=g) (vs.getD j undef)
theorem RowA.make(w:C)(P:Nat->Prop)(n:Nat)(D:List (List Int)):RowA (w.alloc (Ar (A3 n (E J 0 0)) 49)) w.heap.size P n D 0:=
 ⟨AD n (E J 0 0),A4,by rw[Aw];simp,fun j hj=>absurd hj (A8 _)⟩
theorem RowA.row{w:C}{g n:Nat}{P:Nat->Prop}{D:List (List Int)}{k:Nat}(h:RowA w g P n D k):∃ vs:List Aq,vs.length=n/\w.heap[g]? =I (Ar vs.toArray 49 (0,0)):=by
 obtain⟨vs,h1,h2,_⟩:=h;exact⟨vs,h1,h2⟩
theorem RowA.below{w w':C}{g n:Nat}{P:Nat->Prop}{D:List (List Int)}{k:Nat}(h:RowA w g P n D k)(hb:At w.heap.size w w'):RowA w' g P n D k:=by
 obtain⟨vs,h1,h2,h3⟩:=h;have hg:g<w.heap.size:=(Al.1 h2).1;exact⟨vs,h1,(hb.block g hg).trans h2,fun j hj=>⟨(h3 j hj).1.below hb,(h3 j hj).2⟩⟩
theorem RowA.set{w:C}{g n:Nat}{P:Nat->Prop}{D:List (List Int)}{k:Nat}(h:RowA w g P n D k)(hk:k<n){y:Aq}(hy:BSl w y (D.getD k []))(h1:Apt P y)(h2:Apt (fun b=>b=g) y):RowA (w.setCell ⟨g,k,J⟩ y) g P n D (k+1):=by
 obtain⟨vs,e1,e2,e3⟩:=h;have hc:=Chg.of_wrote1 (Wrote.setCell w g k y);refine⟨vs.set k y,by rw[AJ];exact e1,ka e2 k y,fun j hj=>?_⟩;by_cases e:j=k
 . subst e
   have e4:(vs.set j y).getD j undef=y:=(by simp[e1,hk]);rw[e4];exact⟨(hy.chg h2 hc).1,h1,h2⟩
 . have e4:(vs.set k y).getD j undef=vs.getD j undef:=by
    rw[An,Bw (by omega),<- An]
   rw[e4];obtain⟨m1,m2,m3⟩:=e3 j (by omega);exact⟨(m1.chg m3 hc).1,m2,m3⟩
theorem RowA.done{w:C}{g n:Nat}{P:Nat->Prop}{D:List (List Int)}(h:RowA w g P n D n)(hD:D.length=n)(hP:¬ P g):BBa w P (E (I ⟨g,0,J⟩) n n) D:=by
 obtain⟨vs,h1,h2,h3⟩:=h;subst hD;refine Ba ⟨_,D.length,rfl,AB _,fun j hj=>⟨⟨(Al.1 h2).1,hP⟩,rfl,vs.getD j undef,?_,(h3 j hj).1,(h3 j hj).2.1⟩⟩;show w.cell? ⟨g,0+j,J⟩=_
 rw[Bm,Az _ _ _ _ _ _ h2];simp[show j<vs.length by omega]
section
variable {w:C}{P:Nat->Prop}{p:Aq}{s:DS}
theorem Xf(h:Dk w P p s)(Qa:64<=s.F.length)(hd:s.dn=AI):
 AA Ae 101 #[p] w fun e w'=>∃ ao cap,e=Ag (AO #[E ao 40 cap,O Ad 0])/\BBa w' P (E ao 40 cap) (EK s.vis)/\At w.heap.size w w':=by
 have hlt:=fun k hk=>h.lt k hk
 have KU:=vJ (Q0 h AL (AF Qa));have MY:(EK s.vis).length=40:=EP (by rw[DS.vis_length];omega);have KR:=vJ (fun W (hb:At w.heap.size w W) (k:Nat) (hk:k<40)=>(td (h.below hb) (3+k) (by omega) hd));have HJ:=vJ (fun(k:Nat) (hk:k<40)=>Iz s.vis k hk);have HDN:=vJ (fun W (hr:RowA W w.heap.size P 40 (EK s.vis) 40)=>hr.done MY (fun hp=>Nat.lt_irrefl _ (hlt _ hp)));obtain⟨bp,rfl⟩:=h.ptr;obtain⟨D,hD⟩:=nm (EK s.vis);rw[<- hD] at HJ HDN |-
 have HLT:=vJ hlt;have hbx:=Ay w (Ar (A3 40 (E J 0 0)) 49);have Kh:=RowA.make w P 40 D;clear h Qa hd MY hD hlt;go_enter Tryz.func101,Tryz.ntmps101
 go_wp2_with (first
  |(go_at_call 145;(with_reducible refine KU.out.mono ?_);rintro e w2 ⟨rfl,rfl⟩)
  |(at_make;refine Lo w rfl _ _ rfl (40:Int) 40 rfl rfl rfl (by omega) ?_))
 generalize w.alloc (Ar (A3 40 (E J 0 0)) 49)=w1 at hbx Kh |-
 have HR0:=vJ Kh;have HBX:=vJ hbx;obtain⟨g,hg⟩:=nm w.heap.size;rw[<- hg] at HR0 HDN |-
 have HG:=vJ hg;clear Kh hbx hg;go_loopw [14] (fun i wr=>∃ k:Nat,k<=40/\i=O Ad k/\Hid (RowA wr g P 40 D k)/\Hid (At w.heap.size w wr)) (fun i _=>40-(intOf i).toNat)
 case atStart=>exact⟨0,by omega,rfl,HR0,HBX⟩
 case round=>
  obtain⟨k,hk,rfl,HR,HB⟩:=hrel;clear HR0 HBX;by_cases hlt:k<40
  . have KC:=vJ (KR.out _ HB.out k hlt)
    have ek:(k:Int)<40:=(by omega);have e3:((3+k:Nat):Int)=3+(k:Int):=(by push_cast;rfl);rw[e3] at KC;clear e3
    go_wp2_with (go_at_call 139;(with_reducible refine KC.out.mono ?_);rintro e w2 ⟨y,rfl,hoy,hb2,hy⟩
                 have En:=HB.out.size;have hr2:=HR.out.below hb2;have HA1:Hid (Apt P y):=vJ (by rw[hy];exact Apt.new (fun hp=>by have:=HLT.out _ hp;omega));have HA2:Hid (Apt (fun b=>b=g) y):=vJ (by
                  rw[hy];refine Apt.new (fun hp=>?_);obtain⟨vs,_,hvr⟩:=HR.out.row;have:=(Al.1 hvr).1;omega)
                 rw[<- HJ.out k hlt] at hoy;obtain⟨yo,yc,hys,_⟩:=hoy.shape;have HY:=vJ hoy;subst hys;generalize (D.getD k []).length=yl at HY HA1 HA2 |-
                 clear hy hoy;have HR2:=vJ hr2;obtain⟨vs2,lJ,am⟩:=hr2.row;have hf2:=bh am k;have hc2:∃ z,w2.cell? ⟨g,k,J⟩=I z:=⟨vs2[k]'(by omega),by rw[Az _ _ _ _ _ _ am];simp[lJ,hlt]⟩;obtain⟨z,hz⟩:=hc2;have HB2:=vJ (HB.out.trans (hb2.mono HB.out.size));clear hr2 lJ am hb2 En)
    go_roundw
    case rel=>exact⟨k+1,by omega,by go_num,HR2.out.set hlt HY.out HA1.out HA2.out,(HB2.out.trans ((Wrote.setCell w2 g k _).below (by rw[HG.out];exact AB _)))⟩
    case measure=>simp[intOf];omega
  . obtain rfl:k=40:=by omega
    go_wp2;go_ret2;exact⟨_,_,rfl,HDN.out _ HR.out,HB.out⟩
end
theorem SP{L:List (List Int)}{q q':Int}{N N':List Int}{D D':List (List Int)}(h:IS L q N D)(h':IS L q' N' D'):q=q'/\N=N'/\D=D':=by
 obtain⟨rfl,rfl⟩:=RH h.1.2 h'.1.2;exact⟨rfl,rfl,h.2.2.2.1.symm.trans h'.2.2.2.1⟩
theorem O5{L:List (List Int)}{q:Int}{N:List Int}{D:List (List Int)}(h:IS L q N D):GA N D=AL/\0<=q/\q<4294967296:=by
 obtain⟨⟨h0,hN,⟨q0,q1⟩,_⟩,hl,_,hD,hw⟩:=h;refine⟨?_,q0,q1⟩;rw[JM,hN,hw,AF]
 . rfl
 . rw[<- hD,AK,AU];omega
def QU(n:Nat)(L:List (List Int))(q:Int)(N:List Int)(D:List (List Int)):Prop:=IS L q N D/\PT n N=AL
section
variable {w:C}{P:Nat->Prop}{p:Aq}{s:DS}
theorem WT(h:Dk w P p s){v:Aq}{L:List (List Int)}(hs:BBSl w v L)(hL:L.length<=1000000){q:Int}{N:List Int}{D:List (List Int)}(ht:QU s.F.length L q N D):
 AA Ae 102 #[p,v] w fun e w'=>∃ vN vD,e=Ag (AO #[BD #[O .u32 q,vN,vD],A1 AL])/\IR w' 0 vN N/\BBR w' 0 vD D/\At w.heap.size w w':=by
 obtain⟨ht,hh⟩:=ht;have Ki:N.length<=37:=(EX (O5 ht).1).1;have hbx:=Ay w (Ar #[O .u32 0,E J 0 0,E J 0 0] 180);have E5:=Aw w (Ar #[O .u32 0,E J 0 0,E J 0 0] 180)
 have KU:=vJ (fun W (hb:At w.heap.size w W)=>show AA Ae 146 #[v] W fun e w'=>∃ vN vD,e=Ag (AO #[BD #[O .u32 q,vN,vD],A1 AL])/\IR w' 0 vN N/\BBR w' 0 vD D/\At W.heap.size W w' from
  (Kr (hs.below hb) hL).mono fun e w' ⟨hb,hc⟩=>by
    rcases hc with⟨q',N',D',vN,vD,ht',he,h1,h2⟩| ⟨C6,_⟩
    . obtain⟨rfl,rfl,rfl⟩:=SP ht ht'
      exact⟨vN,vD,he,h1,h2,hb⟩
    . exact absurd ht (C6 _ _ _))
 have KH:=vJ (fun W (hb:At w.heap.size w W) vN (hN:IR W 0 vN N)=>UD (h.below hb) hN.sl (by omega) AL hh);obtain⟨bp,rfl⟩:=h.ptr;obtain⟨vo,vc,rfl,_⟩:=hs.shape;generalize L.length=y at KU |-
 clear h hs hL ht hh Ki;go_enter Tryz.func102,Tryz.ntmps102;go_upto_region 1 with(fail)
 have PI:w.heap.size<(w.alloc (Ar #[O .u32 0,E J 0 0,E J 0 0] 180)).heap.size:=by simp
 generalize w.alloc (Ar #[O .u32 0,E J 0 0,E J 0 0] 180)=w1 at hbx E5 PI |-
 go_wp2_with (first
  |(go_at_call 146;(with_reducible refine(KU.out _ hbx).mono ?_);rintro e w2 ⟨vN,vD,rfl,hN2,hD2,hb2⟩
    obtain⟨_,no,nc,rfl,_⟩:=hN2.isc;obtain⟨ao,dc,rfl,_⟩:=hD2.sl.shape;have Kj:=Aw w2 (Ar #[O .u32 0,E J 0 0,E J 0 0] 180);have hbs:=Ay w2 (Ar #[O .u32 0,E J 0 0,E J 0 0] 180);have HN3:=vJ (hN2.below hbs);have HD3:=vJ (hD2.below hbs);have HB2:=vJ hb2;generalize hnn:N.length=n at HN3 |-
    generalize hmm:D.length=m at HD3 |-
    clear hN2 hD2 hnn hmm)
  |(with_reducible refine BQ rfl 180 EN (.tmp 6) (.tmp 11) rfl w2.heap.size rfl _ _ _ _ _ _ rfl rfl rfl rfl _ Kj ?_;intro w4 hw4 hr4
    have hb4:=hbs.trans (hw4.below (AB _));have hb14:=HB2.out.trans (hb4.mono HB2.out.size);have Kh:=Lc E5 hb14;have HB4:=vJ (hbx.trans (hb14.mono hbx.size));have x0:w4.cell? ⟨w2.heap.size,0,J⟩=I (O .u32 q):=(by rw[Az _ _ _ _ _ _ hr4];rfl);have x1:w4.cell? ⟨w2.heap.size,1,J⟩=I (E no n nc):=(by rw[Az _ _ _ _ _ _ hr4];rfl);have x2:w4.cell? ⟨w2.heap.size,2,J⟩=I (E ao m dc):=(by rw[Az _ _ _ _ _ _ hr4];rfl);have HN4:=vJ (HN3.out.wrote hw4 Kj (by decide));have HD4:=vJ (HD3.out.wrote hw4 (AX _) Kj (by decide) (by decide));clear Kj hbs hw4 hb4 hb14 HN3 HD3 hr4)
  |(go_at_call 147;(with_reducible refine(KH.out _ HB4.out _ HN4.out).mono ?_);rintro e w5 ⟨rfl,rfl⟩)
  |(with_reducible refine BQ rfl 180 EN (.tmp 4) (.tmp 23) rfl w.heap.size rfl _ _ _ _ _ _ rfl rfl rfl rfl _ Kh ?_;intro w9 hw9 hr9))
 refine Bv (DK rfl Tryz.underlying180 EN _ _ w.heap.size _ _ _ _ _ rfl hr9 rfl) rfl ⟨_,_,rfl,?_,?_,HB4.out.trans (hw9.below (AB _))⟩
 . exact HN4.out.wrote hw9 Kh (by decide)
 . exact HD4.out.wrote hw9 (AX _) Kh (by decide) (by decide)
theorem X5(h:Dk w P p s){v:Aq}{L:List (List Int)}(hs:BBSl w v L)(hL:L.length<=1000000)(C6:∀ q N D,¬ QU s.F.length L q N D):
 AA Ae 102 #[p,v] w fun e w'=>e=Ag (AO #[BD #[O .u32 0,E J 0 0,E J 0 0],A1 AI])/\At w.heap.size w w':=by
 by_cases hex:∃ q N D,IS L q N D
 . obtain⟨q,N,D,ht⟩:=hex
   have hh:PT s.F.length N=AI:=by
    cases e:PT s.F.length N
    . rfl
    . exact absurd ⟨ht,e⟩ (C6 q N D)
   have Ki:N.length<=37:=(EX (O5 ht).1).1;have hbx:=Ay w (Ar #[O .u32 0,E J 0 0,E J 0 0] 180);have E5:=Aw w (Ar #[O .u32 0,E J 0 0,E J 0 0] 180)
   have KU:=vJ (fun W (hb:At w.heap.size w W)=>show AA Ae 146 #[v] W fun e w'=>∃ vN vD,e=Ag (AO #[BD #[O .u32 q,vN,vD],A1 AL])/\IR w' 0 vN N/\BBR w' 0 vD D/\At W.heap.size W w' from
    (Kr (hs.below hb) hL).mono fun e w' ⟨hb,hc⟩=>by
      rcases hc with⟨q',N',D',vN,vD,ht',he,h1,h2⟩| ⟨C6,_⟩
      . obtain⟨rfl,rfl,rfl⟩:=SP ht ht'
        exact⟨vN,vD,he,h1,h2,hb⟩
      . exact absurd ht (C6 _ _ _))
   have KH:=vJ (fun W (hb:At w.heap.size w W) vN (hN:IR W 0 vN N)=>UD (h.below hb) hN.sl (by omega) AI hh);obtain⟨bp,rfl⟩:=h.ptr;obtain⟨vo,vc,rfl,_⟩:=hs.shape;generalize L.length=y at KU |-
   clear h hs hL ht hh Ki C6;go_enter Tryz.func102,Tryz.ntmps102;go_upto_region 1 with(fail)
   have PI:w.heap.size<(w.alloc (Ar #[O .u32 0,E J 0 0,E J 0 0] 180)).heap.size:=(by simp);generalize w.alloc (Ar #[O .u32 0,E J 0 0,E J 0 0] 180)=w1 at hbx E5 PI |-
   go_wp2_with (first
    |(go_at_call 146;(with_reducible refine(KU.out _ hbx).mono ?_);rintro e w2 ⟨vN,vD,rfl,hN2,hD2,hb2⟩
      obtain⟨_,no,nc,rfl,_⟩:=hN2.isc;obtain⟨ao,dc,rfl,_⟩:=hD2.sl.shape;have Kj:=Aw w2 (Ar #[O .u32 0,E J 0 0,E J 0 0] 180);have hbs:=Ay w2 (Ar #[O .u32 0,E J 0 0,E J 0 0] 180);have HN3:=vJ (hN2.below hbs);have HB2:=vJ hb2;generalize hnn:N.length=n at HN3 |-
      generalize hmm:D.length=m at |-
      clear hN2 hD2 hnn hmm)
    |(with_reducible refine BQ rfl 180 EN (.tmp 6) (.tmp 11) rfl w2.heap.size rfl _ _ _ _ _ _ rfl rfl rfl rfl _ Kj ?_;intro w4 hw4 hr4
      have hb4:=hbs.trans (hw4.below (AB _));have hb14:=HB2.out.trans (hb4.mono HB2.out.size);have Kh:=Lc E5 hb14;have HB4:=vJ (hbx.trans (hb14.mono hbx.size));have x1:w4.cell? ⟨w2.heap.size,1,J⟩=I (E no n nc):=(by rw[Az _ _ _ _ _ _ hr4];rfl);have HN4:=vJ (HN3.out.wrote hw4 Kj (by decide));clear Kj hbs hw4 hb4 hb14 HN3 hr4)
    |(go_at_call 147;(with_reducible refine(KH.out _ HB4.out _ HN4.out).mono ?_);rintro e w5 ⟨rfl,rfl⟩)
    |(with_reducible refine BQ rfl 180 EN (.tmp 4) (.tmp 22) rfl w.heap.size rfl _ _ _ _ _ _ rfl rfl rfl rfl _ Kh ?_;intro w9 hw9 hr9))
   refine Bv (DK rfl Tryz.underlying180 EN _ _ w.heap.size _ _ _ _ _ rfl hr9 rfl) rfl ⟨rfl,HB4.out.trans (hw9.below (AB _))⟩
 . have Oh:∀ q N D,¬ IS L q N D:=fun q N D ht=>hex ⟨q,N,D,ht⟩
   have hbx:=Ay w (Ar #[O .u32 0,E J 0 0,E J 0 0] 180);have E5:=Aw w (Ar #[O .u32 0,E J 0 0,E J 0 0] 180)
   have KU:=vJ (fun W (hb:At w.heap.size w W)=>show AA Ae 146 #[v] W fun e w'=>e=Ag (AO #[BD #[O .u32 0,E J 0 0,E J 0 0],A1 AI])/\At W.heap.size W w' from
    (Kr (hs.below hb) hL).mono fun e w' ⟨hb,hc⟩=>by
      rcases hc with⟨q',N',D',vN,vD,ht',he,h1,h2⟩| ⟨_,he⟩
      . exact absurd ht' (Oh _ _ _)
      . exact⟨he,hb⟩)
   obtain⟨bp,rfl⟩:=h.ptr;obtain⟨vo,vc,rfl,_⟩:=hs.shape;generalize L.length=y at KU |-
   clear h hs hL C6 Oh hex;go_enter Tryz.func102,Tryz.ntmps102;go_upto_region 1 with(fail)
   generalize w.alloc (Ar #[O .u32 0,E J 0 0,E J 0 0] 180)=w1 at hbx E5 |-
   go_wp2_with (first
    |(go_at_call 146;(with_reducible refine(KU.out _ hbx).mono ?_);rintro e w2 ⟨rfl,hb2⟩
      have Kj:=Aw w2 (Ar #[O .u32 0,E J 0 0,E J 0 0] 180);have hbs:=Ay w2 (Ar #[O .u32 0,E J 0 0,E J 0 0] 180);have HB2:=vJ hb2)
    |(with_reducible refine BQ rfl 180 EN (.tmp 6) (.tmp 11) rfl w2.heap.size rfl _ _ _ _ _ _ rfl rfl rfl rfl _ Kj ?_;intro w4 hw4 hr4
      have hb4:=hbs.trans (hw4.below (AB _));have hb14:=HB2.out.trans (hb4.mono HB2.out.size);have Kh:=Lc E5 hb14;have HB4:=vJ (hbx.trans (hb14.mono hbx.size));clear Kj hbs hw4 hb4 hb14 hr4)
    |(with_reducible refine BQ rfl 180 EN (.tmp 4) (.tmp 22) rfl w.heap.size rfl _ _ _ _ _ _ rfl rfl rfl rfl _ Kh ?_;intro w9 hw9 hr9))
   refine Bv (DK rfl Tryz.underlying180 EN _ _ w.heap.size _ _ _ _ _ rfl hr9 rfl) rfl ⟨rfl,HB4.out.trans (hw9.below (AB _))⟩
end
theorem Ey(a:PA)(A:List PA)(s:DS):BP (a :: A) s=if s.ok=AL then BP A (a.run s) else (2,s.pay):=rfl
theorem EQ:∀ (A B:List PA) (s:DS),BP (A ++ B) s=if (BP A s).1=0 then BP B (BP A s).2 else BP A s
 |[],B,s=>by
  show BP B s=if (0:Int)=0 then BP B s else _
  rw[AC rfl]
 |a :: A,B,s=>by
  rw[List.cons_append,Ey,Ey];by_cases h:s.ok=AL
  . rw[AC h,AC h];exact EQ A B _
  . rw[AE h,AE h,AE (by show ¬ (2:Int)=0;decide)]
theorem GK{X:List PA}{a:PA}{s:DS}(h:(BP X s).1=0)(hok:(BP X s).2.ok=AL):BP (X ++ [a]) s=(0,a.run (BP X s).2):=by
 rw[EQ,AC h,Ey,AC hok];rfl
theorem SM{X Y:List PA}{a:PA}{s:DS}(h:(BP X s).1=0)(hok:(BP X s).2.ok=AI):BP (X ++ a :: Y) s=(2,(BP X s).2.pay):=by
 rw[EQ,AC h,Ey,AE (by rw[hok];decide)]
theorem FL:∀ (A:List PA) (s:DS),(BP A s).2.F.length=s.F.length/\(BP A s).2.U.length<=s.U.length+A.length
 |[],s=>⟨rfl,AB _⟩
 |a :: A,s=>by
  unfold BP;by_cases h:s.ok=AL
  . rw[AC h]
    obtain⟨h1,h2⟩:=FL A (a.run s);cases a with
    |w n l=>
     have e1:(PA.run s (.w n l)).F.length=s.F.length:=rfl;have e2:(PA.run s (.w n l)).U.length=s.U.length+1:=(by show(s.U ++ [(n,l)]).length=_;simp);exact⟨h1.trans e1,by simp only[Ch];omega⟩
    |f=>
     have e1:(PA.run s .f).F.length=s.F.length:=DS.vis_length s;have e2:(PA.run s .f).U.length=0:=rfl;exact⟨h1.trans e1,by simp only[Ch];omega⟩
  . rw[AE h]
    exact⟨rfl,Nat.le_add_right _ _⟩
def RunQ(A:List PA)(w:C)(P:Nat->Prop)(p:Aq)(s:DS)(e:Ending)(w':C):Prop:=
 e=Ag (O Ad (BP A s).1)/\∃ P',Dk w' P' p (BP A s).2/\Chg P P' w w'
theorem RunQ.stop{X Y:List PA}{a:PA}{w W:C}{P P':Nat->Prop}{p:Aq}{s:DS}(h:(BP X s).1=0)(hok:(BP X s).2.ok=AI)(hd:Dk W P' p (BP X s).2.pay)(hc:Chg P P' w W):RunQ (X ++ a :: Y) w P p s (Ag (O Ad 2)) W:=by
 unfold RunQ;rw[SM h hok];exact⟨rfl,P',hd,hc⟩
theorem RunQ.done{X:List PA}{w W:C}{P P':Nat->Prop}{p:Aq}{s:DS}(h:(BP X s).1=0)(hd:Dk W P' p (BP X s).2)(hc:Chg P P' w W):RunQ X w P p s (Ag (O Ad 0)) W:=by
 unfold RunQ;rw[h];exact⟨rfl,P',hd,hc⟩
theorem Chg.cell{P P':Nat->Prop}{w w':C}(h:Chg P P' w w'){g i:Nat}(hg:g<w.heap.size)(hn:¬ P g):w'.cell? ⟨g,i,J⟩=w.cell? ⟨g,i,J⟩:=
 Bh (a:=⟨g,i,J⟩) (h.keep g hg hn).1
theorem dr(N:List Int)(D:List (List Int))(k:Nat)(hk:k<N.length):B9 N D=(B9 N D).take k ++ .w (N.getD k 0).toNat (D.getD k []) :: (B9 N D).drop (k+1)/\(B9 N D).take (k+1)=(B9 N D).take k ++ [.w (N.getD k 0).toNat (D.getD k [])]:=by
 have hl:k<(B9 N D).length:=by rw[FA];exact hk
 have e:(B9 N D)[k]=.w (N.getD k 0).toNat (D.getD k []):=by simp[B9,Cj]
 refine⟨?_,?_⟩
 . rw[<- e,List.getElem_cons_drop,Be]
 . rw[Bn hl,e]
section
variable {w:C}{P:Nat->Prop}{p:Aq}{s:DS}
theorem TO(h:Dk w P p s){v:Aq}{q:Int}{N:List Int}{D:List (List Int)}(hv:TxVa w P v q N D)(hB:Gp s.F.length N D=AL)(hU:s.U.length<=900000):
 AA Ae 103 #[p,v] w (RunQ (B9 N D) w P p s):=by
 have hv':=hv;obtain⟨no,nc,ao,dc,rfl,hN,hD⟩:=hv;have hB':=hB;unfold Gp at hB';rw[AY,AY] at hB';obtain⟨_,hF,hH⟩:=hB';obtain⟨f1,f2,f3⟩:=EX hF;have hH':=(Lv _ _).1 hH;have KT:=vJ (fun W (hb:At w.heap.size w W)=>Ts (h.below hb) (hv'.v.below hb) AL hB);have hlt:=fun k hk=>h.lt k hk
 have HD0:=vJ (fun W (hb:At w.heap.size w W)=>h.below hb);have hlen:=fun k=>FL ((B9 N D).take k) s
 have KW:=vJ (fun k (hk:k<N.length) W Pk (hd:Dk W Pk p (BP ((B9 N D).take k) s).2) v (hv:BSl W v (D.getD k []))=>kG hd (N.getD k 0).toNat (by
  have h1:=hH' k hk;have h2:=(f3 k hk).1;have h3:=(hlen k).1;omega) hv (f3 k hk).2.1 (by
  have h1:=(hlen k).2;rw[AK,FA] at h1;omega))
 have HNK:=vJ (fun k (hk:k<N.length)=>show N.getD k 0=((N.getD k 0).toNat:Int) by have:=(f3 k hk).1;omega);have HL:=vJ (fun k (hk:k<N.length)=>(f3 k hk).2.1);have HNC:=vJ (fun W P' (hc:Chg P P' w W)=>(hN.1.1.chg hN.2 hc).1.open');have HDC:=vJ (fun W P' (hc:Chg P P' w W)=>(hD.chg hc).sl.open');have HG:=vJ (fun k hk=>dr N D k hk);have HFULL:Hid ((B9 N D).take N.length=B9 N D):=vJ (AV (by rw[FA];exact AB _));obtain⟨bp,rfl⟩:=h.ptr;obtain⟨A,hA⟩:=nm (B9 N D);rw[<- hA] at KW HG HFULL |-
 obtain⟨n,hn⟩:=nm N.length;have Vu:D.length=n:=f2.trans hn.symm;rw[<- hn] at KT KW HNK HL HNC HG HFULL f1 |-
 rw[Vu] at KT HDC |-
 have hbx:=Ay w (Ar #[O .u32 q,E no n nc,E ao n dc] 180);have E5:=Aw w (Ar #[O .u32 q,E no n nc,E ao n dc] 180);clear h hN hD hv' hB hF hH hH' hlen f2 f3 hA hn Vu;go_enter Tryz.func103,Tryz.ntmps103;go_upto_region 1 with(fail)
 generalize w.alloc (Ar #[O .u32 q,E no n nc,E ao n dc] 180)=u at hbx E5 |-
 have KT1:=vJ (KT.out _ hbx);have d0:u.cell? ⟨w.heap.size,0,J⟩=I (O .u32 q):=by rw[Az _ _ _ _ _ _ E5];rfl
 have d1:u.cell? ⟨w.heap.size,1,J⟩=I (E no n nc):=by rw[Az _ _ _ _ _ _ E5];rfl
 have d2:u.cell? ⟨w.heap.size,2,J⟩=I (E ao n dc):=by rw[Az _ _ _ _ _ _ E5];rfl
 have PI:w.heap.size<u.heap.size:=(Al.1 E5).1;obtain⟨d,hd⟩:=nm w.heap.size;have HND:Hid (¬ P d):=vJ (fun hp=>by have:=hlt _ hp;omega);have HBX:=vJ hbx;rw[<- hd] at d0 d1 d2 PI |-
 clear E5 KT hbx hlt hd
 go_wp2_with (go_at_call 148;(with_reducible refine KT1.out.mono ?_);rintro e w2 ⟨rfl,hb2⟩
              have HB2:=vJ (HBX.out.trans (hb2.mono HBX.out.size));have g1:=(hb2.cell (p:=⟨d,1,J⟩) PI).trans d1;have g2:=(hb2.cell (p:=⟨d,2,J⟩) PI).trans d2;have JG:=AH PI hb2.size;clear hb2)
 have HC1:=vJ (fun W P' (hc:Chg P P' w2 W)=>(hc.cell (i:=1) JG HND.out).trans g1);have HC2:=vJ (fun W P' (hc:Chg P P' w2 W)=>(hc.cell (i:=2) JG HND.out).trans g2);have HCW:=vJ (fun W P' (hc:Chg P P' w2 W)=>(Chg.of_below (P:=P) HB2.out).trans hc);have HST:Hid (∃ Pk,Dk w2 Pk (Am (I ⟨bp,0,J⟩)) (BP (A.take 0) s).2/\Chg P Pk w2 w2):=vJ ⟨P,HD0.out _ HB2.out,Chg.refl P w2⟩;clear g1 g2 JG d0 d1 d2 PI KT1;go_loopw [15] (fun i wr=>∃ k:Nat,k<=n/\i=O Ad k/\Hid ((BP (A.take k) s).1=0)/\Hid (∃ Pk,Dk wr Pk (Am (I ⟨bp,0,J⟩)) (BP (A.take k) s).2/\Chg P Pk w2 wr)) (fun i _=>n-(intOf i).toNat)
 case atStart=>exact⟨0,by omega,rfl,vJ (by rw[List.take_zero];rfl),HST⟩
 case round=>
  obtain⟨k,hk,rfl,HR,HS⟩:=hrel;clear HST;obtain⟨Pk,hdk,hck⟩:=HS.out;by_cases hlt:k<n
  . have y1:=HC1.out _ _ hck
    have y2:=HC2.out _ _ hck;obtain⟨no',nc',e1,q1⟩:=HNC.out _ _ (HCW.out _ _ hck);obtain⟨rfl,rfl⟩:=And.intro (A0 e1).1 (A0 e1).2.2;obtain⟨b1,o1,rfl,_,c1⟩:=q1 (by omega);have z1:=c1 k hlt;rw[HNK.out k hlt] at z1;obtain⟨ao',dc',e2,_,q2⟩:=HDC.out _ _ (HCW.out _ _ hck);obtain⟨rfl,rfl⟩:=And.intro (A0 e2).1 (A0 e2).2.2;obtain⟨b2,o2,rfl,_,c2⟩:=q2 (by omega);obtain⟨x,z2,hx⟩:=c2 k hlt;have KC:=vJ (KW.out k hlt _ _ hdk _ hx);obtain⟨xo,xc,rfl,_⟩:=hx.shape;rw[HL.out k hlt] at z2 KC;have ek:(k:Int)<(n:Int):=(by omega);have HGK:=vJ (HG.out k hlt);obtain⟨x1,hx1⟩:=nm ((N.getD k 0).toNat);rw[<- hx1] at z1 KC HGK;clear hx1;have HCK:=vJ hck;clear e1 e2 q1 q2 c1 c2 hx hdk hck;cases hok:(BP (A.take k) s).2.ok
    . rw[hok,AE CH,AE CH] at KC
      have HOK:=vJ hok;clear hok;go_wp2_with (go_at_call 149;(with_reducible refine KC.out.mono ?_);rintro e w3 ⟨rfl,P3,cy,hc3⟩)
      go_ret;rw[HGK.out.1];exact RunQ.stop HR.out HOK.out cy (HCW.out _ _ (HCK.out.trans hc3))
    . rw[hok,AC rfl,AC rfl] at KC
      have HOK:=vJ hok;clear hok;go_wp2_with (go_at_call 149;(with_reducible refine KC.out.mono ?_);rintro e w3 ⟨rfl,P3,cy,hc3⟩)
      go_roundw
      case rel=>
       have e5:=HGK.out.2;refine⟨k+1,by omega,by go_num,vJ ?_,vJ ⟨P3,?_,HCK.out.trans hc3⟩⟩
       . rw[e5,GK HR.out HOK.out]
       . rw[e5,GK HR.out HOK.out];exact cy
      case measure=>simp[intOf];omega
  . obtain rfl:k=n:=by omega
    clear HG;go_wp2;go_ret;rw[HFULL.out] at HR HS;obtain⟨Pk,hdk,hck⟩:=HS.out;exact RunQ.done HR.out hdk (HCW.out _ _ hck)
end
def J8(at':Nat)(bs:List (List Int)):List PA:=(Co bs.length).map fun i=>.w (at'+i) (bs.getD i [])
def Gk(St:List (Nat × List (List Int))):List PA:=St.flatMap fun x=>J8 x.1 x.2 ++ [.f]
theorem Ig(at':Nat)(bs:List (List Int)):(J8 at' bs).length=bs.length:=by simp[J8]
theorem mi(at':Nat)(bs:List (List Int))(k:Nat)(hk:k<bs.length):J8 at' bs=(J8 at' bs).take k ++ .w (at'+k) (bs.getD k []) :: (J8 at' bs).drop (k+1)/\(J8 at' bs).take (k+1)=(J8 at' bs).take k ++ [.w (at'+k) (bs.getD k [])]:=by
 have hl:k<(J8 at' bs).length:=by rw[Ig];exact hk
 have e:(J8 at' bs)[k]=.w (at'+k) (bs.getD k []):=by simp[J8]
 refine⟨?_,?_⟩
 . rw[<- e,List.getElem_cons_drop,Be]
 . rw[Bn hl,e]
theorem PD(A B:List (Nat × List (List Int))):Gk (A ++ B)=Gk A ++ Gk B:=Eb
theorem Ie(x:Nat × List (List Int))(B:List (Nat × List (List Int))):Gk (x :: B)=J8 x.1 x.2 ++ [.f] ++ Gk B:=CD
theorem Ww:Gk []=[]:=rfl
theorem VN(St:List (Nat × List (List Int)))(j:Nat)(hj:j<St.length):
 Gk St=Gk (St.take j) ++ (J8 (St.getD j (0,[])).1 (St.getD j (0,[])).2 ++ [.f] ++ Gk (St.drop (j+1)))/\
 Gk (St.take (j+1))=Gk (St.take j) ++ (J8 (St.getD j (0,[])).1 (St.getD j (0,[])).2 ++ [.f]):=by
 have e:St.getD j (0,[])=St[j]:=by simp[hj]
 rw[e];refine⟨?_,?_⟩
 . conv=>lhs;rw[<- Be j St]
   rw[Dq hj,PD,Ie]
 . rw[Bn hj,PD,Ie,Ww,BB]
def qd(St:List (Nat × List (List Int))):Nat:=(Gk St).length
theorem qI:(Ae.info? 236).map (·.size)=I 2:=by kernel_rfl
theorem PX{ops:Array BS}{rest:List BS}{o:BS}{a:Act}{w:C}{Q:Exit->Act->C->Prop}(Dn:o.guard=J)(ty:TypeId)(hi:(Ae.info? ty).map (·.size)=I 2)(x y:Operand)(ho:o.op=.store ty x y)
 (g:Nat) (hx:a.eval x=Am (I ⟨g,0,J⟩)) (p q p' q':Aq) (hy:a.eval y=BD #[p,q]) (hp:p.oneCell'=AL) (hq:q.oneCell'=AL) (T:TypeId) (hg:w.heap[g]? =I (Ar #[p',q'] T (0,0)))
 (h:∀ w',Wrote w w' g->w'.heap[g]? =I (Ar #[p,q] T (0,0))->Cn Ae ops Q rest (a.put o.dst undef) w'):Cn Ae ops Q (o :: rest) a w:=
 Do Dn ty x y ho g #[p,q] hx hy T _ hg hi rfl (by simp[hp,hq]) (h _ (Wrote.setRow _ _ _) (Cr _ _ _ _ _ _ hg))
def StSl(w:C)(P:Nat->Prop)(b off:Nat)(St:List (Nat × List (List Int))):Prop:=
 b<w.heap.size/\¬ P b/\∀ j,j<St.length->∃ ao dc,w.cell? ⟨b,off+j*2,J⟩=I (O Ad ((St.getD j (0,[])).1:Nat))/\w.cell? ⟨b,off+j*2+1,J⟩=I (E ao (St.getD j (0,[])).2.length dc)/\
  BBa w P (E ao (St.getD j (0,[])).2.length dc) (St.getD j (0,[])).2
theorem StSl.chg{w w':C}{P P':Nat->Prop}{b off:Nat}{St:List (Nat × List (List Int))}(h:StSl w P b off St)(hc:Chg P P' w w'):StSl w' P' b off St:=by
 obtain⟨h1,h2,h3⟩:=h;refine⟨AH h1 hc.size,(hc.keep b h1 h2).2,fun j hj=>?_⟩;obtain⟨ao,dc,m1,m2,m3⟩:=h3 j hj;exact⟨ao,dc,(hc.cell h1 h2).trans m1,(hc.cell h1 h2).trans m2,m3.chg hc⟩
section
variable {w:C}{P:Nat->Prop}{p:Aq}{s:DS}
theorem mY(h:Dk w P p s){b off cap:Nat}{St:List (Nat × List (List Int))}(hs:StSl w P b off St)(hU:s.U.length<=900000)(hSt:qd St<=1000)(Vl:St.length<=1000)
 (hok:∀ j,j<St.length->∀ i,i<(St.getD j (0,[])).2.length->(St.getD j (0,[])).1+i<s.F.length/\((St.getD j (0,[])).2.getD i []).length=256) (Ha:∀ j,j<St.length->(St.getD j (0,[])).1<=1000/\(St.getD j (0,[])).2.length<=1000):
 AA Ae 167 #[p,E (I ⟨b,off,J⟩) St.length cap] w (RunQ (Gk St) w P p s):=by
 have hlen:=fun A=>FL A s
 have rv:∀ j,j<St.length->(Gk (St.take j)).length+(St.getD j (0,[])).2.length+1<=1000:=fun j hj=>by
  have:=BH List.length (VN St j hj).1;simp only[Ax,Ig,Ch,List.length_nil] at this;unfold qd at hSt;omega
 have KW:=vJ (fun j (hj:j<St.length) i (hi:i<(St.getD j (0,[])).2.length) W Pk (hd:Dk W Pk p (BP (Gk (St.take j) ++ (J8 (St.getD j (0,[])).1 (St.getD j (0,[])).2).take i) s).2) v (hv:BSl W v ((St.getD j (0,[])).2.getD i []))=>kG hd ((St.getD j (0,[])).1+i) (by
  have h1:=(hok j hj i hi).1;have h3:=(hlen (Gk (St.take j) ++ (J8 (St.getD j (0,[])).1 (St.getD j (0,[])).2).take i)).1;omega) hv (hok j hj i hi).2 (by
  have h1:=(hlen (Gk (St.take j) ++ (J8 (St.getD j (0,[])).1 (St.getD j (0,[])).2).take i)).2;have h2:=rv j hj;rw[Ax,AK,Ig] at h1;omega))
 have KF:=vJ (fun j (hj:j<St.length) W Pk (hd:Dk W Pk p (BP (Gk (St.take j) ++ J8 (St.getD j (0,[])).1 (St.getD j (0,[])).2) s).2)=>Ug hd (by
  have h1:=(hlen (Gk (St.take j) ++ J8 (St.getD j (0,[])).1 (St.getD j (0,[])).2)).2;have h2:=rv j hj;rw[Ax,Ig] at h1;omega))
 have HGT:=vJ (fun j hj=>VN St j hj);have HL:=vJ (fun j (hj:j<St.length) i (hi:i<(St.getD j (0,[])).2.length)=>(hok j hj i hi).2);have HAT:=vJ Ha;have HS:=vJ (fun W P' (hc:Chg P P' w W)=>hs.chg hc);have HD0:=vJ (fun W (hb:At w.heap.size w W)=>h.below hb);have HST:Hid (∃ Pk,Dk w Pk p (BP (Gk (St.take 0)) s).2/\Chg P Pk w w):=vJ ⟨P,h,Chg.refl P w⟩;have HFULL:Hid (Gk (St.take St.length)=Gk St):=vJ (by rw[B8]);obtain⟨bp,rfl⟩:=h.ptr;obtain⟨A,hA⟩:=nm (Gk St);rw[<- hA] at HGT HFULL |-
 obtain⟨n,hn⟩:=nm St.length;rw[<- hn] at KW KF HGT HL HAT HFULL Vl |-
 have HN:=vJ hn;clear h hs hok Ha hlen rv hSt hU hA hn;go_enter Tryz.func167,Tryz.ntmps167;go_wp2;go_loopw [13] (fun t wr=>∃ j:Nat,j<=n/\t=O Ad j/\Hid ((BP (Gk (St.take j)) s).1=0)/\Hid (∃ Pk,Dk wr Pk (Am (I ⟨bp,0,J⟩)) (BP (Gk (St.take j)) s).2/\Chg P Pk w wr)) (fun t _=>n-(intOf t).toNat)
 case atStart=>exact⟨0,by omega,rfl,vJ (by rw[List.take_zero];rfl),HST⟩
 case round=>
  obtain⟨j,hj,rfl,HR,HSJ⟩:=hrel;clear HST;obtain⟨Pk,hdk,hck⟩:=HSJ.out;by_cases hlt:j<n
  . obtain⟨hb,IH,CX⟩:=HS.out _ _ hck
    obtain⟨ao,dc,x0,x1,hbb⟩:=CX j (by rw[<- HN.out];exact hlt);have hbl:=fun k hk=>hdk.lt k hk
    have HAJ:=HAT.out j hlt;have HGJ:=vJ (HGT.out j hlt);have HLJ:=vJ (HL.out j hlt);have KWJ:=vJ (KW.out j hlt);have KFJ:=vJ (KF.out j hlt);obtain⟨a,ha⟩:=nm ((St.getD j (0,[])).1);obtain⟨bs,hbs⟩:=nm ((St.getD j (0,[])).2);rw[<- ha] at x0 HAJ HGJ KWJ KFJ;rw[<- hbs] at x1 hbb HAJ HGJ HLJ KWJ KFJ;obtain⟨X,hX⟩:=nm (Gk (St.take j));rw[<- hX] at hdk HR HGJ KWJ KFJ;obtain⟨m,hm⟩:=nm bs.length;rw[<- hm] at x1 HAJ HLJ KWJ hbb;obtain⟨ha1,hm1⟩:=HAJ;have HWF:Hid ((J8 a bs).take m=J8 a bs):=vJ (AV (by rw[Ig,hm];exact AB _));have HWG:=vJ (fun i (hi:i<m)=>mi a bs i (by rw[<- hm];exact hi));have HBB:=vJ (fun W P' (hc:Chg Pk P' wr W)=>by have:=(hbb.chg hc).sl.open';rw[<- hm] at this;exact this);have ej:(j:Int)<(n:Int):=(by omega);have HCK:=vJ hck;have HDK:=vJ hdk;have HBL:=vJ hbl;have tP:=Aw wr (Ar #[O Ad 0,E J 0 0] 236);have hbsx:=Ay wr (Ar #[O Ad 0,E J 0 0] 236);clear hb IH CX hbb ha hbs hX hm hck hdk hbl
    go_wp2_with (with_reducible refine PX rfl 236 qI (.tmp 6) (.tmp 16) rfl wr.heap.size rfl _ _ _ _ rfl rfl rfl _ tP ?_;intro w3 hw3 hr3
                 have HB3:=vJ (hbsx.trans (hw3.below (AB _)));have y0:w3.cell? ⟨wr.heap.size,0,J⟩=I (O Ad (a:Nat)):=(by rw[Az _ _ _ _ _ _ hr3];rfl);have y1:w3.cell? ⟨wr.heap.size,1,J⟩=I (E ao m dc):=(by rw[Az _ _ _ _ _ _ hr3];rfl);have J7:=(Al.1 hr3).1;clear tP hbsx hw3 hr3)
    obtain⟨d,hd⟩:=nm wr.heap.size;rw[<- hd] at y0 y1 J7 |-
    have HND:Hid (¬ Pk d):=vJ (fun hp=>by have:=HBL.out _ hp;omega);have HC0:=vJ (fun W P' (hc:Chg Pk P' w3 W)=>(hc.cell (i:=0) J7 HND.out).trans y0);have HCW:=vJ (fun W P' (hc:Chg Pk P' w3 W)=>(Chg.of_below (P:=Pk) HB3.out).trans hc);have HSI:Hid (∃ Pi,Dk w3 Pi (Am (I ⟨bp,0,J⟩)) (BP (X ++ (J8 a bs).take 0) s).2/\Chg Pk Pi w3 w3):=vJ ⟨Pk,by rw[List.take_zero,BB];exact HDK.out.below HB3.out,Chg.refl Pk w3⟩;have HRI:Hid ((BP (X ++ (J8 a bs).take 0) s).1=0):=vJ (by rw[List.take_zero,BB];exact HR.out);clear x0 x1 y0 y1 J7 hd;go_loopw [20] (fun t wi=>∃ i:Nat,i<=m/\t=O Ad i/\Hid ((BP (X ++ (J8 a bs).take i) s).1=0)/\Hid (∃ Pi,Dk wi Pi (Am (I ⟨bp,0,J⟩)) (BP (X ++ (J8 a bs).take i) s).2/\Chg Pk Pi w3 wi)) (fun t _=>m-(intOf t).toNat)
    case atStart=>exact⟨0,by omega,rfl,HRI,HSI⟩
    case round=>
     obtain⟨i,hi,rfl,HR2,HS2⟩:=hrel;clear HSI HRI;obtain⟨Pi,tQ,oN⟩:=HS2.out;by_cases hli:i<m
     . have y0:=HC0.out _ _ oN
       obtain⟨ao',dc',e2,_,q2⟩:=HBB.out _ _ (HCW.out _ _ oN);obtain⟨rfl,rfl⟩:=And.intro (A0 e2).1 (A0 e2).2.2;obtain⟨b2,o2,rfl,_,c2⟩:=q2 (by omega);obtain⟨x,z2,hx⟩:=c2 i hli;have KC:=vJ (KWJ.out i hli _ _ tQ _ hx);obtain⟨xo,xc,rfl,_⟩:=hx.shape;rw[HLJ.out i hli] at z2 KC;have e3:((a+i:Nat):Int)=(a:Int)+(i:Int):=(by push_cast;rfl);rw[e3] at KC;have ei:(i:Int)<(m:Int):=(by omega);have HGI:=vJ (HWG.out i hli);have HCI:=vJ oN;clear e2 e3 q2 c2 hx tQ oN;cases hok:(BP (X ++ (J8 a bs).take i) s).2.ok
       . rw[hok,AE CH,AE CH] at KC
         have HOK:=vJ hok;clear hok;go_wp2_with (go_at_call 149;(with_reducible refine KC.out.mono ?_);rintro e w5 ⟨rfl,P5,cI,TX⟩)
         go_ret;have e6:A=(X ++ (J8 a bs).take i) ++ .w (a+i) (bs.getD i []) :: ((J8 a bs).drop (i+1) ++ [.f] ++ Gk (St.drop (j+1))):=by
          rw[HGJ.out.1]
          conv=>lhs;rw[HGI.out.1]
          simp only[AQ,List.cons_append]
         rw[e6];exact RunQ.stop HR2.out HOK.out cI (HCK.out.trans (HCW.out _ _ (HCI.out.trans TX)))
       . rw[hok,AC rfl,AC rfl] at KC
         have HOK:=vJ hok;clear hok;go_wp2_with (go_at_call 149;(with_reducible refine KC.out.mono ?_);rintro e w5 ⟨rfl,P5,cI,TX⟩)
         go_roundw
         case rel=>
          have e5:X ++ (J8 a bs).take (i+1)=(X ++ (J8 a bs).take i) ++ [.w (a+i) (bs.getD i [])]:=(by rw[HGI.out.2,AQ]);refine⟨i+1,by omega,by go_num,vJ ?_,vJ ⟨P5,?_,HCI.out.trans TX⟩⟩
          . rw[e5,GK HR2.out HOK.out]
          . rw[e5,GK HR2.out HOK.out];exact cI
         case measure=>simp[intOf];omega
     . obtain rfl:i=m:=by omega
       rw[HWF.out] at tQ HR2;have KC:=vJ (KFJ.out _ _ tQ);have HCI:=vJ oN;clear tQ oN;cases hok:(BP (X ++ J8 a bs) s).2.ok
       . rw[hok,AE CH,AE CH] at KC
         have HOK:=vJ hok;clear hok;go_wp2_with (go_at_call 104;(with_reducible refine KC.out.mono ?_);rintro e w5 ⟨rfl,P5,cI,TX⟩)
         go_ret;have e6:A=(X ++ J8 a bs) ++ .f :: Gk (St.drop (j+1)):=by
          rw[HGJ.out.1];simp only[AQ,List.cons_append,B0]
         rw[e6];exact RunQ.stop HR2.out HOK.out cI (HCK.out.trans (HCW.out _ _ (HCI.out.trans TX)))
       . rw[hok,AC rfl,AC rfl] at KC
         have HOK:=vJ hok;clear hok;go_wp2_with (go_at_call 104;(with_reducible refine KC.out.mono ?_);rintro e w5 ⟨rfl,P5,cI,TX⟩)
         go_roundw
         case rel=>
          have e5:Gk (St.take (j+1))=(X ++ J8 a bs) ++ [.f]:=(by rw[HGJ.out.2,AQ]);refine⟨j+1,by omega,by go_num,vJ ?_,vJ ⟨P5,?_,HCK.out.trans (HCW.out _ _ (HCI.out.trans TX))⟩⟩
          . rw[e5,GK HR2.out HOK.out]
          . rw[e5,GK HR2.out HOK.out];exact cI
         case measure=>simp[intOf];omega
  . obtain rfl:j=n:=by omega
    clear HGT;go_wp2;go_ret;rw[HFULL.out] at HR HSJ;obtain⟨Pk,hdk,hck⟩:=HSJ.out;exact RunQ.done HR.out hdk hck
end
end Go.Proofs.YtdefiimcmecnnaaGreat
