/- What the law rests on. -/
import Derived.RangeFuncFrom
import Derived.Laws.Externs
import Derived.Test.YtfpdajplfmakhaaGreatDoorQC9
open Go.Value renaming int->J,slice->X,pointer->Al,tuple->AH,bool->AP,agg->BN
open Go.IntKind renaming i64->H
open Go.Proofs.Tryz renaming prog->R
open Option renaming none->Z,some->G
open Go renaming World->V,Value->L,Calls->f,Oper->F,strOfNums->BX,wpList->Cf,TypeId->Cg
open Go.Ending renaming returned->Aj
open Go.Obj renaming cells->U
open Go.RowKit renaming Below->I
open List renaming replicate->Aw,range->Bu
open Bool renaming false->Ay,true->N
open Array renaming replicate->AK
open Or renaming inl->AU,inr->AW
open Int renaming toNat_natCast->Cd
namespace Go.Proofs.YtfpdajplfmakhaaGreatDoor
set_option maxHeartbeats 12000000
set_option linter.unusedVariables false
set_option maxRecDepth 100000
section
open Go.RowKit
theorem dQ(i:Int)(s:ByteArray)(h:Fl (i,s)=N)(w:V):f R 138 #[BN #[J H i,.string s]] w (JQ w (WW (i,s))):=by
 have hn:=Qc h;have hl:s.size<=13:=(DK h).2;have hi0:1<=i:=hn.1;have hi1:i<48:=hn.2.1;have HP:=wM (fL (i,s) hl);have te:IntKind.u64.wrap i=i:=IntWalk.u64_in _ (by omega);have tB:IntKind.u64.wrap (s.size:Int)=(s.size:Int):=IntWalk.u64_in _ (by omega);have K1:=wM (fun W=>FK (Kt W) (by simp) i 2 2 (by omega) (by omega) rfl (by omega) (by omega));have K2:=wM (fun W v (hv:BSl W v ([] ++ BT i 2))=>FK hv (by simp[Bc]) (s.size:Int) 1 1 (by omega) (by omega) rfl (by omega) (by omega));have HLE:Hid ((([] ++ BT i 2) ++ BT (s.size:Int) 1).length+s.size<=1000000):=wM (by simp[Bc];omega);have hb1:=As w (U #[J H i,.string s] 75);have Fe:=Ar w (U #[J H i,.string s] 75);obtain⟨W1,hW1⟩:=nm (w.alloc (U #[J H i,.string s] 75));rw[<- hW1] at hb1 Fe;have H1:Hid (w.alloc (U #[J H i,.string s] 75)=W1):=wM hW1.symm;have Ed:w.heap.size<W1.heap.size:=by rw[hW1];simp
 have HC1:Hid (W1.cell? ⟨w.heap.size,1,Z⟩=G (.string s)):=wM (by rw[Aq _ _ _ _ _ _ Fe];rfl);have HB1:=wM hb1;clear hn h hW1 Fe hb1;go_enter Tryz.func138,Tryz.ntmps138
 go_wp2_with (first
  |(go_at_call 133;rw[H1.out];(with_reducible refine(K1.out _).mono ?_);rintro e w2 ⟨v2,rfl,hob2,hb2⟩
    have c2:=(hb2.cell (p:=⟨w.heap.size,1,Z⟩) Ed).trans HC1.out;have HB2:=wM (HB1.out.trans (hb2.mono (Ct Ed)));have NO:=AA Ed hb2.size)
  |(go_at_call 133;(with_reducible refine(K2.out _ _ hob2.bsl).mono ?_);rintro e w3 ⟨v3,rfl,hob3,hb3⟩
    have c3:=(hb3.cell (p:=⟨w.heap.size,1,Z⟩) NO).trans c2;have HB3:=wM (HB2.out.trans (hb3.mono HB2.out.size)))
  |(at_builtin;refine Ir w3 rfl (.tmp 14) (.tmp 16) rfl w.heap.size _ (([] ++ BT i 2) ++ BT (s.size:Int) 1) rfl (hob3.more HB2.out.size) s rfl HLE.out HB3.out.size ?_
    intro v4 w4 hob4 hb4))
 go_ret;exact⟨_,rfl,by rw[HP.out];exact hob4,HB3.out.trans hb4⟩
theorem Rj{ops:Array F}{o:F}{a:Act}{w:V}{K:Act->V->Prop}{Q:Exit->Act->V->Prop}{E:Prop}(Du:o.guard=Z)(d s:Operand)
 (ho:o.op=.call { callee:=.builtin .copy,args:=#[d,s],argTypes:=#[77,77] })
 (g off dLen dCap:Nat) (hd:a.eval d=X (G ⟨g,off,Z⟩) dLen dCap) (u:L) (m:List Int) (hs:a.eval s=u) (hr:BSl w u m) (hm:0<m.length)
 (cur:List Int) (hg:w.heap[g]? =G (U (cur.map (J .u8)).toArray 5 (0,0))) (Lo:m.length<=dLen) (GZ:off+m.length<=cur.length)
 (h:∀ w',w'.heap[g]? =G (U ((splice cur off m).map (J .u8)).toArray 5 (0,0))->Wrote w w' g->K (a.put o.dst (goInt m.length)) w'):
 if Region.wanted o (yielded ops a.tmps)=N then F.wp R o a w K Q else E:=by
 have hw:Region.wanted o (yielded ops a.tmps)=N:=by simp[Region.wanted,Du]
 rw[Au hw];obtain⟨ao,cap,rfl,Cx⟩:=hr.shape;cases ao with
 |none=>
  rcases hr.2 with⟨_,hl⟩| ⟨_,_,hv,_⟩
  . rw[hl] at hm;simp at hm
  . simp at hv
 |some ad=>
  have Dc:∀ j v,(m.map (J .u8))[j]? =G v->w.cell? (ad.add j)=G v:=by
   intro j v hj;have MV:j<m.length:=by simpa using (Bb.1 hj).1
   obtain⟨ad',he,hc⟩:=Fi hr (fun _ _=>rfl) m.length (by simp;omega);obtain rfl:ad=ad':=by simpa using he
   exact hc j v (by simpa using hj)
  have CX:=run_copy_row (P:=R) w 77 77 o.type 5 g off dLen dCap ad m.length cap (cur.map (J .u8)).toArray 5 (m.map (J .u8)) Tryz.underlying77 (by kernel_rfl) hg (by rw[Ba];exact(FL Lo).symm) Dc (by simpa using GZ) (ints_oneCell _ _);unfold F.wp;simp[execOp,ho,resolve,invoke,builtin,hd,hs,CX,Result.andThen];have e:(List.take off (cur.map (J .u8)) ++ ((m.map (J .u8)) ++ List.drop (off+m.length) (cur.map (J .u8))))=(splice cur off m).map (J .u8):=by
   simp[splice]
  refine h _ ?_ (Wrote.setRow _ _ _);rw[CC w g _ _ 5 _ hg,<- e]
def LK(O:List (Int × ByteArray))(k:Nat):List Int:=J4 O k ++ Aw (256-16*k) 0
theorem eX(O:List (Int × ByteArray)):LK O 0=Aw 256 0:=by
 show([]:List Int) ++ Aw (256-16*0) 0=_
 rw[List.nil_append]
theorem c8(O:List (Int × ByteArray)):LK O O.length=JD O:=by unfold LK JD;rw[XM]
theorem VH{O:List (Int × ByteArray)}(k:Nat)(hk:k<=O.length)(NX:k<=16)(h:∀ j,j<k->Fl (O.getD j default)=N):(LK O k).length=256:=by
 unfold LK;rw[AD,L4 k hk h,A3];omega
theorem lk{O:List (Int × ByteArray)}(k:Nat)(hk:k<O.length)(NX:k<16)(h:∀ j,j<k->Fl (O.getD j default)=N)(x:Int × ByteArray)(hx:x=O.getD k default)(hf:Fl x=N):
 splice (LK O k) (k*16) (WW x)=LK O (k+1):=by
 have hl:=L4 k (Ct hk) h;have hn:=DK hf;have hh:=LO x;unfold LK;rw[X3 k hk,<- hx];simp only[splice];rw[show k*16=(J4 O k).length by omega,List.take_left,A7];congr 1;rw[List.drop_length_add_append,List.drop_replicate,Ei,A7];congr 1;rw[List.replicate_append_replicate];congr 1;omega
theorem iM{O:List (Int × ByteArray)}(k:Nat)(h:∀ j,j<k->Fl (O.getD j default)=N):Fv (LK O k):=DL (ff k h) (C4 _)
def pW(O:List (Int × ByteArray))(w:V)(e:Ending)(w':V):Prop:=
 (Kg O=N/\∃ u,e=Aj (AH #[u,J H 0])/\OB w' w.heap.size u (JD O)/\I w.heap.size w w')\/
 (Kg O=Ay/\e=Aj (AH #[X Z 0 0,J H 1])/\I w.heap.size w w')
theorem b6{w:V}(ao:Option Addr)(len cap:Nat)(h:16<len):f R 101 #[X ao len cap] w fun e w'=>e=Aj (AH #[X Z 0 0,J H 1])/\w=w':=by
 have h2:16<(len:Int):=by omega
 go_enter Tryz.func101,Tryz.ntmps101;go_wp2;go_ret2;exact⟨rfl,rfl⟩
theorem jw{O:List (Int × ByteArray)}(hl:O.length<=16)(h:∀ j,j<O.length->Fl (O.getD j default)=N):Kg O=N:=
 Pq hl fun x hx=>by
  obtain⟨j,hj,rfl⟩:=Cw hx;have:=h j hj;have e2:O.getD j default=O[j]:=by simp[hj]
  rw[<- e2];exact this
theorem rG(w:V)(M:Nat)(hM:M=256)(O:List (Int × ByteArray)):(w.alloc (U (AK M (J .u8 0)) 5)).heap[w.heap.size]? =G (U ((LK O 0).map (J .u8)).toArray 5 (0,0)):=by
 have e:LK O 0=Aw M 0:=by rw[hM];exact eX O
 rw[Ar,e,List.map_replicate];simp
theorem oU{w:V}{B g M:Nat}{l:List Int}(hb:Fv l)(hM:l.length=M)(SJ:M<=1000)(hB:B<=g)(h:w.heap[g]? =G (U (l.map (J .u8)).toArray 5 (0,0))):OB w B (X (G ⟨g,0,Z⟩) M M) l:=by
 subst hM;exact OB.of_heap (rest:=[]) hb hB (by rw[BW];exact h) rfl (by unfold maxLen;omega)
theorem gZ{w:V}{v:L}{O:List (Int × ByteArray)}(hs:ESl w v O)(NX:O.length<=16):f R 101 #[v] w (pW O w):=by
 obtain⟨ao,cap,rfl,hc⟩:=hs.open';obtain⟨M,M7⟩:∃ M:Nat,M=256:=⟨_,rfl⟩;have HMI:Hid ((256:Int)=(M:Int)):=wM (by omega);have HMN:Hid (M=256):=wM M7;have SJ:M<=1000:=by omega
 have HYE:=wM (fun h=>jw NX h);have HNO:=wM (fun k hk h=>mP (O:=O) k hk h);have HSE:=wM (fun k hk h1 h x hx hf=>lk (O:=O) k hk h1 h x hx hf);have HLN:=wM (fun k hk h1 h=>VH (O:=O) k hk h1 h);have HBY:=wM (fun k h=>iM (O:=O) k h);have HFU:=wM (c8 O);have HR0:=wM (rG w M M7 O);obtain⟨n,hn⟩:=nm O.length;rw[<- hn] at hc NX HYE HNO HSE HLN HFU |-
 have HC:=wM hc;have h16i:¬ 16<(n:Int):=by omega
 clear hs hc M7 hn;go_enter Tryz.func101,Tryz.ntmps101;go_wp2_with (at_make;refine Dx _ rfl _ _ rfl 256 256 M M rfl rfl HMI.out HMI.out (At _) (by omega) ?_)
 have NU:I w.heap.size w (w.alloc (U (AK M (J .u8 0)) 5)):=As _ _;have hr3:=HR0.out;have I9:w.heap.size<(w.alloc (U (AK M (J .u8 0)) 5)).heap.size:=by simp
 obtain⟨g,hg⟩:=nm w.heap.size;rw[<- hg] at hr3 I9 |-
 have HG:=wM hg;have sJ:I g w (w.alloc (U (AK M (J .u8 0)) 5)):=by rw[hg];exact NU
 clear HR0 hg NU;generalize w.alloc (U (AK M (J .u8 0)) 5)=w3 at hr3 I9 sJ |-
 have HR3:=wM hr3;clear hr3;go_loopw [13] (fun i wr=>∃ k:Nat,k<=n/\i=J H k/\Hid (wr.heap[g]? =G (U ((LK O k).map (J .u8)).toArray 5 (0,0)))/\Hid (∀ j,j<k->Fl (O.getD j default)=N)/\I g w wr/\g<wr.heap.size) (fun i _=>n-(intOf i).toNat)
 case atStart=>exact⟨0,by omega,rfl,HR3,fun j hj=>absurd hj (A9 _),sJ,I9⟩
 case round=>
  obtain⟨k,hk,rfl,HROW,HK,hbr,Uz⟩:=hrel;clear HR3 sJ I9;by_cases hlt:k<n
  . obtain⟨b,off,rfl,hb,hcc⟩:=HC.out (by omega)
    have hck:=hcc k hlt;have CU:=HNO.out k hlt;have qt:=HSE.out k hlt (by omega) HK.out;have hln:=HLN.out k hk (by omega) HK.out;obtain⟨⟨x,y⟩,hx⟩:∃ x,x=O.getD k default:=⟨_,rfl⟩;rw[<- hx] at hck CU;have sK:=qt _ hx;rw[<- HG.out] at hb;have c1:=(hbr.cell (p:=⟨b,off+k*2,Z⟩) hb).trans hck.1;have c2:=(hbr.cell (p:=⟨b,off+k*2+1,Z⟩) hb).trans hck.2;have ek:(k:Int)<(n:Int):=(by omega);have HX:=wM hx;have HN1:=wM CU;have HS1:=wM sK;have HL1:=wM hln;cases hf:Fl (x,y)
    . have HF:=wM hf
      have KF:=wM (fun W=>L3 x y Ay hf W);clear hx hcc hck CU qt sK hln hf;go_wp2_with (go_at_call 52;refine(KF.out _).mono ?_;rintro e w5 ⟨rfl,hb5⟩)
      go_ret2;have HB:=(hbr.trans ((As wr (U #[J H x,.string y] 75)).mono (Ct Uz))).trans (hb5.mono (by simp;omega));exact AW ⟨HN1.out HF.out,rfl,by rw[<- HG.out];exact HB⟩
    . have HF:=wM hf
      have KF:=wM (fun W=>L3 x y N hf W);have KW:=wM (fun W=>dQ x y hf W);have HHL:Hid ((WW (x,y)).length<=16/\0<(WW (x,y)).length):=wM (by have:=DK hf;rw[LO];omega);have hk16:k*16+16<=M:=(by have:=HMN.out;omega);have hsl:∀ W:V,(Instr.slice 77 (X (G ⟨g,0,Z⟩) M M) (G (J H ((k:Int)*16))) Z Z).run R W=.ok (X (G ⟨g,k*16,Z⟩) (M-k*16) (M-k*16)) W:=fun W=>by
       have:=Gg W g 0 M M (k*16) M Z (AU ⟨rfl,rfl⟩) (by omega) (At _) (by omega);have ee:R.elem 77=5:=(by kernel_rfl);rw[Br,Int.natCast_mul,run_sliceAt_slice W 77 _ _ _ _ (by rw[ee];exact Tryz.underlying77)] at this;exact this
      clear hx hcc hck CU qt sK hln hf
      go_wp2_with (first|(go_at_call 52
                          have hbx:=As wr (U #[J H x,.string y] 75);have Q5:=Ar wr (U #[J H x,.string y] 75);have vn:wr.heap.size<(wr.alloc (U #[J H x,.string y] 75)).heap.size:=(by simp);generalize wr.alloc (U #[J H x,.string y] 75)=W5 at hbx Q5 vn |-
                          refine(KF.out _).mono ?_;rintro e w6 ⟨rfl,hb6⟩))
      have c50:W5.cell? ⟨wr.heap.size,0,Z⟩=G (J H x):=(by rw[Aq _ _ _ _ _ _ Q5];rfl);have c51:W5.cell? ⟨wr.heap.size,1,Z⟩=G (.string y):=(by rw[Aq _ _ _ _ _ _ Q5];rfl);have d0:w6.drew.cell? ⟨wr.heap.size,0,Z⟩=G (J H x):=(hb6.cell (p:=⟨wr.heap.size,0,Z⟩) vn).trans c50;have d1:w6.drew.cell? ⟨wr.heap.size,1,Z⟩=G (.string y):=(hb6.cell (p:=⟨wr.heap.size,1,Z⟩) vn).trans c51;have hb06:I wr.heap.size wr w6.drew:=AM (hbx.trans (hb6.mono hbx.size)) 1;have HB6:=wM hb06;have HR6:Hid (w6.drew.heap[g]? =G (U ((LK O k).map (J .u8)).toArray 5 (0,0))):=wM ((hb06.block g Uz).trans HROW.out);have hg6:g<w6.drew.heap.size:=AA Uz hb06.size;have qv:wr.heap.size<w6.drew.heap.size:=AA vn hb6.size;obtain⟨q,hq⟩:=nm wr.heap.size;rw[<- hq] at d0 d1 qv |-
      have hgq:q≠g:=(by omega);have GZ:k*16+(WW (x,y)).length<=(LK O k).length:=(by have:=HHL.out.1;have:=HMN.out;rw[HL1.out];omega);have Lo:(WW (x,y)).length<=M-k*16:=(by have:=HHL.out.1;omega);have HFIT:=wM GZ;have hmul:H.wrap ((k:Int)*16)=(k:Int)*16:=Bq _ (by omega);have HLE:=wM Lo;clear c50 c51 Q5 hbx vn hb6 hb06 hq GZ Lo c1 c2
      go_region_held3 (fun W=>W.cell? ⟨q,0,Z⟩=G (J H x)/\W.cell? ⟨q,1,Z⟩=G (.string y)) (first|exact⟨f0,f1⟩|exact⟨e0,e1⟩|exact⟨d0,d1⟩) (first
       |(go_at_call 138;(with_reducible refine(KW.out _).mono ?_);rintro e w7 ⟨v7,rfl,hob7,hb7⟩
         have HB7:=wM (HB6.out.trans (hb7.mono HB6.out.size));have NT:=(hb7.block g hg6).trans HR6.out;have HR7:=wM NT;have e0:=(hb7.cell (p:=⟨q,0,Z⟩) qv).trans d0;have e1:=(hb7.cell (p:=⟨q,1,Z⟩) qv).trans d1;clear NT)
       |(refine Rj rfl (.tmp 24) (.tmp 26) rfl g (k*16) (M-k*16) (M-k*16) rfl v7 (WW (x,y)) rfl hob7.bsl HHL.out.2 (LK O k) HR7.out HLE.out HFIT.out ?_
         intro w8 gE hw8;have f0:w8.cell? ⟨q,0,Z⟩=G (J H x):=(by simp only[V.cell?];rw[hw8.2.2.2.2 q hgq];exact e0);have f1:w8.cell? ⟨q,1,Z⟩=G (.string y):=by simp only[V.cell?];rw[hw8.2.2.2.2 q hgq];exact e1))
      go_wp2;go_roundw
      case rel=>
       have HB8:=(hbr.trans (HB7.out.mono (Ct Uz))).trans (hw8.below (At g));refine⟨k+1,by omega,by go_num,?_,fun j hj=>?_,HB8,?_⟩
       . show w8.heap[g]? =_
         rw[<- HS1.out HF.out];exact gE
       . by_cases e:j=k
         . subst e;rw[<- HX.out];exact HF.out
         . exact HK.out j (by omega)
       . exact AA Uz (AI HB7.out.size (by rw[hw8.2.2.2.1];exact At _))
      case measure=>simp[intOf];omega
  . obtain rfl:k=n:=by omega
    have hln:=HLN.out k hk (by omega) HK.out;have hrow:=HROW.out;have hby:=HBY.out k HK.out;rw[HFU.out] at hrow hln hby;have HOB:=wM (oU (B:=w.heap.size) hby (hln.trans HMN.out.symm) SJ (by rw[HG.out];exact At _) hrow);have HBG:=wM (show I w.heap.size w wr by rw[<- HG.out];exact hbr);clear hln hrow hby;go_wp2;go_ret2;exact AU ⟨HYE.out HK.out,_,rfl,HOB.out,HBG.out⟩
theorem Mz{w:V}{v:L}{O:List (Int × ByteArray)}(hs:ESl w v O):f R 101 #[v] w (pW O w):=by
 by_cases h:O.length<=16
 . exact gZ hs h
 . obtain⟨ao,cap,rfl⟩:=hs.shape
   exact(b6 ao _ cap (by omega)).mono fun e w' ⟨he,hw⟩=>AW ⟨bR (by omega),he,by rw[<- hw];exact AC _ _⟩
theorem RP:(R.info? 75).map (·.size)=G 2:=by kernel_rfl
theorem GS{ops:Array F}{rest:List F}{o:F}{a:Act}{w:V}{Q:Exit->Act->V->Prop}(Du:o.guard=Z)(ty:Cg)(hi:(R.info? ty).map (·.size)=G 2)(x y:Operand)(ho:o.op=.store ty x y)
 (g:Nat) (hx:a.eval x=Al (G ⟨g,0,Z⟩)) (p q p' q':L) (hy:a.eval y=BN #[p,q]) (hp:p.oneCell'=N) (hq:q.oneCell'=N) (T:Cg) (hg:w.heap[g]? =G (U #[p',q'] T (0,0)))
 (h:∀ w',Wrote w w' g->w'.heap[g]? =G (U #[p,q] T (0,0))->Cf R ops Q rest (a.put o.dst undef) w'):Cf R ops Q (o :: rest) a w:=
 C0 Du ty x y ho g #[p,q] hx hy T _ hg hi rfl (by simp[hp,hq]) (h _ (Wrote.setRow _ _ _) (CC _ _ _ _ _ _ hg))
theorem JX{fn:Func}{p u:Tmp}{ty:Cg}{fs}(h:fn.results=#[.cell p ty,.tmp u])(hu:R.underlying ty=G (.struct fs))(hi:(R.info? ty).map (·.size)=G 2)
 (tmps:Array L) (w:V) (g:Nat) (T:Cg) (a b x:L) (hp:tmps.getD p undef=Al (G ⟨g,0,Z⟩)) (hg:w.heap[g]? =G (U #[a,b] T (0,0))) (hx:tmps.getD u undef=x):
 (results fn tmps).run R w=.ok (AH #[BN #[a,b],x]) w:=by
 rw[results_cell_tmp h,hp,hx];simp only[asAddr,Sem.run_pure,Result.andThen_ok];rw[run_loadVar_row w g T ty _ (0,0) _ hg hu rfl (by rw[hi];rfl)];rfl
theorem kt{w:V}{v:L}{c:List Int}(hs:BSl w v c)(hc:c.length<=100000)(a k:Nat)(A K:Int)(hA:A=a)(hK:K=k)(Oq:1<=k)(hk:k<=8)(ha:a+k<=c.length)(y:Int)(hy:y=Cl c a k):
 f R 183 #[v,J H A,J H K] w fun e w'=>e=Aj (AH #[J .u64 y,AP N])/\w=w':=by
 subst hA hK;have hg:=MC hs (by omega) (a:Int) k (by omega) (by omega);have hn:PI c (a:Int) k=y:=by unfold PI;rw[Au (by omega),hy];rfl
 have hb:dh c (a:Int) k=N:=Az (by omega);rw[hn,hb] at hg;exact hg
theorem cR{c:List Int}(hc:3<=c.length):c.getD 2 0=Cl c 2 1:=by
 rw[Ss c 2 0 (by omega),RG];omega
theorem nr{W:V}{b off cap n:Nat}{c:List Int}(hs:BSl W (X (G ⟨b,off,Z⟩) c.length cap) c)(hn:3+n<=c.length):
 (convert 77 9 (X (G ⟨b,off+3,Z⟩) n (cap-3))).run R W=.ok (.string (BX ((c.drop 3).take n))) W:=Ig (hs.mid 3 n hn)
theorem ke{w:V}{v:L}{c:List Int}(hs:BSl w v c)(hc:c.length=16):
 (¬ SV c->f R 200 #[v] w fun e w'=>(∃ i s,e=Aj (AH #[BN #[J H i,.string s],AP Ay]))/\I w.heap.size w w')/\
 (SV c->f R 200 #[v] w fun e w'=>e=Aj (AH #[BN #[J H (ou c).1,.string (ou c).2],AP N])/\I w.heap.size w w'):=by
 obtain⟨b,off,cap,rfl,Cx,hb⟩:=hs.open' (by omega);have hb1:=As w (U #[J H 0,.string ⟨#[]⟩] 75);have Fe:=Ar w (U #[J H 0,.string ⟨#[]⟩] 75);obtain⟨W1,hW1⟩:=nm (w.alloc (U #[J H 0,.string ⟨#[]⟩] 75));rw[<- hW1] at hb1 Fe;have H1:Hid (w.alloc (U #[J H 0,.string ⟨#[]⟩] 75)=W1):=wM hW1.symm;have IL:=hs.below hb1;have hx0:=EL (C3 hs.1) 0 2;have qu:=hs.1 2;have WQ:=fun n=>nr (n:=n) IL
 have e65:(256:Int) ^ 2=65536:=rfl;unfold SV ou;rw[e65] at hx0;obtain⟨x,hx⟩:=nm (Cl c 0 2);obtain⟨y,hy⟩:=nm (c.getD 2 0);have G1:=wM (kt IL (by omega) 0 2 0 2 rfl rfl (by omega) (by omega) (by omega) x hx);have G2:=wM (kt IL (by omega) 2 1 2 1 rfl rfl (by omega) (by omega) (by omega) y (by rw[hy];exact cR (by omega)));have u1:=Tryz.underlying75;have HB1:=wM hb1;rw[<- hx] at hx0 |-
 rw[<- hy] at qu |-
 dsimp only
 rw[hc] at G1 G2 Cx WQ |-
 clear hs IL hW1 hx hy hb1 e65;refine⟨fun CU=>?_,fun hok=>?_⟩
 . have hor:y<1\/13<y:=by omega
   clear CU WQ;rcases hor with h|h
   . go_enter Tryz.func200,Tryz.ntmps200
     go_wp2_with (first
      |(go_at_call 183;rw[H1.out];(with_reducible refine G1.out.mono ?_);rintro e w2 ⟨rfl,rfl⟩)
      |(go_at_call 183;(with_reducible refine G2.out.mono ?_);rintro e w2 ⟨rfl,rfl⟩)
      |(with_reducible refine GS rfl 75 RP (.tmp 2) (.tmp 24) rfl w.heap.size rfl _ _ _ _ rfl rfl rfl _ Fe ?_;intro w3 hw3 hr3))
     exact AS (JX rfl Tryz.underlying75 RP _ _ w.heap.size _ _ _ _ rfl hr3 rfl) rfl ⟨⟨_,_,rfl⟩,HB1.out.trans (hw3.below (At _))⟩
   . have FV:¬ y<1:=by omega
     go_enter Tryz.func200,Tryz.ntmps200
     go_wp2_with (first
      |(go_at_call 183;rw[H1.out];(with_reducible refine G1.out.mono ?_);rintro e w2 ⟨rfl,rfl⟩)
      |(go_at_call 183;(with_reducible refine G2.out.mono ?_);rintro e w2 ⟨rfl,rfl⟩)
      |(with_reducible refine GS rfl 75 RP (.tmp 2) (.tmp 24) rfl w.heap.size rfl _ _ _ _ rfl rfl rfl _ Fe ?_;intro w3 hw3 hr3))
     exact AS (JX rfl Tryz.underlying75 RP _ _ w.heap.size _ _ _ _ rfl hr3 rfl) rfl ⟨⟨_,_,rfl⟩,HB1.out.trans (hw3.below (At _))⟩
 . obtain⟨n,rfl⟩:∃ n:Nat,y=(n:Int):=⟨y.toNat,by omega⟩
   have FV:¬ (n:Int)<1:=(by omega);have L1:¬ 13<(n:Int):=(by omega);have hcn:=WQ n (by omega);have te:H.wrap x=x:=Bq _ (by omega);have hwn:H.wrap (n:Int)=(n:Int):=Bq _ (by omega);rw[Cd];obtain⟨S,hS⟩:=nm (BX ((c.drop 3).take n));rw[<- hS] at hcn |-
   have HE1:Hid (3+n-3=n):=wM (by omega);have HE2:Hid ((3:Int)+(n:Int)=((3+n:Nat):Int)):=wM (by omega);have hc1:3+n<=cap:=(by omega);have hc2:3<cap:=(by omega);clear WQ hS;go_enter Tryz.func200,Tryz.ntmps200
   go_wp2_with (first
    |(go_at_call 183;rw[H1.out];(with_reducible refine G1.out.mono ?_);rintro e w2 ⟨rfl,rfl⟩)
    |(go_at_call 183;(with_reducible refine G2.out.mono ?_);rintro e w2 ⟨rfl,rfl⟩)
    |(with_reducible refine DY rfl (.tmp 27) (.const (J H 3)) (.tmp 30) rfl b off 16 cap rfl 3 (3+(n:Int)) rfl rfl 3 (3+n) n HE1.out rfl HE2.out (Nat.le_add_right 3 n) hc1 hc2 ?_)
    |(with_reducible refine GS rfl 75 RP (.tmp 2) (.tmp 33) rfl w.heap.size rfl _ _ _ _ rfl rfl rfl _ Fe ?_;intro w3 hw3 hr3))
   exact AS (JX rfl Tryz.underlying75 RP _ _ w.heap.size _ _ _ _ rfl hr3 rfl) rfl ⟨rfl,HB1.out.trans (hw3.below (At _))⟩
theorem J1(w1:V)(i:Int)(n:ByteArray){ops:Array F}{rest:List F}{o:F}{a:Act}{Q:Exit->Act->V->Prop}(Du:o.guard=Z)(S T:Cg)(s y:Operand)
 (ho:o.op=.call { callee:=.builtin .append,args:=#[s,y],argTypes:=#[S,S] })
 (hu:R.underlying S=G (.slice T)) (hi:(R.info? T).map (fun i=>(i.zero,i.size,i.bytes))=G (G (BN #[J H 0,.string ByteArray.empty]),2,24))
 (B:Nat) (v:L) (O:List (Int × ByteArray)) (hs:a.eval s=v) (hown:ER w1 B T v O) (hO:O.length<=1000000) (q:Nat) (hy:a.eval y=X (G ⟨q,0,Z⟩) 1 1) (hq:q=w1.heap.size) (hB:B<=w1.heap.size)
 (h:∀ v' w',ER w' B T v' (O ++ [(i,n)])->I B w1 w'->Cf R ops Q rest (a.put o.dst v') w'):Cf R ops Q (o :: rest) a (w1.alloc (U #[J H i,.string n] T)):=by
 subst hq;exact MD w1 i n Du S T s y ho hu hi B v O hs hown hO hy hB h
def rj(b:List Int)(w:V)(e:Ending)(w':V):Prop:=
 ∃ (k:Nat) (u:L),e=Aj u/\k<=16/\(∀ j,j<k->SV (Et b j))/\(k<16->¬ SV (Et b k))/\ESl w' u (Gd b k)/\I w.heap.size w w'
theorem Rc{b:List Int}(hl:b.length=256)(k:Nat)(hk:k<16):(Et b k).length=16:=by
 unfold Et;rw[AJ,Bn];omega
theorem VM{w:V}{v:L}{l:List Int}(hs:BSl w v l)(hl:l.length=256):f R 177 #[v] w (rj l w):=by
 obtain⟨b,off,cap,rfl,Cx,hb⟩:=hs.open' (by omega);have HS:=wM hs;have HCH:=wM (fun k hk=>Rc hl k hk);have HMID:=wM (fun W (h:BSl W (X (G ⟨b,off,Z⟩) l.length cap) l) lo (hm:lo+16<=l.length)=>h.mid lo 16 hm);have HRS:=wM (fun k=>X4 l k);have HRL:=wM (fun k=>MB l k);rw[hl] at HS HMID Cx |-
 have u2:=Tryz.underlying116;have H0:Hid (ER w w.heap.size 75 (X Z 0 0) (Gd l 0)):=wM (YB _ _ _);clear hs hl;go_enter Tryz.func177,Tryz.ntmps177;go_wp2;go_loopw [3,7] (fun u i wr=>∃ k:Nat,k<=16/\i=J H k/\Hid (ER wr w.heap.size 75 u (Gd l k))/\Hid (∀ j,j<k->SV (Et l j))/\I w.heap.size w wr) (fun _ i _=>16-(intOf i).toNat)
 case atStart=>exact⟨0,by omega,rfl,H0,fun j hj=>absurd hj (A9 _),AC _ _⟩
 case round=>
  obtain⟨k,hk,rfl,HU,HK,hbr⟩:=hrel;clear H0;by_cases hlt:k<16
  . have ek:(k:Int)<16:=by omega
    have hsr:=HMID.out _ (HS.out.below hbr) (k*16) (by omega);have Xd:(l.drop (k*16)).take 16=Et l k:=rfl;rw[Xd] at hsr;have KR:=ke hsr (HCH.out k hlt);have mm:=HRS.out k;obtain⟨⟨x,y⟩,hx⟩:∃ x,x=ou (Et l k):=⟨_,rfl⟩;rw[<- hx] at KR mm;have ee1:(k:Int)*16=((k*16:Nat):Int):=(by push_cast;omega);have ee2:((k:Int)+1)*16=((k*16+16:Nat):Int):=(by push_cast;omega);have HE32:Hid (k*16+16-k*16=16):=wM (by omega);have HE1:=wM ee1;have HE2:=wM ee2;have hc1:k*16+16<=cap:=(by omega);have hc2:k*16<=k*16+16:=(by omega);have hc3:k*16<cap:=(by omega);have HNX:=wM mm;have HLK:Hid ((Gd l k).length<=1000000):=wM (by rw[HRL.out];omega);by_cases hok:SV (Et l k)
    . have KY:=wM (KR.2 hok)
      have HOK:=wM hok;clear hx hsr Xd ee1 ee2 KR mm hok
      go_wp2_with (first
       |(with_reducible refine DY rfl (.tmp 11) (.tmp 13) (.tmp 16) rfl b off 256 cap rfl ((k:Int)*16) (((k:Int)+1)*16) rfl rfl (k*16) (k*16+16) 16 HE32.out HE1.out HE2.out hc2 hc1 hc3 ?_)
       |(go_at_call 200;refine KY.out.mono ?_;rintro e w3 ⟨rfl,hb3⟩
         have HB3:=wM (hb3.trans ((As w3 (U #[J H x,.string y] 75)).mono hb3.size));have HN3:=wM (HU.out.below HB3.out);have HBR3:=wM (hbr.trans (HB3.out.mono hbr.size)))
       |(at_builtin;refine J1 _ x y rfl 116 75 (.tmp 23) (.tmp 25) rfl u2 qh w.heap.size _ (Gd l k) rfl HN3.out HLK.out (w3.heap.size+1) rfl (by simp) HBR3.out.size ?_
         intro v7 w7 hob7 hb7))
      go_roundw
      case rel=>
       refine⟨k+1,by omega,by go_num,by show ER _ _ _ _ (Gd l (k+1));rw[HNX.out];exact hob7,fun j hj=>?_,HBR3.out.trans hb7⟩;by_cases e:j=k
       . subst e;exact HOK.out
       . exact HK.out j (by omega)
      case measure=>simp[intOf];omega
    . have KN:=wM (KR.1 hok)
      have HOK:=wM hok;clear hx hsr Xd ee1 ee2 KR mm hok
      go_wp2_with (first
       |(with_reducible refine DY rfl (.tmp 11) (.tmp 13) (.tmp 16) rfl b off 256 cap rfl ((k:Int)*16) (((k:Int)+1)*16) rfl rfl (k*16) (k*16+16) 16 HE32.out HE1.out HE2.out hc2 hc1 hc3 ?_)
       |(go_at_call 200;refine KN.out.mono ?_;rintro e w3 ⟨⟨i3,s3,rfl⟩,hb3⟩
         have HB3:=wM (hb3.trans ((As w3 (U #[J H i3,.string s3] 75)).mono hb3.size));have HN3:=wM (HU.out.below HB3.out);have HBR3:=wM (hbr.trans (HB3.out.mono hbr.size))))
      go_ret;exact⟨k,_,rfl,hk,HK.out,fun _=>HOK.out,HN3.out.sl,HBR3.out⟩
  . obtain rfl:k=16:=by omega
    go_wp2;go_ret;exact⟨16,_,rfl,At _,HK.out,fun h=>absurd h (Nat.lt_irrefl _),HU.out.sl,hbr⟩
def pR(b:List Int)(w:V)(e:Ending)(w':V):Prop:=
 (∃ O,MI O b/\∃ u,e=Aj (AH #[u,J H 0])/\ESl w' u O/\I w.heap.size w w')\/
 ((∀ O,¬ MI O b)/\e=Aj (AH #[X Z 0 0,J H 18])/\I w.heap.size w w')
theorem kL{w:V}(ao:Option Addr)(len cap:Nat)(h:len≠256):f R 137 #[X ao len cap] w fun e w'=>e=Aj (AH #[X Z 0 0,J H 18])/\w=w':=by
 have hne:((len:Int) != 256)=N:=by simp;omega
 go_enter Tryz.func137,Tryz.ntmps137;go_wp2;go_ret2;exact⟨rfl,rfl⟩
theorem dw{O:List (Int × ByteArray)}{b:List Int}(h:MI O b):b.length=256:=by
 rw[<- h.2];exact N7 h.1
theorem jg{w:V}{v:L}{l:List Int}(hs:BSl w v l)(hl:l.length=256):f R 137 #[v] w (pR l w):=by
 have KR:=wM (VM hs hl);obtain⟨b,off,cap,rfl,Cx,hb⟩:=hs.open' (by omega);have HS:=wM hs;rw[hl] at HS KR |-
 have K:=(KR.out)
 have key:∀ (k:Nat) (u:L) (W:V),k<=16->(∀ j,j<k->SV (Et l j))->(k<16->¬ SV (Et l k))->ESl W u (Gd l k)->I w.heap.size w W->
  ((∃ O,O=Gd l k/\MI O l/\f R 101 #[u] W fun e w'=>∃ u',e=Aj (AH #[u',J H 0])/\BSl w' u' l/\I W.heap.size W w')\/
   ((∀ O,¬ MI O l)/\∃ (m:List Int) (E:Int),(E=1\/E=0/\m≠l)/\f R 101 #[u] W fun e w'=>∃ u',e=Aj (AH #[u',J H E])/\BSl w' u' m/\I W.heap.size W w')):=by
  intro k u W hk h1 h2 hu hb;cases ha:Kg (Gd l k)
  . refine AW ⟨fun O hO=>?_,[],1,AU rfl,(Mz hu).mono ?_⟩
    . have:=Kz SV (fun e=>Me) JU hk h1 h2 hO
      rw[this,hO.1] at ha;cases ha
    . rintro e w' (⟨ht,_⟩| ⟨_,he,hb⟩)
      . rw[ha] at ht;cases ht
      . exact⟨_,he,Kt _,hb⟩
  . by_cases he:JD (Gd l k)=l
    . refine AU ⟨_,rfl,⟨ha,he⟩,(Mz hu).mono ?_⟩
      rintro e w' (⟨_,u',h3,ho,hb⟩| ⟨ht,_⟩)
      . refine⟨u',h3,?_,hb⟩
        rw[he] at ho;exact ho.bsl
      . rw[ha] at ht;cases ht
    . refine AW ⟨fun O hO=>?_,JD (Gd l k),0,AW ⟨rfl,he⟩,(Mz hu).mono ?_⟩
      . have:=Kz SV (fun e=>Me) JU hk h1 h2 hO
        rw[this] at he;exact he hO.2
      . rintro e w' (⟨_,u',h3,ho,hb⟩| ⟨ht,_⟩)
        . exact⟨u',h3,ho.bsl,hb⟩
        . rw[ha] at ht;cases ht
 have KEY:=wM key;clear hs hl K key;go_enter Tryz.func137,Tryz.ntmps137
 go_wp2_with (go_at_call 177;refine KR.out.mono ?_;rintro e w2 ⟨k,u,rfl,hk,h1,h2,hu,hb2⟩
              have KK:=wM (KEY.out k u w2 hk h1 h2 hu hb2);have HU:=wM hu;clear h1 h2 hu hk)
 have HB2:=wM hb2;have HV2:=wM (HS.out.below hb2);rcases KK.out with⟨O,hO,hblk,Jb⟩| ⟨CU,m,E,hE,Jb⟩
 . have HBK:=wM hblk
   have HC:=wM Jb;have HO:=wM hO;clear hO hblk Jb hb2 KK KEY KR
   go_wp2_with (first
    |(go_at_call 101;refine HC.out.mono ?_;rintro e w3 ⟨u3,rfl,hu3,hb3⟩
      have K4:=Ek hu3 (HV2.out.below hb3);rw[Az (rfl:l=l)] at K4;have HB3:=wM hb3)
    |(go_at_call 152;refine K4.mono ?_;rintro e w4 ⟨rfl,rfl⟩))
   go_ret2;exact AU ⟨O,HBK.out,_,rfl,by rw[HO.out];exact HU.out.below HB3.out,HB2.out.trans (HB3.out.mono HB2.out.size)⟩
 . have HN:=wM CU
   have HC:=wM Jb;clear CU Jb hb2 KK KEY KR;rcases hE with rfl| ⟨rfl,hne⟩
   . go_wp2_with (go_at_call 101;refine HC.out.mono ?_;rintro e w3 ⟨u3,rfl,hu3,hb3⟩)
     go_ret2;exact AW ⟨HN.out,rfl,HB2.out.trans (hb3.mono HB2.out.size)⟩
   . have HNE:=wM hne
     clear hne
     go_wp2_with (first
      |(go_at_call 101;refine HC.out.mono ?_;rintro e w3 ⟨u3,rfl,hu3,hb3⟩
        have K4:=Ek hu3 (HV2.out.below hb3);rw[AB HNE.out] at K4;have HB3:=wM hb3)
      |(go_at_call 152;refine K4.mono ?_;rintro e w4 ⟨rfl,rfl⟩))
     go_ret2;exact AW ⟨HN.out,rfl,HB2.out.trans (HB3.out.mono HB2.out.size)⟩
theorem kC{w:V}{v:L}{l:List Int}(hs:BSl w v l):f R 137 #[v] w (pR l w):=by
 by_cases h:l.length=256
 . exact jg hs h
 . obtain⟨ao,cap,rfl,_⟩:=hs.shape
   exact(kL ao _ cap h).mono fun e w' ⟨he,hw⟩=>AW ⟨fun O hO=>h (dw hO),he,by rw[<- hw];exact AC _ _⟩
end
section
open Go.RowKit BM
def Eu(l:List Int)(j:Nat):List Int:=(l.drop (256*j)).take 256
theorem I2(l:List Int)(j:Nat):(Eu l j).length=min 256 (l.length-256*j):=by unfold Eu;rw[AJ,Bn]
def VU(l:List Int)(j:Nat):List Int:=Eu l j ++ Aw (256-(Eu l j).length) 0
theorem Mc(l:List Int)(j:Nat):(VU l j).length=256:=by
 unfold VU;rw[AD,A3,I2];omega
def GoodB(l:List Int)(j:Nat)(O:List (Int × ByteArray)):Prop:=MI O (VU l j)/\O.length=(Eu l j).length / 16
theorem Rx(l:List Int):∀ k,(Bu k).flatMap (Eu l)=l.take (256*k)
 |0=>by simp
 |k+1=>by
  rw[GX,DW,Rx l k,List.flatMap_singleton,show 256*(k+1)=256*k+256 by omega,List.take_add];rfl
theorem GoodB.dir{l:List Int}{j:Nat}{O:List (Int × ByteArray)}(h:GoodB l j O)(NX:(Eu l j).length%16=0):FrmL O/\Fm O=Eu l j:=by
 obtain⟨⟨a,b⟩,c⟩:=h;have hf:=(Ia a).2;refine⟨hf,?_⟩;have hl:=E6 hf;have e:Fm O ++ Aw (256-16*O.length) 0=Eu l j ++ Aw (256-(Eu l j).length) 0:=b;exact(List.append_inj e (by omega)).1
theorem mD{l:List Int}{O:List (Int × ByteArray)}(hf:FrmL O)(hl:Fm O=l)(j:Nat):GoodB l j ((O.drop (16*j)).take 16):=by
 have hlen:=E6 hf;have hf2:FrmL (O.drop (16*j)):=fun e he=>hf e (List.mem_of_mem_drop he)
 have hb:Fm ((O.drop (16*j)).take 16)=Eu l j:=by
  unfold Eu;rw[<- hl];by_cases c:16*j<=O.length
  . rw[show 256*j=16*(16*j) by omega,bQ O hf _ c]
    by_cases c2:16<=(O.drop (16*j)).length
    . rw[show(256:Nat)=16*16 from rfl,fH _ hf2 16 c2]
    . have:=E6 hf2
      rw[AR (l:=O.drop (16*j)) (by omega),AR (by omega)]
  . rw[GR (l:=O) (by omega),GR (l:=Fm O) (by omega)];rfl
 have Xa:(Eu l j).length=16*((O.drop (16*j)).take 16).length:=by rw[<- hb];exact E6 (hf2.take 16)
 refine⟨⟨Pq (by rw[AJ];omega) (hf2.take 16),?_⟩,by rw[Xa];omega⟩;unfold VU;rw[Xa,<- hb];rfl
def PartsD(l:List Int)(xs:List Nat)(E:List (Int × ByteArray)):Prop:=FrmL E/\Fm E=xs.flatMap (Eu l)
theorem PartsD.nil(l:List Int):PartsD l [] []:=⟨fun x hx=>(by cases hx),rfl⟩
theorem PartsD.more{l:List Int}{xs:List Nat}{E O:List (Int × ByteArray)}{j:Nat}(h:PartsD l xs E)(k:GoodB l j O)(NX:(Eu l j).length%16=0):PartsD l (xs ++ [j]) (E ++ O):=by
 obtain⟨a,b⟩:=k.dir NX;refine⟨fun e he=>(BI.1 he).elim (h.1 e) (a e),?_⟩;rw[Ip,h.2,b,DW,List.flatMap_singleton]
theorem PartsD.all{l:List Int}{k:Nat}{E:List (Int × ByteArray)}(h:PartsD l (Bu k) E)(hk:l.length<=256*k):FrmL E/\Fm E=l:=by
 refine⟨h.1,?_⟩;rw[h.2,Rx,AR hk]
theorem LU(w:V){ops:Array F}{rest:List F}{o:F}{a:Act}{Q:Exit->Act->V->Prop}(Du:o.guard=Z)(S T:Cg)(s y:Operand)
 (ho:o.op=.call { callee:=.builtin .append,args:=#[s,y],argTypes:=#[S,S] })
 (hu:R.underlying S=G (.slice T)) (hi:(R.info? T).map (fun i=>(i.zero,i.size,i.bytes))=G (G (BN #[J H 0,.string ByteArray.empty]),2,24))
 (B:Nat) (v u:L) (E O:List (Int × ByteArray)) (hs:a.eval s=v) (hown:ER w B T v E) (hE:E.length<=1000000) (hO:O.length<=1000000) (hO0:0<O.length) (hy:a.eval y=u) (hsl:ESl w u O) (hB:B<=w.heap.size)
 (h:∀ v' w',ER w' B T v' (E ++ O)->I B w w'->KeepsOthers w w'->Cf R ops Q rest (a.put o.dst v') w'):Cf R ops Q (o :: rest) a w:=by
 obtain⟨t,h2,h3,h4,h5⟩:=Bf hi;obtain⟨ao,cap,rfl,hc⟩:=hsl.open';obtain⟨b,off,rfl,hlt,Dc⟩:=hc hO0;refine FU _ Du s y S ho B T t _ 2 24 hu h2 h3 h4 h5 rfl (by decide) v E.length _ hs hown ⟨b,off,Z⟩ O.length cap (JE O) hy (E7 O) ?_ ?_ (by simp only[maxLen];omega) (by omega) (by omega) fun v' w' h6 h7 _=>?_
 . intro m x hm
   have hm2:m<O.length*2:=(by rw[<- E7];exact(Bb.1 hm).1);have hg:=JT O (m / 2) (by omega);have hcc:=Dc (m / 2) (by omega);rw[BY];rcases Fu m with e|e
   . have e2:m / 2*2=m:=by omega
     rw[e2] at hg hcc;rw[hcc.1,<- hg.1,hm]
   . have e2:m / 2*2+1=m:=by omega
     have e3:off+m / 2*2+1=off+m:=(by omega);rw[e2] at hg;rw[e3] at hcc;rw[hcc.2,<- hg.2,hm]
 . intro x hx
   unfold JE at hx;obtain⟨z,_,hz⟩:=List.mem_flatMap.1 hx;simp[cE] at hz;rcases hz with rfl|rfl <;> rfl
 . refine h v' w' ?_ ((AC _ _).grown h7 hB fun k hk=>(BO hown k hk).1) ⟨h7.size,fun k o hk ho=>(h7.block k (Ah.1 hk).1 fun e=>?_).trans hk⟩
   rotate_left
   . rcases hown.2 with⟨e2,_⟩| ⟨g,cap',cur,hv,Xc,hh,r⟩
     . rw[e2] at e;cases e
     . rw[hv] at e
       cases e
       rw[hh] at hk;cases hk
       cases ho
   show w'.ownsRow B T 2 v' (E ++ O).length (JE (E ++ O))
   rw[AD,Is];exact h6
def wx(a b:ByteArray):Prop:=a.data.toList<b.data.toList
instance (a b:ByteArray):Decidable (wx a b):=by unfold wx;infer_instance
abbrev GW:=Int × ByteArray
def wI(x y:GW):Prop:=¬ wx y.2 x.2
instance (x y:GW):Decidable (wI x y):=by unfold wI;infer_instance
def RwE(w:V)(g C:Nat)(D:List GW):Prop:=∃ cur:Array L,w.heap[g]? =G (U cur 75 (0,0))/\cur.size=C/\cur.toList.take (D.length*2)=JE D/\D.length*2<=C
section
variable {w w':V}{g C:Nat}{D:List GW}
theorem RwE.keep(h:RwE w g C D)(e:w'.heap[g]? =w.heap[g]?):RwE w' g C D:=by
 obtain⟨cur,a,r⟩:=h;exact⟨cur,e.trans a,r⟩
theorem RwE.lt(h:RwE w g C D):g<w.heap.size:=by
 obtain⟨cur,a,r⟩:=h;exact(Ah.1 a).1
theorem RwE.below(h:RwE w g C D)(hb:I w.heap.size w w'):RwE w' g C D:=h.keep (hb.block g h.lt)
theorem RwE.cells(h:RwE w g C D){j:Nat}(hj:j<D.length):w.cell? ⟨g,j*2,Z⟩=G (J H (D.getD j default).1)/\w.cell? ⟨g,j*2+1,Z⟩=G (.string (D.getD j default).2):=by
 obtain⟨cur,a,b,c,d⟩:=h;obtain⟨h1,h2⟩:=JT D j hj;rw[<- c,AZ] at h1 h2;rw[Au (by omega)] at h1 h2;rw[Aq _ _ _ _ _ _ a,Aq _ _ _ _ _ _ a];exact⟨by simpa using h1,by simpa using h2⟩
end
theorem Gq(Y:List GW){k:Nat}(h:k<Y.length):Y.getD k default=Y[k]:=by rw[An,AL h];rfl
end
section
open Go.RowKit
theorem Ra(m:Nat):Builtin.zeroCells (L.string ByteArray.empty).cells m=AK m (.string ByteArray.empty):=by
 apply Array.ext
 . simp[Builtin.zeroCells,L.cells]
 . intro j h1 h2
   simp[Builtin.zeroCells,L.cells,Nat.mod_one]
theorem Ua(w:V)(ty:Cg)(m:Nat)(h1:1<=m)(h2:m<=1000):∃ C w',(Builtin.append_ #[23,3] ty #[X Z 0 0,J H m]).run R w=.ok (X (G ⟨w.heap.size,0,Z⟩) m C) w'/\TR w' w.heap.size (X (G ⟨w.heap.size,0,Z⟩) 0 C) []/\m<=C/\I w.heap.size w w':=by
 obtain⟨i,g2,g3,g4,g5⟩:=Bf Iz;have hm1:H.wrap (m:Int)=m:=by rw[IntKind.wrap_i64];omega
 have hm2:¬ (m:Int)<0:=by omega
 have qk:¬ 281474976710656<(m:Int)*16:=by omega
 have hm:m≠0:=by omega
 have hge:=grownCap_ge w m 0 9;have Jq:grownCap w m 0 9<=maxLen:=grownCap_le_maxLen w m 0 9 (by simp only[maxLen];omega);have BG:¬ (281474976710656<Builtin.nextslicecap m 0*16):=by rw[nextslicecap_zero (by omega)];omega
 have hc1:¬ 9223372036854775807<(m:Int):=by omega
 refine⟨grownCap w m 0 9,w.drew.alloc (U (AK m (.string ByteArray.empty) ++ AK (grownCap w m 0 9-m) (.string ByteArray.empty)) 9),?_,⟨rfl,AW ⟨w.heap.size,_,_,rfl,At _,Ar w.drew _,AT _,Jq,?_,by simp⟩⟩,hge,?_⟩
 . simp[Builtin.append_,B9 Tryz.underlying23,B9 Tryz.underlying3,sizeOf,typeInfo,zeroValue,g2,g3,g4,g5,asInt,asIntOf,hm1,hm2,qk,hm,hc1,BG,Question.forced,run_firstCells_none,newRow,grownCap]
   simp[Ra]
 . simp;omega
 . exact(AM (AC _ w) 1).trans (As w.drew _)
theorem km(W:V)(b m C:Nat)(hC:1<=C):(Instr.slice 23 (X (G ⟨b,0,Z⟩) m C) Z (G (J H 0)) Z).run R W=.ok (X (G ⟨b,0,Z⟩) 0 C) W:=by
 obtain⟨t,h2,h3,h4,h5⟩:=Bf Iz;have ee:R.elem 23=9:=by kernel_rfl
 have hs:(sizeOf 9).run R W=.ok 1 W:=by simp[sizeOf,typeInfo,h2,h4]
 rw[run_slice_h W 23 _ m C (by rw[ee];exact Tryz.underlying23) H 0 (by omega) (by omega),ee,hs];have hne:C≠0:=by omega
 simp[sliced,hne,BY]
theorem kK(W:V):(Instr.slice 23 (X Z 0 0) Z (G (J H 0)) Z).run R W=.ok (X Z 0 0) W:=by
 obtain⟨t,h2,h3,h4,h5⟩:=Bf Iz;have ee:R.elem 23=9:=by kernel_rfl
 have hs:(sizeOf 9).run R W=.ok 1 W:=by simp[sizeOf,typeInfo,h2,h4]
 rw[run_slice_h W 23 _ 0 0 (by rw[ee];exact Tryz.underlying23) H 0 (by omega) (by omega),ee,hs];simp[sliced]
theorem Ov(w:V){ops:Array F}{rest:List F}{o:F}{a:Act}{Q:Exit->Act->V->Prop}(Du:o.guard=Z)(s y:Operand)(ho:o.op=.call { callee:=.builtin .append,args:=#[s,y],argTypes:=#[23,3] })
 (hs:a.eval s=X Z 0 0) (m:Nat) (hy:a.eval y=J H m) (h1:1<=m) (h2:m<=1000)
 (h:∀ C w',TR w' w.heap.size (X (G ⟨w.heap.size,0,Z⟩) 0 C) []->m<=C->I w.heap.size w w'->Cf R ops Q rest (a.put o.dst (X (G ⟨w.heap.size,0,Z⟩) m C)) w'):Cf R ops Q (o :: rest) a w:=by
 obtain⟨C,w',hr,a1,a2,a3⟩:=Ua w o.type m h1 h2;refine CA Du fun K hK=>?_
 unfold F.wp execOp;simp only[ho,resolve,invoke,builtin,Dg,Sem.run_pure,Result.andThen_ok,Fc,DO,IJ,hs,hy,hr];exact hK _ _ (h C w' a1 a2 a3)
theorem YF(w:V)(n:Nat)(hn:n<=1000):f R 204 #[X Z 0 0,J H n] w fun e w'=>∃ v,e=Aj v/\TR w' w.heap.size v []/\I w.heap.size w w':=by
 have HS:=fun W=>kK W
 by_cases h0:n=0
 . subst h0
   go_enter Tryz.func204,Tryz.ntmps204;go_wp2;go_ret;exact⟨_,rfl,Zz _ _,AC _ _⟩
 . have hz:(0:Int)<(n:Int):=by omega
   have hz2:(n:Int)<=1000:=(by omega);have FV:1<=n:=(by omega);have H1:=wM hn;have Na:=fun W C (hC:1<=C)=>km W w.heap.size n C hC
   have HS0:=wM Na;clear h0 Na;go_enter Tryz.func204,Tryz.ntmps204;go_wp2_with (refine Ov w rfl _ _ rfl rfl n rfl FV H1.out ?_;intro C w2 htr hC hb;have hsC:=fun W=>HS0.out W C (by omega);have HT:=wM htr)
   go_ret;exact⟨_,rfl,HT.out,hb⟩
theorem Tp{w:V}{g:Nat}{vA vB:L}{A B:List ByteArray}(h0:w.cell? ⟨g,0,Z⟩=G vA)(h1:w.cell? ⟨g,1,Z⟩=G vB)(hA:TSl w vA A)(hB:TSl w vB B)(hAl:A.length<=100)(hBl:B.length<=100):
 f R 182 #[X (G ⟨g,0,Z⟩) 2 2] w fun e w'=>∃ v,e=Aj v/\TR w' w.heap.size v (A ++ B)/\I w.heap.size w w':=by
 obtain⟨ao,ca,rfl,_⟩:=id hA;obtain⟨bo,cb,rfl,_⟩:=id hB;obtain⟨na,hna⟩:=nm A.length;obtain⟨nb,Ja⟩:=nm B.length;have KG:Hid (∀ W,f R 204 #[X Z 0 0,J H ((na:Int)+(nb:Int))] W fun e w'=>∃ v,e=Aj v/\TR w' W.heap.size v []/\I W.heap.size W w'):=wM (fun W=>by have:=YF W (na+nb) (by omega);rwa [Int.natCast_add] at this);have HA:=wM hA;have HB:=wM hB;have HL:=wM (And.intro hna Ja);rw[<- hna] at h0 HA hAl;rw[<- Ja] at h1 HB hBl;have hg:g<w.heap.size:=V.block_lt_of_cell? w ⟨g,0,Z⟩ h0;clear hA hB hna Ja;have e1:H.wrap ((na:Int)+(nb:Int))=(na:Int)+(nb:Int):=Bq _ (by omega);have e2:H.wrap ((na:Int))=(na:Int):=Bq _ (by omega);go_enter Tryz.func182,Tryz.ntmps182;go_wp2;go_loopw [3,11] (fun s3 s11 wr=>w=wr/\((s11=J H 0/\s3=J H 0)\/(s11=J H 1/\s3=J H na)\/(s11=J H 2/\s3=J H ((na:Int)+(nb:Int))))) (fun _ s11 _=>2-(intOf s11).toNat)
 case atStart=>exact⟨rfl,AU ⟨rfl,rfl⟩⟩
 case round=>
  obtain⟨rfl,⟨rfl,rfl⟩| ⟨rfl,rfl⟩| ⟨rfl,rfl⟩⟩:=hrel
  . go_wp2
    go_roundw
    case rel=>exact⟨by trivial,AW (AU ⟨by go_num,by go_num⟩)⟩
    case measure=>simp[intOf]
  . have hp:¬ (na:Int)+(nb:Int)<0:=by omega
    go_wp2;go_roundw
    case rel=>exact⟨by trivial,AW (AW ⟨by go_num,by go_num⟩)⟩
    case measure=>simp[intOf]
  . go_wp2_with (go_at_call 204;(with_reducible refine(KG.out _).mono ?_);rintro e w2 ⟨v0,rfl,hv0,hb2⟩)
    have HB2:=wM hb2;have HV0:=wM hv0;have k0:=(hb2.cell (p:=⟨g,0,Z⟩) hg).trans h0;have k1:=(hb2.cell (p:=⟨g,1,Z⟩) hg).trans h1;have HK:=wM (And.intro k0 k1);clear hv0 hb2 KG k0 k1;go_loopw [6,27] (fun s6 s27 wr=>Hid (I w.heap.size w wr)/\((s27=J H 0/\Hid (TR wr w.heap.size s6 []))\/(s27=J H 1/\Hid (TR wr w.heap.size s6 A))\/(s27=J H 2/\Hid (TR wr w.heap.size s6 (A ++ B))))) (fun _ s27 _=>2-(intOf s27).toNat)
    case atStart=>exact⟨HB2,AU ⟨rfl,HV0⟩⟩
    case round=>
     obtain⟨HBr,⟨rfl,HT⟩| ⟨rfl,HT⟩| ⟨rfl,HT⟩⟩:=hrel
     . have k0:=(HBr.out.cell (p:=⟨g,0,Z⟩) hg).trans h0
       have HA2:Hid (TSl wr (X ao na ca) A):=wM (HA.out.below HBr.out);clear HK HB2 HV0;go_wp2_with (refine C2 wr rfl _ _ rfl w.heap.size _ _ [] A rfl HT.out (by have:=HL.out;simp;omega) rfl HA2.out HBr.out.size ?_;intro v3 w3 Rs hb3;have HV3:=wM Rs;have HB3:=wM hb3;clear Rs hb3)
       go_roundw
       case rel=>exact⟨wM (HBr.out.trans HB3.out),AW (AU ⟨by go_num,HV3⟩)⟩
       case measure=>simp[intOf]
     . have k1:=(HBr.out.cell (p:=⟨g,1,Z⟩) hg).trans h1
       have HB2:Hid (TSl wr (X bo nb cb) B):=wM (HB.out.below HBr.out);clear HK;go_wp2_with (refine C2 wr rfl _ _ rfl w.heap.size _ _ A B rfl HT.out (by have:=HL.out;omega) rfl HB2.out HBr.out.size ?_;intro v3 w3 Rs hb3;have HV3:=wM Rs;have HB3:=wM hb3;clear Rs hb3)
       go_roundw
       case rel=>exact⟨wM (HBr.out.trans HB3.out),AW (AW ⟨by go_num,HV3⟩)⟩
       case measure=>simp[intOf]
     . go_wp2
       go_ret;exact⟨_,rfl,HT.out,HBr.out⟩
end
end Go.Proofs.YtfpdajplfmakhaaGreatDoor
