/- What the law rests on: part 8. -/
import Derived.Lib.SliceRun
import Derived.Test.YtedabomlfcghoaaGreatKF7
set_option linter.unusedVariables false
namespace Go.Proofs.YtedabomlfcghoaaGreat
set_option maxRecDepth 100000
open Go.RowKit
theorem run_slice_bb (w:World) (b off n cap l h:Nat) (h1:l<=h) (h2:h<=cap) (h3:l<cap):
 (Instr.sliceAt 96 (.slice (some ⟨b,off,none⟩) n cap) (some (.int .i64 (l:Int))) (some (.int .i64 (h:Int))) none).run Tryz.prog w=.ok (.slice (some ⟨b,off+l,none⟩) (h-l) (cap-l)) w:=by
 obtain ⟨i,g2,g3,g4,g5⟩:=info_parts infoBy
 have hne:cap≠l:=by omega
 have ee:Tryz.prog.elem 96=30:=by kernel_rfl
 have hs:(sizeOf 30).run Tryz.prog w=.ok 1 w:=by simp[sizeOf,typeInfo,g2,g4]
 rw[run_sliceAt_slice w 96 _ _ _ _ (by rw[ee];exact Tryz.underlying96),run_slice_lh w 96 _ n cap (by rw[ee];exact Tryz.underlying96) .i64 .i64 (l:Int) (h:Int) (by omega) (by omega) (by omega),ee,hs]
 simp[sliced,hne,Addr.add_lit]
theorem wpList_slice_bb {w:World}{ops:Array Oper}{rest:List Oper}{o:Oper}{a:Act}{Q:Exit->Act->World->Prop} (hgd:o.guard=none) (x lo hi:Operand) (ho:o.op=.slice 96 x (some lo) (some hi) none)
 (b off n cap:Nat) (hx:a.eval x=.slice (some ⟨b,off,none⟩) n cap) (L H:Int) (hl:a.eval lo=.int .i64 L) (hh:a.eval hi=.int .i64 H) (l h m:Nat) (hm:h-l=m) (hL:L=l) (hH:H=h) (h1:l<=h) (h2:h<=cap) (h3:l<cap)
 (hK:wpList Tryz.prog ops Q rest (a.put o.dst (.slice (some ⟨b,off+l,none⟩) m (cap-l))) w):wpList Tryz.prog ops Q (o :: rest) a w:=by
 subst hL hH hm
 refine wpList_plain hgd fun K hK'=>?_
 unfold Oper.wp execOp
 simp only[ho,hx,hl,hh,Option.map_some,Option.map_none,run_slice_bb w b off n cap l h h1 h2 h3,Sem.run_bind,Sem.run_pure,Result.andThen_ok]
 exact hK' _ _ hK
theorem BBSl.mid {w:World}{b off cap:Nat}{L:List (List Int)} (h:BBSl w (.slice (some ⟨b,off,none⟩) L.length cap) L) (lo m:Nat) (hm:lo+m<=L.length) (M:List (List Int)) (hM:(L.drop lo).take m=M):BBSl w (.slice (some ⟨b,off+lo,none⟩) m (cap-lo)) M:=by
 have hlen:((L.drop lo).take m).length=m:=by simp;omega
 rw[hM] at hlen
 rcases h with ⟨hv,_⟩| ⟨a',c',hv,hcap,hc⟩
 · simp at hv
 · obtain ⟨rfl,rfl⟩:(⟨b,off,none⟩:Addr)=a'/\cap=c':=⟨Option.some.inj (Value.slice.inj hv).1,(Value.slice.inj hv).2.2⟩
   refine .inr ⟨⟨b,off+lo,none⟩,cap-lo,by rw[hlen],by omega,fun j hj=>?_⟩
   rw[hlen] at hj
   obtain ⟨h1,h2,u,h3,h4⟩:=hc (lo+j) (by omega)
   refine ⟨h1,rfl,u,?_,?_⟩
   · show w.cell? ⟨b,off+lo+j,none⟩=_
     rw[Nat.add_assoc];exact h3
   · have e:M.getD j []=L.getD (lo+j) []:=by
      rw[<- hM]
      simp[List.getD_eq_getElem?_getD,hj]
     rw[e];exact h4
theorem sizeT:(Tryz.prog.info? 183).map (·.size)=some 3:=by kernel_rfl
theorem wpList_store_t3 {ops:Array Oper}{rest:List Oper}{o:Oper}{a:Act}{w:World}{Q:Exit->Act->World->Prop} (hgd:o.guard=none) (ty:TypeId) (hi:(Tryz.prog.info? ty).map (·.size)=some 3) (x y:Operand) (ho:o.op=.store ty x y)
 (g:Nat) (hx:a.eval x=.pointer (some ⟨g,0,none⟩)) (p q r p' q' r':Value) (hy:a.eval y=.agg #[p,q,r]) (hp:p.oneCell'=true) (hq:q.oneCell'=true) (hr:r.oneCell'=true) (T:TypeId) (hg:w.heap[g]? =some (.cells #[p',q',r'] T (0,0)))
 (h:∀ w',Wrote w w' g->w'.heap[g]? =some (.cells #[p,q,r] T (0,0))->wpList Tryz.prog ops Q rest (a.put o.dst undef) w'):wpList Tryz.prog ops Q (o :: rest) a w:=
 wpList_store_row hgd ty x y ho g #[p,q,r] hx hy T _ hg hi rfl (by simp[hp,hq,hr]) (h _ (Wrote.setRow _ _ _) (setRow_heap _ _ _ _ _ _ hg))
theorem ret_cell_t3 {fn:Func}{p u:Tmp}{ty:TypeId}{fs} (h:fn.results=#[.cell p ty,.tmp u]) (hu:Tryz.prog.underlying ty=some (.struct fs)) (hi:(Tryz.prog.info? ty).map (·.size)=some 3)
 (tmps:Array Value) (w:World) (g:Nat) (T:TypeId) (a b c x:Value) (hp:tmps.getD p undef=.pointer (some ⟨g,0,none⟩)) (hg:w.heap[g]? =some (.cells #[a,b,c] T (0,0))) (hx:tmps.getD u undef=x):
 (results fn tmps).run Tryz.prog w=.ok (.tuple #[.agg #[a,b,c],x]) w:=by
 rw[results_cell_tmp h,hp,hx]
 simp only[asAddr,Sem.run_pure,Result.andThen_ok]
 rw[run_loadVar_row w g T ty _ (0,0) _ hg hu rfl (by rw[hi];rfl)]
 rfl
theorem hold9 {w w1:World}{g:Nat}{o:Obj} (h:w.heap[g]? =some o) (hb:Below w.heap.size w w1):w1.heap[g]? =some o:=(hb.block _ (Array.getElem?_eq_some_iff.1 h).1).trans h
theorem IR.wrote {w w':World}{B g:Nat}{v:Value}{l:List Int} (h:IR w B v l) (hw:Wrote w w' g) {cur:Array Value}{T:TypeId} (hg:w.heap[g]? =some (.cells cur T (0,0))) (hT:T≠3):IR w' B v l:=by
 refine ⟨h.1,?_⟩
 rcases h.2 with h| ⟨g',cap,cur',hv,hB,hh,r⟩
 · exact .inl h
 · refine .inr ⟨g',cap,cur',hv,hB,?_,r⟩
   rw[hw.2.2.2.2 g' (fun e=>by
    subst e
    rw[hg] at hh
    injection hh with hh
    injection hh with _ h4
    exact hT h4)]
   exact hh
theorem BElt.wrote {w w':World}{B g:Nat}{x:Value}{l:List Int} (h:BElt w B x l) (hw:Wrote w w' g) (hB:B<=g) {cur:Array Value}{T:TypeId} (hg:w.heap[g]? =some (.cells cur T (0,0))) (hT:T≠5):BElt w' B x l:=by
 by_cases h0:0<l.length
 · obtain ⟨b,off,cap,rfl,hb,hor⟩:=h.2 h0
   have hne:b≠g:=fun e=>by
    subst e
    rcases hor with h3| ⟨cur',h3⟩
    · omega
    · rw[h3] at hg
      injection hg with hg
      injection hg with _ h4
      exact hT h4.symm
   have hbk:=hw.2.2.2.2 b hne
   refine ⟨⟨h.1.1,?_⟩,fun _=>⟨b,off,cap,rfl,by rw[hw.2.2.2.1];exact hb,hor.elim .inl fun ⟨cur,hc⟩=>.inr ⟨cur,by rw[hbk];exact hc⟩⟩⟩
   rcases h.1.2 with ⟨hv,_⟩| ⟨a,cap',hv,hcap,hc⟩
   · simp at hv
   · obtain ⟨rfl,rfl⟩:a=⟨b,off,none⟩/\cap=cap':=⟨(Option.some.inj (Value.slice.inj hv).1).symm,(Value.slice.inj hv).2.2⟩
     refine .inr ⟨_,cap,rfl,hcap,fun j hj=>?_⟩
     obtain ⟨h1,h2,h3⟩:=hc j hj
     exact ⟨by rw[hw.2.2.2.1];exact h1,rfl,by rw[World.cell?_of_block (a:=⟨b,off+j,none⟩) hbk];exact h3⟩
 · obtain rfl:l=[]:=List.eq_nil_of_length_eq_zero (by omega)
   refine ⟨⟨byt_nil,?_⟩,fun h=>absurd h h0⟩
   rcases h.1.2 with h| ⟨a,cap,hv,hcap,_⟩
   · exact .inl h
   · exact .inr ⟨a,cap,hv,hcap,fun j hj=>absurd hj (Nat.not_lt_zero _)⟩
theorem BBR.wrote {w w':World}{B g:Nat}{v:Value}{L:List (List Int)} (h:BBR w B v L) (hw:Wrote w w' g) (hB:B<=g) {cur:Array Value}{T:TypeId} (hg:w.heap[g]? =some (.cells cur T (0,0))) (hT:T≠5) (hT2:T≠30):BBR w' B v L:=by
 obtain ⟨vs,hl,hr,ho⟩:=h
 refine ⟨vs,hl,fun j hj=>(hr j hj).wrote hw hB hg hT,ho.1,?_⟩
 rcases ho.2 with h| ⟨g',cap,cur',hv,hB',hh,r⟩
 · exact .inl h
 · refine .inr ⟨g',cap,cur',hv,hB',?_,r⟩
   rw[hw.2.2.2.2 g' (fun e=>by
    subst e
    rw[hg] at hh
    injection hh with hh
    injection hh with _ h4
    exact hT2 h4)]
   exact hh
set_option maxHeartbeats 1000000 in
theorem tUnpack_own {w:World}{v:Value}{q:Int}{N:List Int}{D L:List (List Int)} (hs:BBSl w v L) (hL:L.length<=1000000) (hlen:N.length+2<=L.length) (hh:L.getD 0 []=sealS (headL q N)) (hz:L.getD (L.length-1) []=sealS (endL q))
 (hD:(L.drop 1).take N.length=D) (hw:whole D=true) (hN:frmNs N=true) (q0:0<=q) (q1:q<4294967296):
 Calls Tryz.prog 173 #[v] w fun e w'=>∃ vN vD,e=.returned (.tuple #[.agg #[.int .u32 q,vN,vD],.bool true])/\IR w' 0 vN N/\BBR w' 0 vD D/\Below w.heap.size w w':=by
 have hDl:D.length=N.length:=by rw[<- hD];simp;omega
 have h37:=(frmNs_of hN).1
 have hbx:=below_box w (.cells #[.int .u32 0,.slice none 0 0,.slice none 0 0] 183)
 have hnx:=heap_alloc_new w (.cells #[.int .u32 0,.slice none 0 0,.slice none 0 0] 183)
 have KR:=Lib.hid (fun W (hb:Below w.heap.size w W)=>tReadH_of (hs.below hb) (by omega) hh hN q0 q1)
 have KE:=Lib.hid (fun W=>tEnd_of W q0 q1)
 obtain ⟨ao,cap,rfl,hcap,hc⟩:=hs.open'
 obtain ⟨b,off,rfl,hb,hcc⟩:=hc (by omega)
 obtain ⟨u0,hu0,hb0⟩:=hcc (L.length-1) (by omega)
 rw[hz] at hb0
 have h256:=sealS_length (endL q) (by rw[endL_length];omega)
 obtain ⟨uo,uc,rfl,_⟩:=hb0.shape
 rw[h256] at hu0 hb0
 have hmid:=hs.mid 1 N.length (by omega) D hD
 have KW:=Lib.hid (fun W (hb:Below w.heap.size w W)=>tWhole_of (hmid.below hb) (by omega))
 rw[hw] at KW
 have KC:=Lib.hid (fun W (hb:Below w.heap.size w W)=>tCopies_of (hmid.below hb) (by omega) (fun j=>by
  by_cases hj:j<D.length
  · rw[(whole_iff D).1 hw j hj];omega
  · rw[List.getD_eq_getElem?_getD,List.getElem?_eq_none (by omega)];exact Nat.zero_le _) 0 (Nat.zero_le _))
 have HU0:=Lib.hid hb0
 generalize sealS (endL q)=EB at KE HU0
 have HNS:=Lib.hid (fun W vN (h:IR W 0 vN N)=>h.isc.2)
 obtain ⟨n,hn⟩:∃ n,n=N.length:=⟨_,rfl⟩
 obtain ⟨m,hm⟩:∃ m,m=L.length:=⟨_,rfl⟩
 rw[<- hm] at hlen hcap hu0 hL KR |-
 rw[<- hn] at hlen h37 KW KC hDl HNS
 have HDL:=Lib.hid hDl
 have ew:IntKind.i64.wrap ((m:Int)-1)=(m:Int)-1:=IntWalk.i64_in _ (by omega)
 have ew2:IntKind.i64.wrap ((n:Int)+2)=(n:Int)+2:=IntWalk.i64_in _ (by omega)
 have e1:(0:Int)<=(m:Int)-1:=by omega
 have e2:((m:Int)-1).toNat=m-1:=by omega
 have e3:(m:Int)-1<(m:Int):=by omega
 have e4:¬ (m:Int)<(n:Int)+2:=by omega
 have e5:decide ((m:Int)<(n:Int)+2)=false:=decide_eq_false e4
 have e6:m-1<m:=by omega
 have e7:(1:Int)<=(m:Int):=by omega
 have e8:1<=m:=by omega
 have e9:0<m:=by omega
 have e10:(0:Int)<(m:Int):=by omega
 have HE1:Hid (1+n-1=n):=Lib.hid (by omega)
 have HE2:Hid ((1:Int)+(n:Int)=((1+n:Nat):Int)):=Lib.hid (by push_cast;rfl)
 have HE3:Hid (1<=1+n/\1+n<=cap/\1<cap):=Lib.hid (by omega)
 clear hs hh hz hD hw hN q0 q1 hc hcc hb0 h256 hmid hn hm hDl h37
 go_enter Tryz.func173,Tryz.ntmps173
 go_upto_region 1 with (fail)
 have hzu:w.heap.size<(w.alloc (.cells #[.int .u32 0,.slice none 0 0,.slice none 0 0] 183)).heap.size:=by simp
 generalize w.alloc (.cells #[.int .u32 0,.slice none 0 0,.slice none 0 0] 183)=w1 at hbx hnx hzu |-
 go_wp2_with (go_at_call 175;(with_reducible refine (KR.out _ hbx).mono ?_);rintro e w2 ⟨v2,rfl,hv2,hb2⟩
              obtain ⟨no,nc,rfl,_⟩:=HNS.out _ _ hv2)
 have HB2:Hid (Below w1.heap.size w1 w2.drew):=Lib.hid (below_drewN' hb2 1)
 have HV2:Hid (IR w2.drew 0 (.slice no n nc) N):=Lib.hid hv2
 have HBX:=Lib.hid hbx
 have HNX:=Lib.hid hnx
 have e0:w2.drew.cell? ⟨b,off+(m-1),none⟩=some (.slice uo 256 uc):=((hbx.trans (HB2.out.mono hbx.size)).cell (p:=⟨b,off+(m-1),none⟩) hb).trans hu0
 have HU2:=Lib.hid (HU0.out.below (hbx.trans (HB2.out.mono hbx.size)))
 have hz2:b<w2.drew.heap.size:=Nat.lt_of_lt_of_le hb (hbx.trans (HB2.out.mono hbx.size)).size
 clear hv2 hb2 hbx hnx hu0 hb HU0
 go_region_held3 (fun W=>W.cell? ⟨b,off+(m-1),none⟩=some (.slice uo 256 uc)) (first|exact f0|exact e0) (first
  |(go_at_call 200;(with_reducible refine (KE.out _).mono ?_);rintro e w5 ⟨v5,rfl,hob5,hb5⟩
    have f0:=(hb5.cell (p:=⟨b,off+(m-1),none⟩) hz2).trans e0
    have K6:=Lib.hid (bEqual_of (HU2.out.below hb5) hob5.bsl)
    rw[decide_eq_true (rfl:EB=EB)] at K6
    have HB5:=Lib.hid (HB2.out.trans (hb5.mono HB2.out.size))
    have HV5:=Lib.hid (HV2.out.below hb5)
    clear hob5)
  |(go_at_call 99;(with_reducible refine K6.out.mono ?_);rintro e w6 ⟨rfl,rfl⟩))
 have HB05:=Lib.hid (HBX.out.trans (HB5.out.mono HBX.out.size))
 have K7:=Lib.hid (KW.out _ HB05.out)
 have K8:=Lib.hid (KC.out _ HB05.out)
 clear ew ew2 e1 e2 e3 e4 e5 e6 e7 e8 e9 e10 e0 f0 hb5 KW KC KE KR K6
 go_wp2_with (first
  |(with_reducible refine wpList_slice_bb rfl (.tmp 37) (.const (.int .i64 1)) (.tmp 40) rfl b off m cap rfl 1 (1+(n:Int)) rfl rfl 1 (1+n) n HE1.out rfl HE2.out HE3.out.1 HE3.out.2.1 HE3.out.2.2 ?_)
  |(go_at_call 201;(with_reducible refine K7.out.mono ?_);rintro e w7 ⟨rfl,rfl⟩)
  |(go_at_call 199;(with_reducible refine K8.out.mono ?_);rintro e w8 ⟨v8,rfl,hv8,hb8⟩
    obtain ⟨co,cc,rfl,_⟩:=hv8.sl.shape
    rw[HDL.out] at hv8 |-
    have HV8:=Lib.hid hv8
    have HN8:=Lib.hid (HV5.out.below hb8)
    have hr8:=hold9 HNX.out (HB5.out.trans (hb8.mono HB5.out.size))
    have HB8:=Lib.hid (HB05.out.trans (hb8.mono HB05.out.size))
    clear hv8)
  |(with_reducible refine wpList_store_t3 rfl 183 sizeT (.tmp 2) (.tmp 50) rfl w.heap.size rfl _ _ _ _ _ _ rfl rfl rfl rfl _ hr8 ?_;intro w9 hw9 hr9))
 refine bodyPost_ret (ret_cell_t3 rfl Tryz.underlying183 sizeT _ _ w.heap.size _ _ _ _ _ rfl hr9 rfl) rfl ⟨_,_,rfl,?_,?_,HB8.out.trans (hw9.below (Nat.le_refl _))⟩
 · exact HN8.out.wrote hw9 hr8 (by decide)
 · exact HV8.out.wrote hw9 (Nat.zero_le _) hr8 (by decide) (by decide)
def isTxn (L:List (List Int)) (q:Int) (N:List Int) (D:List (List Int)):Prop:=
 (0<L.length/\isHead (L.getD 0 []) q N)/\N.length+2<=L.length/\L.getD (L.length-1) []=sealS (endL q)/\(L.drop 1).take N.length=D/\whole D=true
def NoTxn (w:World) (e:Ending) (w':World):Prop:=e=.returned (.tuple #[.agg #[.int .u32 0,.slice none 0 0,.slice none 0 0],.bool false])/\Below w.heap.size w w'
theorem tUnpack_head {w:World}{v:Value}{L:List (List Int)} (hs:BBSl w v L) (hno:∀ q N,¬ (0<L.length/\isHead (L.getD 0 []) q N)):Calls Tryz.prog 173 #[v] w (NoTxn w):=by
 have hbx:=below_box w (.cells #[.int .u32 0,.slice none 0 0,.slice none 0 0] 183)
 have hnx:=heap_alloc_new w (.cells #[.int .u32 0,.slice none 0 0,.slice none 0 0] 183)
 have KR:Hid (∀ W,Below w.heap.size w W->Calls Tryz.prog 175 #[v] W fun e w'=>e=.returned (.tuple #[.int .u32 0,.slice none 0 0,.bool false])/\Below W.heap.size W w'):=Lib.hid fun W hb=>(tReadH_any (hs.below hb)).mono fun e w' ⟨hb,hc⟩=>by
  rcases hc with ⟨q,N,u,h0,hq,_⟩| ⟨_,he⟩
  · exact absurd ⟨h0,hq⟩ (hno q N)
  · exact ⟨he,hb⟩
 obtain ⟨ao,cap,rfl,_⟩:=hs.shape
 generalize L.length=m at KR |-
 clear hs hno
 go_enter Tryz.func173,Tryz.ntmps173
 go_upto_region 1 with (fail)
 generalize w.alloc (.cells #[.int .u32 0,.slice none 0 0,.slice none 0 0] 183)=w1 at hbx hnx |-
 have HBX:=Lib.hid hbx
 have HNX:=Lib.hid hnx
 clear hnx
 go_wp2_with (go_at_call 175;(with_reducible refine (KR.out _ hbx).mono ?_);rintro e w2 ⟨rfl,hb2⟩)
 have HB2:=Lib.hid hb2
 clear hb2 hbx
 go_quiet (fail)
 have hr2:(w2.drewN nq).heap[w.heap.size]? =some (.cells #[.int .u32 0,.slice none 0 0,.slice none 0 0] 183 (0,0)):=hold9 HNX.out (below_drewN' HB2.out nq)
 go_wp2_with (with_reducible refine wpList_store_t3 rfl 183 sizeT (.tmp 2) (.tmp 36) rfl w.heap.size rfl _ _ _ _ _ _ rfl rfl rfl rfl _ hr2 ?_;intro w9 hw9 hr9)
 refine bodyPost_ret (ret_cell_t3 rfl Tryz.underlying183 sizeT _ _ w.heap.size _ _ _ _ _ rfl hr9 rfl) rfl ⟨rfl,?_⟩
 exact (below_drewN' (HBX.out.trans (HB2.out.mono HBX.out.size)) nq).trans (hw9.below (Nat.le_refl _))
theorem tUnpack_short {w:World}{v:Value}{q:Int}{N:List Int}{L:List (List Int)} (hs:BBSl w v L) (h0:0<L.length) (hq:isHead (L.getD 0 []) q N) (hlen:¬ N.length+2<=L.length):Calls Tryz.prog 173 #[v] w (NoTxn w):=by
 have hbx:=below_box w (.cells #[.int .u32 0,.slice none 0 0,.slice none 0 0] 183)
 have hnx:=heap_alloc_new w (.cells #[.int .u32 0,.slice none 0 0,.slice none 0 0] 183)
 have KR:=Lib.hid (fun W (hb:Below w.heap.size w W)=>tReadH_of (hs.below hb) h0 hq.2.2 hq.1 hq.2.1.1 hq.2.1.2)
 have h37:=(frmNs_of hq.1).1
 have HNS:=Lib.hid (fun W vN (h:IR W 0 vN N)=>h.isc.2)
 obtain ⟨ao,cap,rfl,_⟩:=hs.shape
 obtain ⟨n,hn⟩:∃ n,n=N.length:=⟨_,rfl⟩
 obtain ⟨m,hm⟩:∃ m,m=L.length:=⟨_,rfl⟩
 rw[<- hm] at hlen KR |-
 rw[<- hn] at hlen h37 HNS
 have e1:(m:Int)<(n:Int)+2:=by omega
 have e2:decide ((m:Int)<(n:Int)+2)=true:=decide_eq_true e1
 have ew2:IntKind.i64.wrap ((n:Int)+2)=(n:Int)+2:=IntWalk.i64_in _ (by omega)
 clear hs h0 hq hn hm
 go_enter Tryz.func173,Tryz.ntmps173
 go_upto_region 1 with (fail)
 generalize w.alloc (.cells #[.int .u32 0,.slice none 0 0,.slice none 0 0] 183)=w1 at hbx hnx |-
 have HBX:=Lib.hid hbx
 have HNX:=Lib.hid hnx
 clear hnx
 go_wp2_with (go_at_call 175;(with_reducible refine (KR.out _ hbx).mono ?_);rintro e w2 ⟨v2,rfl,hv2,hb2⟩
              obtain ⟨no,nc,rfl,_⟩:=HNS.out _ _ hv2)
 have HB2:=Lib.hid hb2
 clear hb2 hbx hv2
 go_quiet (fail)
 have hr2:(w2.drewN nq).heap[w.heap.size]? =some (.cells #[.int .u32 0,.slice none 0 0,.slice none 0 0] 183 (0,0)):=hold9 HNX.out (below_drewN' HB2.out nq)
 go_wp2_with (with_reducible refine wpList_store_t3 rfl 183 sizeT (.tmp 2) (.tmp 36) rfl w.heap.size rfl _ _ _ _ _ _ rfl rfl rfl rfl _ hr2 ?_;intro w9 hw9 hr9)
 refine bodyPost_ret (ret_cell_t3 rfl Tryz.underlying183 sizeT _ _ w.heap.size _ _ _ _ _ rfl hr9 rfl) rfl ⟨rfl,?_⟩
 exact (below_drewN' (HBX.out.trans (HB2.out.mono HBX.out.size)) nq).trans (hw9.below (Nat.le_refl _))
set_option maxHeartbeats 1000000 in
theorem tUnpack_rest {w:World}{v:Value}{q:Int}{N:List Int}{L:List (List Int)} (hs:BBSl w v L) (hL:L.length<=1000000) (hq:isHead (L.getD 0 []) q N) (hlen:N.length+2<=L.length)
 (hbad:L.getD (L.length-1) []≠sealS (endL q)\/L.getD (L.length-1) []=sealS (endL q)/\whole ((L.drop 1).take N.length)=false):Calls Tryz.prog 173 #[v] w (NoTxn w):=by
 have h37:=(frmNs_of hq.1).1
 have hbx:=below_box w (.cells #[.int .u32 0,.slice none 0 0,.slice none 0 0] 183)
 have hnx:=heap_alloc_new w (.cells #[.int .u32 0,.slice none 0 0,.slice none 0 0] 183)
 have KR:=Lib.hid (fun W (hb:Below w.heap.size w W)=>tReadH_of (hs.below hb) (by omega) hq.2.2 hq.1 hq.2.1.1 hq.2.1.2)
 have KE:=Lib.hid (fun W=>tEnd_of W hq.2.1.1 hq.2.1.2)
 obtain ⟨ao,cap,rfl,hcap,hc⟩:=hs.open'
 obtain ⟨b,off,rfl,hb,hcc⟩:=hc (by omega)
 obtain ⟨u0,hu0,hb0⟩:=hcc (L.length-1) (by omega)
 obtain ⟨uo,uc,rfl,_⟩:=hb0.shape
 have hmid:=hs.mid 1 N.length (by omega) _ rfl
 have hml:((L.drop 1).take N.length).length<=1000000:=by simp;omega
 have KW:=Lib.hid (fun W (hb:Below w.heap.size w W)=>tWhole_of (hmid.below hb) hml)
 have HU0:=Lib.hid hb0
 have HNS:=Lib.hid (fun W vN (h:IR W 0 vN N)=>h.isc.2)
 generalize sealS (endL q)=EB at KE hbad
 obtain ⟨LB,hLB⟩:∃ LB,LB=L.getD (L.length-1) []:=⟨_,rfl⟩
 rw[<- hLB] at HU0 hbad hu0
 obtain ⟨y,hy⟩:∃ y,y=LB.length:=⟨_,rfl⟩
 rw[<- hy] at hu0 HU0
 obtain ⟨WB,hWB⟩:∃ WB,WB=whole ((L.drop 1).take N.length):=⟨_,rfl⟩
 rw[<- hWB] at KW hbad
 obtain ⟨n,hn⟩:∃ n,n=N.length:=⟨_,rfl⟩
 obtain ⟨m,hm⟩:∃ m,m=L.length:=⟨_,rfl⟩
 rw[<- hm] at hlen hcap hu0 hL KR |-
 rw[<- hn] at hlen h37 KW HNS
 have ew:IntKind.i64.wrap ((m:Int)-1)=(m:Int)-1:=IntWalk.i64_in _ (by omega)
 have ew2:IntKind.i64.wrap ((n:Int)+2)=(n:Int)+2:=IntWalk.i64_in _ (by omega)
 have e1:(0:Int)<=(m:Int)-1:=by omega
 have e2:((m:Int)-1).toNat=m-1:=by omega
 have e3:(m:Int)-1<(m:Int):=by omega
 have e4:¬ (m:Int)<(n:Int)+2:=by omega
 have e5:decide ((m:Int)<(n:Int)+2)=false:=decide_eq_false e4
 have e6:m-1<m:=by omega
 have e7:(1:Int)<=(m:Int):=by omega
 have e8:1<=m:=by omega
 have e9:0<m:=by omega
 have e10:(0:Int)<(m:Int):=by omega
 have HE1:Hid (1+n-1=n):=Lib.hid (by omega)
 have HE2:Hid ((1:Int)+(n:Int)=((1+n:Nat):Int)):=Lib.hid (by push_cast;rfl)
 have HE3:Hid (1<=1+n/\1+n<=cap/\1<cap):=Lib.hid (by omega)
 have HBAD:=Lib.hid hbad
 clear hs hq hc hcc hb0 hmid hn hm h37 hml hLB hWB hbad hy
 go_enter Tryz.func173,Tryz.ntmps173
 go_upto_region 1 with (fail)
 generalize w.alloc (.cells #[.int .u32 0,.slice none 0 0,.slice none 0 0] 183)=w1 at hbx hnx |-
 go_wp2_with (go_at_call 175;(with_reducible refine (KR.out _ hbx).mono ?_);rintro e w2 ⟨v2,rfl,hv2,hb2⟩
              obtain ⟨no,nc,rfl,_⟩:=HNS.out _ _ hv2)
 have HB2:Hid (Below w1.heap.size w1 w2.drew):=Lib.hid (below_drewN' hb2 1)
 have HBX:=Lib.hid hbx
 have HNX:=Lib.hid hnx
 have e0:w2.drew.cell? ⟨b,off+(m-1),none⟩=some (.slice uo y uc):=((hbx.trans (HB2.out.mono hbx.size)).cell (p:=⟨b,off+(m-1),none⟩) hb).trans hu0
 have HU2:=Lib.hid (HU0.out.below (hbx.trans (HB2.out.mono hbx.size)))
 have hz2:b<w2.drew.heap.size:=Nat.lt_of_lt_of_le hb (hbx.trans (HB2.out.mono hbx.size)).size
 clear hv2 hb2 hbx hnx hu0 hb HU0
 rcases HBAD.out with hne| ⟨heq,hwh⟩
 · have HNE:=Lib.hid hne
   clear hne HBAD
   go_region_held3 (fun W=>W.cell? ⟨b,off+(m-1),none⟩=some (.slice uo y uc)) (first|exact f0|exact e0) (first
    |(go_at_call 200;(with_reducible refine (KE.out _).mono ?_);rintro e w5 ⟨v5,rfl,hob5,hb5⟩
      have f0:=(hb5.cell (p:=⟨b,off+(m-1),none⟩) hz2).trans e0
      have K6:=Lib.hid (bEqual_of (HU2.out.below hb5) hob5.bsl)
      rw[decide_eq_false HNE.out] at K6
      have HB5:=Lib.hid (HB2.out.trans (hb5.mono HB2.out.size))
      clear hob5)
    |(go_at_call 99;(with_reducible refine K6.out.mono ?_);rintro e w6 ⟨rfl,rfl⟩))
   have hr5:=hold9 HNX.out HB5.out
   clear ew ew2 e1 e2 e3 e4 e5 e6 e7 e8 e9 e10 e0 f0 hb5 KW KE KR K6
   go_wp2_with (with_reducible refine wpList_store_t3 rfl 183 sizeT (.tmp 2) (.tmp 36) rfl w.heap.size rfl _ _ _ _ _ _ rfl rfl rfl rfl _ hr5 ?_;intro w9 hw9 hr9)
   refine bodyPost_ret (ret_cell_t3 rfl Tryz.underlying183 sizeT _ _ w.heap.size _ _ _ _ _ rfl hr9 rfl) rfl ⟨rfl,?_⟩
   exact (HBX.out.trans (HB5.out.mono HBX.out.size)).trans (hw9.below (Nat.le_refl _))
 · subst heq hwh
   clear HBAD
   go_region_held3 (fun W=>W.cell? ⟨b,off+(m-1),none⟩=some (.slice uo y uc)) (first|exact f0|exact e0) (first
    |(go_at_call 200;(with_reducible refine (KE.out _).mono ?_);rintro e w5 ⟨v5,rfl,hob5,hb5⟩
      have f0:=(hb5.cell (p:=⟨b,off+(m-1),none⟩) hz2).trans e0
      have K6:=Lib.hid (bEqual_of (HU2.out.below hb5) hob5.bsl)
      rw[decide_eq_true (rfl:LB=LB)] at K6
      have HB5:=Lib.hid (HB2.out.trans (hb5.mono HB2.out.size))
      clear hob5)
    |(go_at_call 99;(with_reducible refine K6.out.mono ?_);rintro e w6 ⟨rfl,rfl⟩))
   have HB05:=Lib.hid (HBX.out.trans (HB5.out.mono HBX.out.size))
   have K7:=Lib.hid (KW.out _ HB05.out)
   have hr5:=hold9 HNX.out HB5.out
   clear ew ew2 e1 e2 e3 e4 e5 e6 e7 e8 e9 e10 e0 f0 hb5 KW KE KR K6
   go_wp2_with (first
    |(with_reducible refine wpList_slice_bb rfl (.tmp 37) (.const (.int .i64 1)) (.tmp 40) rfl b off m cap rfl 1 (1+(n:Int)) rfl rfl 1 (1+n) n HE1.out rfl HE2.out HE3.out.1 HE3.out.2.1 HE3.out.2.2 ?_)
    |(go_at_call 201;(with_reducible refine K7.out.mono ?_);rintro e w7 ⟨rfl,rfl⟩)
    |(with_reducible refine wpList_store_t3 rfl 183 sizeT (.tmp 2) (.tmp 45) rfl w.heap.size rfl _ _ _ _ _ _ rfl rfl rfl rfl _ hr5 ?_;intro w9 hw9 hr9))
   refine bodyPost_ret (ret_cell_t3 rfl Tryz.underlying183 sizeT _ _ w.heap.size _ _ _ _ _ rfl hr9 rfl) rfl ⟨rfl,?_⟩
   exact HB05.out.trans (hw9.below (Nat.le_refl _))
theorem tUnpack_any {w:World}{v:Value}{L:List (List Int)} (hs:BBSl w v L) (hL:L.length<=1000000):
 Calls Tryz.prog 173 #[v] w fun e w'=>Below w.heap.size w w'/\
  ((∃ q N D vN vD,isTxn L q N D/\e=.returned (.tuple #[.agg #[.int .u32 q,vN,vD],.bool true])/\IR w' 0 vN N/\BBR w' 0 vD D)\/
   ((∀ q N D,¬ isTxn L q N D)/\e=.returned (.tuple #[.agg #[.int .u32 0,.slice none 0 0,.slice none 0 0],.bool false]))):=by
 by_cases hd:∃ q N,0<L.length/\isHead (L.getD 0 []) q N
 · obtain ⟨q,N,h0,hq⟩:=hd
   have one:∀ q' N' D,isTxn L q' N' D->q'=q/\N'=N:=fun q' N' D h=>isHead_one h.1.2 hq
   by_cases hlen:N.length+2<=L.length
   · by_cases hz:L.getD (L.length-1) []=sealS (endL q)
     · cases hw:whole ((L.drop 1).take N.length)
       · refine (tUnpack_rest hs hL hq hlen (.inr ⟨hz,hw⟩)).mono ?_
         rintro e w' ⟨rfl,hb⟩
         refine ⟨hb,.inr ⟨fun q' N' D h=>?_,rfl⟩⟩
         obtain ⟨rfl,rfl⟩:=one _ _ _ h
         obtain ⟨_,_,_,rfl,h5⟩:=h
         rw[hw] at h5;cases h5
       · refine (tUnpack_own hs hL hlen hq.2.2 hz rfl hw hq.1 hq.2.1.1 hq.2.1.2).mono ?_
         rintro e w' ⟨vN,vD,rfl,h1,h2,hb⟩
         exact ⟨hb,.inl ⟨q,N,_,vN,vD,⟨⟨h0,hq⟩,hlen,hz,rfl,hw⟩,rfl,h1,h2⟩⟩
     · refine (tUnpack_rest hs hL hq hlen (.inl hz)).mono ?_
       rintro e w' ⟨rfl,hb⟩
       refine ⟨hb,.inr ⟨fun q' N' D h=>?_,rfl⟩⟩
       obtain ⟨rfl,rfl⟩:=one _ _ _ h
       exact hz h.2.2.1
   · refine (tUnpack_short hs h0 hq hlen).mono ?_
     rintro e w' ⟨rfl,hb⟩
     refine ⟨hb,.inr ⟨fun q' N' D h=>?_,rfl⟩⟩
     obtain ⟨rfl,rfl⟩:=one _ _ _ h
     exact hlen h.2.1
 · have hno:∀ q N,¬ (0<L.length/\isHead (L.getD 0 []) q N):=fun q N h=>hd ⟨q,N,h⟩
   refine (tUnpack_head hs hno).mono ?_
   rintro e w' ⟨rfl,hb⟩
   exact ⟨hb,.inr ⟨fun q N D h=>hno q N h.1,rfl⟩⟩
inductive PA where
 |w (n:Nat) (l:List Int)
 |f
def PA.run (s:DS):PA->DS
 |.w n l=>s.write n l
 |.f=>s.flush
def runA:List PA->DS->Int × DS
 |[],s=>(0,s)
 |a :: A,s=>if s.ok=true then runA A (a.run s) else (2,s.pay)
def PA.fu (x:List (List Int) × List (Nat × List Int)):PA->List (List Int) × List (Nat × List Int)
 |.w n l=>(x.1,x.2 ++ [(n,l)])
 |.f=>(appU x.2 x.1,[])
def foldA (A:List PA) (x:List (List Int) × List (Nat × List Int)):List (List Int) × List (Nat × List Int):=A.foldl PA.fu x
def DS.fuP (s:DS):List (List Int) × List (Nat × List Int):=(s.F,s.U)
theorem foldA_append (A B:List PA) (x:List (List Int) × List (Nat × List Int)):foldA (A ++ B) x=foldA B (foldA A x):=List.foldl_append
theorem PA.run_fu (s:DS) (a:PA):(a.run s).fuP=a.fu s.fuP:=by cases a <;> rfl
theorem runA_pre:∀ (A:List PA) (s:DS),∃ k,k<=A.length/\(runA A s).2.fuP=foldA (A.take k) s.fuP/\((runA A s).1=0/\k=A.length\/(runA A s).1=2)
 |[],s=>⟨0,Nat.le_refl _,rfl,.inl ⟨rfl,rfl⟩⟩
 |a :: A,s=>by
  unfold runA
  by_cases h:s.ok=true
  · rw[if_pos h]
    obtain ⟨k,hk,h1,h2⟩:=runA_pre A (a.run s)
    refine ⟨k+1,by simp;omega,?_,?_⟩
    · rw[h1,PA.run_fu];rfl
    · rcases h2 with ⟨h2,h3⟩|h2
      · exact .inl ⟨h2,by simp[h3]⟩
      · exact .inr h2
  · rw[if_neg h]
    exact ⟨0,Nat.zero_le _,rfl,.inr rfl⟩
theorem runA_free:∀ (A:List PA) (s:DS),s.fu=false->s.dn=false->(runA A s).1=0/\(runA A s).2.fuP=foldA A s.fuP/\(runA A s).2.fu=false/\(runA A s).2.dn=false/\(runA A s).2.le=s.le
 |[],s,h1,h2=>⟨rfl,rfl,h1,h2,rfl⟩
 |a :: A,s,h1,h2=>by
  have hok:s.ok=true:=by unfold DS.ok pOk;rw[h1,h2];rfl
  unfold runA
  rw[if_pos hok]
  have f1:(a.run s).fu=false:=by cases a <;> exact h1
  have f2:(a.run s).dn=false:=by
   have:pDn s.fu s.le s.dn=false:=by unfold pDn;rw[h1,h2];rfl
   cases a <;> exact this
  have f3:(a.run s).le=s.le:=by
   have:pLe s.fu s.le s.dn=s.le:=by unfold pLe;rw[if_neg (by rw[h1];simp)]
   cases a <;> exact this
  obtain ⟨g1,g2,g3,g4,g5⟩:=runA_free A (a.run s) f1 f2
  exact ⟨g1,by rw[g2,PA.run_fu];rfl,g3,g4,g5.trans f3⟩
theorem foldA_ws (W:List (Nat × List Int)) (x:List (List Int) × List (Nat × List Int)):foldA (W.map fun y=>.w y.1 y.2) x=(x.1,x.2 ++ W):=by
 induction W generalizing x with
 |nil=>simp[foldA]
 |cons y W ih=>
  show foldA (W.map fun y=>.w y.1 y.2) (x.1,x.2 ++ [(y.1,y.2)])=_
  rw[ih];simp
theorem appU_or:∀ (W:List (Nat × List Int)) (F:List (List Int)) (i:Nat) (y:List Int),(∀ x∈W,x.1=i->x.2=y)->(appU W F).getD i []=F.getD i []\/(appU W F).getD i []=y
 |[],F,i,y,_=>.inl rfl
 |x :: W,F,i,y,h=>by
  have ih:=appU_or W (F.set x.1 x.2) i y fun z hz=>h z (List.mem_cons_of_mem _ hz)
  show (appU W (F.set x.1 x.2)).getD i []=_\/_
  rcases ih with ih|ih
  · show (appU W (F.set x.1 x.2)).getD i []=F.getD i []\/(appU W (F.set x.1 x.2)).getD i []=y
    rw[ih]
    by_cases e:x.1=i
    · by_cases hi:i<F.length
      · right
        have:=h x (List.mem_cons_self ..) e
        subst e
        rw[<- this]
        simp[List.getD_eq_getElem?_getD,hi]
      · left
        rw[List.getD_eq_getElem?_getD,List.getElem?_eq_none (by rw[List.length_set];omega),List.getD_eq_getElem?_getD,List.getElem?_eq_none (by omega)]
    · left
      rw[List.getD_eq_getElem?_getD,List.getElem?_set_ne e,<- List.getD_eq_getElem?_getD]
  · exact .inr ih
theorem appU_hit:∀ (W:List (Nat × List Int)) (F:List (List Int)) (i:Nat) (y:List Int),i<F.length->(∀ x∈W,x.1=i->x.2=y)->(∃ x∈W,x.1=i)->(appU W F).getD i []=y
 |[],F,i,y,_,_,h=>by obtain ⟨x,hx,_⟩:=h;cases hx
 |x :: W,F,i,y,hi,hall,hex=>by
  show (appU W (F.set x.1 x.2)).getD i []=y
  by_cases h:∃ z∈W,z.1=i
  · exact appU_hit W _ i y (by rw[List.length_set];exact hi) (fun z hz=>hall z (List.mem_cons_of_mem _ hz)) h
  · have e:x.1=i:=by
     obtain ⟨z,hz,hzi⟩:=hex
     rcases List.mem_cons.1 hz with rfl|hz
     · exact hzi
     · exact absurd ⟨z,hz,hzi⟩ h
    rw[appU_other W _ i fun z hz hzi=>h ⟨z,hz,hzi⟩]
    have:=hall x (List.mem_cons_self ..) e
    subst e
    rw[<- this]
    simp[List.getD_eq_getElem?_getD,hi]
def jour (V:List (List Int)):List (List Int):=(V.drop 3).take 40
theorem jour_length {V:List (List Int)} (h:43<=V.length):(jour V).length=40:=by simp[jour];omega
theorem jour_get (V:List (List Int)) (j:Nat) (hj:j<40):(jour V).getD j []=V.getD (3+j) []:=by
 simp[jour,List.getD_eq_getElem?_getD,hj]
theorem jour_congr {V V':List (List Int)} (h:43<=V.length) (h':43<=V'.length) (he:∀ i,3<=i->i<43->V.getD i []=V'.getD i []):jour V=jour V':=by
 apply List.ext_getElem
 · rw[jour_length h,jour_length h']
 · intro j a b
   have hj:j<40:=by rw[jour_length h] at a;exact a
   have g1:(jour V).getD j []=(jour V)[j]:=by simp[List.getD_eq_getElem?_getD,a]
   have g2:(jour V').getD j []=(jour V')[j]:=by simp[List.getD_eq_getElem?_getD,b]
   rw[<- g1,<- g2,jour_get V j hj,jour_get V' j hj]
   exact he _ (by omega) (by omega)
theorem end_word (q:Int):(sealS (endL q)).getD 0 0=100:=by
 have e:sealS (endL q)=100 :: ([111,110,101] ++ lowB q 4 ++ List.replicate (252-(endL q).length) 0 ++ lowB (sumS (fillS (endL q))) 4):=by
  unfold sealS
  generalize sumS (fillS (endL q))=S
  unfold fillS
  generalize List.replicate (252-(endL q).length) (0:Int)=R
  unfold endL done9
  simp
 rw[e];rfl
theorem rep_zero (n:Nat) (h:0<n):(List.replicate n (0:Int)).getD 0 0=0:=by
 cases n with
 |zero=>omega
 |succ n=>rfl
def z256:List Int:=List.replicate 256 0
theorem jour_zero {V:List (List Int)} (h:43<=V.length) (hz:V.getD 42 []=z256) (q:Int) (N:List Int) (D:List (List Int)):¬ isTxn (jour V) q N D:=by
 rintro ⟨_,_,hl,_⟩
 rw[jour_length h,jour_get V 39 (by omega)] at hl
 have e:=end_word q
 rw[<- hl,hz,z256,rep_zero 256 (by omega)] at e
 exact absurd e (by decide)
theorem jour_txn {V:List (List Int)} (h:43<=V.length) {q:Int}{N:List Int}{D:List (List Int)} (hF:frmT N D=true) (hq:0<=q/\q<4294967296) (h3:V.getD 3 []=sealS (headL q N)) (hb:∀ j,j<N.length->V.getD (4+j) []=D.getD j []) (hz:V.getD 42 []=sealS (endL q)):isTxn (jour V) q N D:=by
 obtain ⟨h37,hDl,hall⟩:=frmT_of hF
 have hFN:frmNs N=true:=by rw[frmT_parts] at hF;rw[Bool.and_eq_true] at hF;exact hF.1
 have hW:whole D=true:=by rw[frmT_parts,Bool.and_eq_true,Bool.and_eq_true] at hF;exact hF.2.2
 have hjl:=jour_length h
 refine ⟨⟨by omega,hFN,hq,by rw[jour_get V 0 (by omega)];exact h3⟩,by omega,by rw[hjl,jour_get V 39 (by omega)];exact hz,?_,hW⟩
 apply List.ext_getElem
 · simp[hjl];omega
 · intro j a b
   have hj:j<N.length:=by omega
   have h1:=jour_get V (1+j) (by omega)
   have h2:=hb j hj
   have h3:(jour V)[1+j]? =some (V.getD (4+j) []):=by
    rw[List.getD_eq_getElem?_getD,List.getElem?_eq_getElem (by omega)] at h1
    rw[List.getElem?_eq_getElem (by omega),<- show 3+(1+j)=4+j by omega,<- h1];rfl
   have h4:((jour V).drop 1).take N.length=((jour V).drop 1).take N.length:=rfl
   have h5:(((jour V).drop 1).take N.length)[j]? =some (V.getD (4+j) []):=by
    rw[List.getElem?_take,if_pos hj,List.getElem?_drop];exact h3
   rw[List.getElem?_eq_getElem a] at h5
   have h6:D.getD j []=D[j]:=by simp[List.getD_eq_getElem?_getD,b]
   rw[Option.some.inj h5,h2,h6]
def OutJ (i:Nat):Prop:=i<3\/43<=i
def homeW (N:List Int) (D:List (List Int)):List (Nat × List Int):=(List.range N.length).map fun j=>((N.getD j 0).toNat,D.getD j [])
theorem homeW_mem {N:List Int}{D:List (List Int)}{x:Nat × List Int} (h:x∈homeW N D):∃ j,j<N.length/\x=((N.getD j 0).toNat,D.getD j []):=by
 obtain ⟨j,hj,rfl⟩:=List.mem_map.1 h
 exact ⟨j,List.mem_range.1 hj,rfl⟩
def farT (n:Nat) (N:List Int):Prop:=∀ j,j<N.length->OutJ (N.getD j 0).toNat/\(N.getD j 0).toNat<n
theorem homeW_one {N:List Int}{D:List (List Int)} (hF:frmT N D=true) {x y:Nat × List Int} (hx:x∈homeW N D) (hy:y∈homeW N D) (h:x.1=y.1):x.2=y.2:=by
 obtain ⟨_,_,hall⟩:=frmT_of hF
 obtain ⟨i,hi,rfl⟩:=homeW_mem hx
 obtain ⟨j,hj,rfl⟩:=homeW_mem hy
 have hi':=hall i hi
 have hj':=hall j hj
 have e:N.getD i 0=N.getD j 0:=by
  have:(N.getD i 0).toNat=(N.getD j 0).toNat:=h
  omega
 have eij:i=j:=by
  rcases Nat.lt_trichotomy i j with hlt|hlt|hlt
  · exact absurd e ((newT_iff N j hj).1 hj'.2.2 i hlt)
  · exact hlt
  · exact absurd e.symm ((newT_iff N i hi).1 hi'.2.2 j hlt)
 rw[eij]
theorem home_some {N:List Int}{D:List (List Int)} (hF:frmT N D=true) {W:List (Nat × List Int)} (hW:∀ x∈W,x∈homeW N D) (F G:List (List Int)) (i:Nat) (hi:i<G.length) (h0:F.getD i []=G.getD i []\/F.getD i []=(appU (homeW N D) G).getD i []):
 (appU W F).getD i []=G.getD i []\/(appU W F).getD i []=(appU (homeW N D) G).getD i []:=by
 by_cases hex:∃ x∈homeW N D,x.1=i
 · obtain ⟨x,hx,hxi⟩:=hex
   have hall:∀ z∈homeW N D,z.1=i->z.2=x.2:=fun z hz hzi=>homeW_one hF hz hx (hzi.trans hxi.symm)
   have h1:=appU_hit (homeW N D) G i x.2 hi hall ⟨x,hx,hxi⟩
   rw[h1]
   rcases appU_or W F i x.2 (fun z hz hzi=>hall z (hW z hz) hzi) with h|h
   · rw[h];rw[h1] at h0;exact h0
   · exact .inr h
 · have hno:∀ z∈homeW N D,z.1≠i:=fun z hz hzi=>hex ⟨z,hz,hzi⟩
   rw[appU_other W F i fun z hz=>hno z (hW z hz)]
   exact h0
theorem home_all {N:List Int}{D:List (List Int)} (hF:frmT N D=true) (F G:List (List Int)) (hl:F.length=G.length) (i:Nat) (hi:i<G.length) (h0:F.getD i []=G.getD i []\/F.getD i []=(appU (homeW N D) G).getD i []):
 (appU (homeW N D) F).getD i []=(appU (homeW N D) G).getD i []:=by
 by_cases hex:∃ x∈homeW N D,x.1=i
 · obtain ⟨x,hx,hxi⟩:=hex
   have hall:∀ z∈homeW N D,z.1=i->z.2=x.2:=fun z hz hzi=>homeW_one hF hz hx (hzi.trans hxi.symm)
   rw[appU_hit (homeW N D) G i x.2 hi hall ⟨x,hx,hxi⟩,appU_hit (homeW N D) F i x.2 (by omega) hall ⟨x,hx,hxi⟩]
 · have hno:∀ z∈homeW N D,z.1≠i:=fun z hz hzi=>hex ⟨z,hz,hzi⟩
   have e:=appU_other (homeW N D) G i hno
   rw[appU_other _ F i hno,e]
   rcases h0 with h0|h0
   · exact h0
   · rw[h0,e]
theorem home_jour {N:List Int}{D:List (List Int)}{n:Nat} (hf:farT n N) {W:List (Nat × List Int)} (hW:∀ x∈W,x∈homeW N D) (F:List (List Int)) (h:43<=F.length):jour (appU W F)=jour F:=by
 refine jour_congr (by rw[appU_length];exact h) h fun i h1 h2=>appU_other W F i fun x hx e=>?_
 obtain ⟨j,hj,rfl⟩:=homeW_mem (hW x hx)
 have:=(hf j hj).1
 have e:(N.getD j 0).toNat=i:=e
 rw[e] at this
 rcases this with h|h <;> omega
def InvT (F:List (List Int)) (q:Int) (N:List Int) (D G:List (List Int)):Prop:=
 F.length=G.length/\isTxn (jour F) q N D/\∀ i,OutJ i->i<G.length->F.getD i []=G.getD i []\/F.getD i []=(appU (homeW N D) G).getD i []
def InvN (F G:List (List Int)):Prop:=F.length=G.length/\F.getD 42 []=z256/\∀ i,OutJ i->i<G.length->F.getD i []=G.getD i []
theorem InvT.home {F:List (List Int)}{q:Int}{N:List Int}{D G:List (List Int)} (h:InvT F q N D G) (hF:frmT N D=true) (hf:farT G.length N) (hG:43<=G.length) {W:List (Nat × List Int)} (hW:∀ x∈W,x∈homeW N D):InvT (appU W F) q N D G:=
 ⟨by rw[appU_length];exact h.1,by rw[home_jour hf hW F (by rw[h.1];exact hG)];exact h.2.1,fun i hi hl=>home_some hF hW F G i hl (h.2.2 i hi hl)⟩
theorem InvT.done {F:List (List Int)}{q:Int}{N:List Int}{D G:List (List Int)} (h:InvT F q N D G) (hF:frmT N D=true) (i:Nat) (hi:OutJ i) (hl:i<G.length):(appU (homeW N D) F).getD i []=(appU (homeW N D) G).getD i []:=
 home_all hF F G h.1 i hl (h.2.2 i hi hl)
def layA (q:Int) (W:List (Nat × List Int)):List PA:=[.f,.w 42 z256,.f] ++ (W.map fun y=>.w y.1 y.2) ++ [.f,.w 42 (sealS (endL q)),.f]
def layW (q:Int) (N:List Int) (D:List (List Int)) (W:List (Nat × List Int)):Prop:=
 (∀ x∈W,3<=x.1/\x.1<42)/\∀ F:List (List Int),43<=F.length->(appU W F).getD 3 []=sealS (headL q N)/\∀ j,j<N.length->(appU W F).getD (4+j) []=D.getD j []
theorem set_other (F:List (List Int)) (k i:Nat) (x:List Int) (h:k≠i):(F.set k x).getD i []=F.getD i []:=by
 rw[List.getD_eq_getElem?_getD,List.getElem?_set_ne h,<- List.getD_eq_getElem?_getD]
theorem set_same (F:List (List Int)) (k:Nat) (x:List Int) (h:k<F.length):(F.set k x).getD k []=x:=by
 simp[List.getD_eq_getElem?_getD,h]
theorem keepU_one (kp:Nat->Bool) (x:Nat × List Int):keepU kp [x]=[]\/keepU kp [x]=[x]:=by
 unfold keepU
 cases h:kp 0
 · left;simp[h]
 · right;simp[h]
theorem lay_crash {q1 q2:Int}{N1 N2:List Int}{D1 D2 Z:List (List Int)} (hZ:43<=Z.length) {W:List (Nat × List Int)} (hW:layW q2 N2 D2 W) (hF1:frmT N1 D1=true) (hf1:farT Z.length N1) (hF2:frmT N2 D2=true) (hq2:0<=q2/\q2<4294967296)
 (s:DS) (hs:InvT s.F q1 N1 D1 Z) (hU:∀ x∈s.U,x∈homeW N1 D1) (hv:∀ i,OutJ i->i<Z.length->s.vis.getD i []=(appU (homeW N1 D1) Z).getD i []) (kp:Nat->Bool):
 let r:=runA (layA q2 W) s
 let G:=appU (homeW N1 D1) Z
 (InvT (appU (keepU kp r.2.U) r.2.F) q1 N1 D1 Z/\r.1=2\/InvN (appU (keepU kp r.2.U) r.2.F) G/\r.1=2\/InvT (appU (keepU kp r.2.U) r.2.F) q2 N2 D2 G)/\
   (r.1=0->r.2.U=[]/\InvT r.2.F q2 N2 D2 G/\∀ i,OutJ i->i<Z.length->r.2.F.getD i []=G.getD i []):=by
 intro r G
 have hGl:G.length=Z.length:=appU_length _ _
 obtain ⟨k,hk,hfu,hr⟩:=runA_pre (layA q2 W) s
 have hrF:r.2.F=(foldA ((layA q2 W).take k) s.fuP).1:=congrArg Prod.fst hfu
 have hrU:r.2.U=(foldA ((layA q2 W).take k) s.fuP).2:=congrArg Prod.snd hfu
 have hlen:(layA q2 W).length=6+W.length:=by simp[layA];omega
 obtain ⟨V0,hV0⟩:∃ V0,V0=s.vis:=⟨_,rfl⟩
 have hV0l:V0.length=Z.length:=by rw[hV0,DS.vis_length,hs.1]
 have hV0j:jour V0=jour s.F:=by rw[hV0];exact home_jour hf1 hU s.F (by rw[hs.1];exact hZ)
 have hV0o:∀ i,OutJ i->i<Z.length->V0.getD i []=G.getD i []:=by rw[hV0];exact hv
 have hI0:InvT V0 q1 N1 D1 Z:=⟨hV0l,by rw[hV0j];exact hs.2.1,fun i hi hl=>.inr (hV0o i hi hl)⟩
 obtain ⟨V1,hV1⟩:∃ V1,V1=V0.set 42 z256:=⟨_,rfl⟩
 have hV1l:V1.length=Z.length:=by rw[hV1,List.length_set,hV0l]
 have out42:∀ i,OutJ i->42≠i:=fun i hi e=>by rcases hi with h|h <;> omega
 have hV1o:∀ i,OutJ i->i<Z.length->V1.getD i []=G.getD i []:=fun i hi hl=>by rw[hV1,set_other _ _ _ _ (out42 i hi)];exact hV0o i hi hl
 have hV1z:V1.getD 42 []=z256:=by rw[hV1];exact set_same _ _ _ (by omega)
 have hN1:InvN V1 G:=⟨by rw[hV1l,hGl],hV1z,fun i hi hl=>hV1o i hi (by rw[hGl] at hl;exact hl)⟩
 have hWN:∀ X,(∀ x∈X,x∈W)->InvN (appU X V1) G:=fun X hX=>by
  refine ⟨by rw[appU_length,hV1l,hGl],?_,fun i hi hl=>?_⟩
  · rw[appU_other X V1 42 fun x hx e=>by have:=(hW.1 x (hX x hx)).2;omega];exact hV1z
  · rw[appU_other X V1 i fun x hx e=>by have:=hW.1 x (hX x hx);rcases hi with h|h <;> omega]
    exact hV1o i hi (by rw[hGl] at hl;exact hl)
 obtain ⟨V2,hV2⟩:∃ V2,V2=appU W V1:=⟨_,rfl⟩
 have hV2l:V2.length=Z.length:=by rw[hV2,appU_length,hV1l]
 have hN2:InvN V2 G:=by rw[hV2];exact hWN W fun x hx=>hx
 obtain ⟨V3,hV3⟩:∃ V3,V3=V2.set 42 (sealS (endL q2)):=⟨_,rfl⟩
 have hV3l:V3.length=Z.length:=by rw[hV3,List.length_set,hV2l]
 obtain ⟨hd,hbl⟩:=hW.2 V1 (by omega)
 have h37:=(frmT_of hF2).1
 have hT3:isTxn (jour V3) q2 N2 D2:=by
  refine jour_txn (by omega) hF2 hq2 ?_ (fun j hj=>?_) ?_
  · rw[hV3,set_other _ _ _ _ (by omega),hV2];exact hd
  · rw[hV3,set_other _ _ _ _ (by omega),hV2];exact hbl j hj
  · rw[hV3];exact set_same _ _ _ (by omega)
 have hV3o:∀ i,OutJ i->i<Z.length->V3.getD i []=G.getD i []:=fun i hi hl=>by rw[hV3,set_other _ _ _ _ (out42 i hi)];exact hN2.2.2 i hi (by rw[hGl];exact hl)
 have hI3:InvT V3 q2 N2 D2 G:=⟨by rw[hV3l,hGl],hT3,fun i hi hl=>.inl (hV3o i hi (by rw[hGl] at hl;exact hl))⟩
 have full:k=(layA q2 W).length->r.2.F=V3/\r.2.U=[]:=fun e=>by
  rw[hrF,hrU,e,List.take_length]
  unfold layA
  rw[foldA_append,foldA_append,foldA_ws]
  have a1:foldA [.f,.w 42 z256,.f] s.fuP=(V1,[]):=by
   show (appU ([] ++ [(42,z256)]) (appU s.U s.F),([]:List (Nat × List Int)))=(V1,[])
   rw[hV1,hV0];rfl
  rw[a1]
  show (appU ([] ++ [(42,sealS (endL q2))]) (appU ([] ++ W) V1))=V3/\_
  rw[hV3,hV2]
  exact ⟨rfl,rfl⟩
 refine ⟨?_,fun h0=>?_⟩
 · have hcase:k=0\/k=1\/k=2\/(3<=k/\k<=3+W.length)\/k=4+W.length\/k=5+W.length\/k=6+W.length:=by omega
   have h2:k≠(layA q2 W).length->r.1=2:=fun hne=>by
    rcases hr with ⟨_,h⟩|h
    · exact absurd h hne
    · exact h
   have step:∀ j,(layA q2 W).take (3+j)=([PA.f,PA.w 42 z256,PA.f]:List PA) ++ ((W.map fun y:Nat × List Int=>PA.w y.1 y.2) ++ [PA.f,PA.w 42 (sealS (endL q2)),PA.f]).take j:=fun j=>by
    unfold layA
    rw[List.append_assoc]
    exact List.take_length_add_append (l₁:=([PA.f,PA.w 42 z256,PA.f]:List PA)) j
   have a1:foldA [.f,.w 42 z256,.f] s.fuP=(V1,[]):=by
    show (appU ([] ++ [(42,z256)]) (appU s.U s.F),([]:List (Nat × List Int)))=(V1,[])
    rw[hV1,hV0];rfl
   rcases hcase with rfl|rfl|rfl| ⟨ha,hb⟩|rfl|rfl|rfl
   · refine .inl ⟨?_,h2 (by omega)⟩
     have e1:r.2.F=s.F:=hrF
     have e2:r.2.U=s.U:=hrU
     rw[e1,e2]
     exact hs.home hF1 hf1 hZ fun x hx=>hU x (keepU_mem hx)
   · refine .inl ⟨?_,h2 (by omega)⟩
     have e1:r.2.F=V0:=by rw[hV0];exact hrF
     have e2:r.2.U=[]:=hrU
     rw[e1,e2]
     exact hI0
   · have e1:r.2.F=V0:=by rw[hV0];exact hrF
     have e2:r.2.U=[(42,z256)]:=hrU
     rw[e1,e2]
     rcases keepU_one kp (42,z256) with e|e
     · rw[e];exact .inl ⟨hI0,h2 (by omega)⟩
     · rw[e]
       refine .inr (.inl ⟨?_,h2 (by omega)⟩)
       show InvN (V0.set 42 z256) G
       rw[<- hV1];exact hN1
   · obtain ⟨j,rfl⟩:∃ j,k=3+j:=⟨k-3,by omega⟩
     have hj:j<=W.length:=by omega
     rw[step,List.take_append_of_le_length (by simpa using hj),<- List.map_take,foldA_append,a1,foldA_ws] at hrF hrU
     rw[hrF,hrU]
     refine .inr (.inl ⟨hWN _ fun x hx=>?_,h2 (by omega)⟩)
     have:=keepU_mem hx
     rw[List.nil_append] at this
     exact List.mem_of_mem_take this
   · have e0:(layA q2 W).take (4+W.length)=[.f,.w 42 z256,.f] ++ ((W.map fun y=>PA.w y.1 y.2) ++ [.f]):=by
      rw[show 4+W.length=3+(W.length+1) by omega,step]
      congr 1
      rw[show W.length+1=(W.map fun y=>PA.w y.1 y.2).length+1 by simp,List.take_length_add_append];rfl
     rw[e0,foldA_append,foldA_append,a1,foldA_ws] at hrF hrU
     have e1:r.2.F=V2:=by rw[hV2];exact hrF
     have e2:r.2.U=[]:=hrU
     rw[e1,e2]
     exact .inr (.inl ⟨hN2,h2 (by omega)⟩)
   · have e0:(layA q2 W).take (5+W.length)=[.f,.w 42 z256,.f] ++ ((W.map fun y=>PA.w y.1 y.2) ++ [.f,.w 42 (sealS (endL q2))]):=by
      rw[show 5+W.length=3+(W.length+2) by omega,step]
      congr 1
      rw[show W.length+2=(W.map fun y=>PA.w y.1 y.2).length+2 by simp,List.take_length_add_append];rfl
     rw[e0,foldA_append,foldA_append,a1,foldA_ws] at hrF hrU
     have e1:r.2.F=V2:=by rw[hV2];exact hrF
     have e2:r.2.U=[(42,sealS (endL q2))]:=hrU
     rw[e1,e2]
     rcases keepU_one kp (42,sealS (endL q2)) with e|e
     · rw[e];exact .inr (.inl ⟨hN2,h2 (by omega)⟩)
     · rw[e]
       refine .inr (.inr ?_)
       show InvT (V2.set 42 (sealS (endL q2))) q2 N2 D2 G
       rw[<- hV3];exact hI3
   · obtain ⟨e1,e2⟩:=full (by omega)
     rw[e1,e2]
     exact .inr (.inr hI3)
 · have hkk:k=(layA q2 W).length:=by
    rcases hr with ⟨_,h⟩|h
    · exact h
    · have h0':(runA (layA q2 W) s).1=0:=h0
      rw[h0'] at h;cases h
   obtain ⟨e1,e2⟩:=full hkk
   rw[e1,e2]
   exact ⟨rfl,hI3,hV3o⟩
def homeA (N:List Int) (D:List (List Int)):List PA:=(homeW N D).map fun y=>.w y.1 y.2
theorem foldA_home (N:List Int) (D:List (List Int)) (k:Nat) (x:List (List Int) × List (Nat × List Int)):foldA ((homeA N D).take k) x=(x.1,x.2 ++ (homeW N D).take k):=by
 unfold homeA
 rw[<- List.map_take,foldA_ws]
theorem homeA_length (N:List Int) (D:List (List Int)):(homeA N D).length=N.length:=by simp[homeA,homeW]
theorem home_crash {q:Int}{N:List Int}{D G:List (List Int)} (hF:frmT N D=true) (hf:farT G.length N) (hG:43<=G.length) (s:DS) (hs:InvT s.F q N D G) (hU:∀ x∈s.U,x∈homeW N D) (fl:Bool) (kp:Nat->Bool):
 let r:=runA (homeA N D ++ (if fl then [.f] else [])) s
 InvT (appU (keepU kp r.2.U) r.2.F) q N D G/\InvT r.2.F q N D G/\(∀ x∈r.2.U,x∈homeW N D):=by
 intro r
 obtain ⟨k,hk,hfu,_⟩:=runA_pre (homeA N D ++ (if fl then [PA.f] else [])) s
 have hrF:r.2.F=(foldA ((homeA N D ++ (if fl then [PA.f] else [])).take k) s.fuP).1:=congrArg Prod.fst hfu
 have hrU:r.2.U=(foldA ((homeA N D ++ (if fl then [PA.f] else [])).take k) s.fuP).2:=congrArg Prod.snd hfu
 have key:InvT r.2.F q N D G/\∀ x∈r.2.U,x∈homeW N D:=by
  by_cases hkl:k<=(homeA N D).length
  · rw[List.take_append_of_le_length hkl,foldA_home] at hrF hrU
    rw[hrF,hrU]
    refine ⟨hs,fun x hx=>?_⟩
    rcases List.mem_append.1 hx with h|h
    · exact hU x h
    · exact List.mem_of_mem_take h
  · cases fl
    · rw[List.length_append] at hk
      simp at hk
      omega
    · have e:(homeA N D ++ (if true then [PA.f] else [])).take k=homeA N D ++ [PA.f]:=by
       apply List.take_of_length_le
       simp
       omega
      rw[e,foldA_append] at hrF hrU
      have e2:=foldA_home N D (homeA N D).length s.fuP
      rw[List.take_length] at e2
      rw[e2] at hrF hrU
      have e3:(homeW N D).take (homeA N D).length=homeW N D:=by
       apply List.take_of_length_le
       simp[homeA]
      rw[e3] at hrF hrU
      have e4:r.2.F=appU (s.U ++ homeW N D) s.F:=hrF
      have e5:r.2.U=[]:=hrU
      rw[e4,e5]
      refine ⟨hs.home hF hf hG fun x hx=>?_,fun x hx=>by cases hx⟩
      rcases List.mem_append.1 hx with h|h
      · exact hU x h
      · exact h
 exact ⟨key.1.home hF hf hG fun x hx=>key.2 x (keepU_mem hx),key.1,key.2⟩
theorem run_slice_part (w:World) (b off n cap l h:Nat) (hi:Option Value) (hhi:(hi=none/\h=n)\/hi=some (.int .i64 (h:Int))) (h1:l<=h) (h2:h<=cap) (h3:l<cap):
 (Instr.sliceAt 30 (.slice (some ⟨b,off,none⟩) n cap) (some (.int .i64 (l:Int))) hi none).run Tryz.prog w=.ok (.slice (some ⟨b,off+l,none⟩) (h-l) (cap-l)) w:=by
 obtain ⟨i,g2,g3,g4,g5⟩:=info_parts infoU8
 have hne:cap≠l:=by omega
 have ee:Tryz.prog.elem 30=5:=by kernel_rfl
 have hs:(sizeOf 5).run Tryz.prog w=.ok 1 w:=by simp[sizeOf,typeInfo,g2,g4]
 rcases hhi with ⟨rfl,rfl⟩|rfl
 · rw[run_sliceAt_slice w 30 _ _ _ _ (by rw[ee];exact Tryz.underlying30),run_slice_l w 30 _ h cap (by rw[ee];exact Tryz.underlying30) .i64 (l:Int) (by omega) (by omega),ee,hs]
   simp[sliced,hne,Addr.add_lit]
 · rw[run_sliceAt_slice w 30 _ _ _ _ (by rw[ee];exact Tryz.underlying30),run_slice_lh w 30 _ n cap (by rw[ee];exact Tryz.underlying30) .i64 .i64 (l:Int) (h:Int) (by omega) (by omega) (by omega),ee,hs]
   simp[sliced,hne,Addr.add_lit]
theorem wpList_slice_lh {w:World}{ops:Array Oper}{rest:List Oper}{o:Oper}{a:Act}{Q:Exit->Act->World->Prop} (hgd:o.guard=none) (x lo hi:Operand) (ho:o.op=.slice 30 x (some lo) (some hi) none)
 (b off n cap:Nat) (hx:a.eval x=.slice (some ⟨b,off,none⟩) n cap) (L H:Int) (hl:a.eval lo=.int .i64 L) (hh:a.eval hi=.int .i64 H) (l h m:Nat) (hm:h-l=m) (hL:L=l) (hH:H=h) (h1:l<=h) (h2:h<=cap) (h3:l<cap)
 (hK:wpList Tryz.prog ops Q rest (a.put o.dst (.slice (some ⟨b,off+l,none⟩) m (cap-l))) w):wpList Tryz.prog ops Q (o :: rest) a w:=by
 subst hL hH hm
 refine wpList_plain hgd fun K hK'=>?_
 unfold Oper.wp execOp
 simp only[ho,hx,hl,hh,Option.map_some,Option.map_none,run_slice_part w b off n cap l h _ (.inr rfl) h1 h2 h3,Sem.run_bind,Sem.run_pure,Result.andThen_ok]
 exact hK' _ _ hK
theorem wpList_slice_l {w:World}{ops:Array Oper}{rest:List Oper}{o:Oper}{a:Act}{Q:Exit->Act->World->Prop} (hgd:o.guard=none) (x lo:Operand) (ho:o.op=.slice 30 x (some lo) none none)
 (b off n cap:Nat) (hx:a.eval x=.slice (some ⟨b,off,none⟩) n cap) (L:Int) (hl:a.eval lo=.int .i64 L) (l:Nat) (hL:L=l) (h1:l<=n) (h2:n<=cap) (h3:l<cap)
 (hK:wpList Tryz.prog ops Q rest (a.put o.dst (.slice (some ⟨b,off+l,none⟩) (n-l) (cap-l))) w):wpList Tryz.prog ops Q (o :: rest) a w:=by
 subst hL
 refine wpList_plain hgd fun K hK'=>?_
 unfold Oper.wp execOp
 simp only[ho,hx,hl,Option.map_some,Option.map_none,run_slice_part w b off n cap l n none (.inl ⟨rfl,rfl⟩) h1 h2 h3,Sem.run_bind,Sem.run_pure,Result.andThen_ok]
 exact hK' _ _ hK
theorem BSl.mid {w:World}{b off cap:Nat}{l:List Int} (h:BSl w (.slice (some ⟨b,off,none⟩) l.length cap) l) (lo m:Nat) (hm:lo+m<=l.length):BSl w (.slice (some ⟨b,off+lo,none⟩) m (cap-lo)) ((l.drop lo).take m):=by
 have hlen:((l.drop lo).take m).length=m:=by simp;omega
 rcases h.2 with ⟨hv,_⟩| ⟨a',c',hv,hc0,hc⟩
 · simp at hv
 · obtain ⟨rfl,rfl⟩:a'=⟨b,off,none⟩/\cap=c':=by
    have:=Value.slice.inj hv
    exact ⟨(Option.some.inj this.1).symm,this.2.2⟩
   refine ⟨byt_take (byt_drop h.1 lo) m,.inr ⟨⟨b,off+lo,none⟩,cap-lo,by rw[hlen],by rw[hlen];omega,fun j hj=>?_⟩⟩
   rw[hlen] at hj
   obtain ⟨h1,_,h3⟩:=hc (lo+j) (by omega)
   refine ⟨h1,rfl,?_⟩
   show w.cell? ⟨b,off+lo+j,none⟩=_
   rw[Nat.add_assoc]
   have h3:w.cell? ⟨b,off+(lo+j),none⟩=some (.int .u8 (l.getD (lo+j) 0)):=h3
   rw[h3]
   simp[List.getD_eq_getElem?_getD,hj]
theorem BSl.open' {w:World}{v:Value}{l:List Int} (h:BSl w v l) (h0:0<l.length):∃ b off cap,v=.slice (some ⟨b,off,none⟩) l.length cap/\l.length<=cap/\b<w.heap.size:=by
 rcases h.2 with ⟨_,hl⟩| ⟨⟨b,off,spot⟩,cap,hv,hc0,hc⟩
 · rw[hl] at h0;simp at h0
 · obtain ⟨h1,h2,_⟩:=hc 0 h0
   obtain rfl:spot=none:=h2
   exact ⟨b,off,cap,hv,hc0,h1⟩
structure Rw (w:World) (B:Nat) (v:Value) (l:List Int) (g cap:Nat) (T:TypeId) (rest:List Value):Prop where
 byt:Byt l
 len:l.length=256
 val:v=.slice (some ⟨g,0,none⟩) 256 cap
 ge:B<=g
 row:w.heap[g]? =some (.cells (l.map (Value.int .u8) ++ rest).toArray T (0,0))
 cap:256<=cap
section
variable {w w':World}{B g cap:Nat}{v:Value}{l:List Int}{T:TypeId}{rest:List Value}
theorem Rw.lt (h:Rw w B v l g cap T rest):g<w.heap.size:=(Array.getElem?_eq_some_iff.1 h.row).1
theorem Rw.bsl (h:Rw w B v l g cap T rest):BSl w v l:=by
 refine ⟨h.byt,.inr ⟨⟨g,0,none⟩,cap,by rw[h.val,h.len],by rw[h.len];exact h.cap,fun j hj=>⟨h.lt,rfl,?_⟩⟩⟩
 show w.cell? ⟨g,0+j,none⟩=_
 rw[Nat.zero_add,cell_of_row _ _ _ _ _ _ h.row]
 simp only[List.getElem?_toArray]
 rw[List.getElem?_append_left (by simpa using hj),List.getElem?_map,List.getElem?_eq_getElem hj,List.getD_eq_getElem?_getD,List.getElem?_eq_getElem hj]
 rfl
theorem OB.rw' (h:OB w B v l) (hl:l.length=256):∃ g cap T rest,Rw w B v l g cap T rest:=by
 rcases h.2.2 with ⟨_,h0⟩| ⟨g,cap,cur,hv,hg,hh,hnc,hcm,hcs,ht⟩
 · omega
 · refine ⟨g,cap,5,cur.toList.drop 256,h.1,hl,by rw[hv,hl],hg,?_,by omega⟩
   rw[hh]
   have:l.map (Value.int .u8) ++ cur.toList.drop 256=cur.toList:=by
    rw[<- ht,hl,Nat.mul_one,List.take_append_drop]
   rw[this]
theorem splice_map {α β:Type} (f:α->β) (L:List α) (R:List β) (o:Nat) (cs:List α) (h:o+cs.length<=L.length):splice (L.map f ++ R) o (cs.map f)=(splice L o cs).map f ++ R:=by
 unfold splice
 rw[List.take_append_of_le_length (by rw[List.length_map];omega),List.length_map,List.drop_append_of_le_length (by rw[List.length_map];omega),List.map_append,List.map_append,List.map_take,List.map_drop,List.append_assoc,List.append_assoc]
theorem byt_splice {L cs:List Int} (hL:Byt L) (hc:Byt cs) (o:Nat):Byt (splice L o cs):=byt_append (byt_take hL o) (byt_append hc (byt_drop hL _))
theorem Rw.wrote (h:Rw w B v l g cap T rest) {o:Nat}{cs:List Int} (hc:Byt cs) (ho:o+cs.length<=256) (hr:w'.heap[g]? =some (.cells (splice (l.map (Value.int .u8) ++ rest) o (cs.map (Value.int .u8))).toArray T (0,0))):
 Rw w' B v (splice l o cs) g cap T rest:=by
 have hl:=h.len
 refine ⟨byt_splice h.byt hc o,by rw[length_splice _ _ _ (by omega)];exact hl,h.val,h.ge,?_,h.cap⟩
 rw[hr,splice_map _ _ _ _ _ (by omega)]
theorem zeroU8v (w:World):(zeroValue 5).run Tryz.prog w=.ok (.int .u8 0) w:=by
 obtain ⟨t,h2,h3,_⟩:=info_parts infoU8
 simp[zeroValue,typeInfo,h2,h3,Result.andThen]
theorem Rw.clear (h:Rw w B v l g cap T rest) {o n c:Nat} (hn:0<n) (ho:o+n=256):
 ∃ w',(∀ ty,(Builtin.clear_ #[30] ty #[.slice (some ⟨g,o,none⟩) n c]).run Tryz.prog w=.ok (.tuple #[]) w')/\Wrote w w' g/\Rw w' B v (splice l o (List.replicate n 0)) g cap T rest:=by
 have hl:=h.len
 have hrow:=h.row
 have hlen:(l.map (Value.int .u8) ++ rest).length=256+rest.length:=by rw[List.length_append,List.length_map,hl]
 have hth:=there_row hrow (o:=o) (n:=n) (by rw[hlen];omega)
 have e:(List.replicate n 0).map (Value.int .u8)=List.replicate n (.int .u8 0):=List.map_replicate
 have hs:=setCells_row hrow (o:=o) (vs:=List.replicate n (.int .u8 0)) (by rw[List.length_replicate,hlen];omega) (fun v hv=>by rw[List.eq_of_mem_replicate hv];rfl)
 refine ⟨_,fun ty=>Lib.run_clear_slice w 30 5 ty (.int .u8 0) Tryz.underlying30 zeroU8v rfl rfl g o n c hn (fun j hj=>(hth j hj).1) (fun j hj=>(hth j hj).2),?_,?_⟩
 · rw[hs];exact Wrote.setRow w g _
 · rw[hs]
   refine h.wrote (byt_replicate n) (by rw[List.length_replicate];omega) ?_
   rw[setRow_heap _ _ _ _ _ _ hrow,e]
end
section
variable {w:World}{P:Nat->Prop}{p:Value}{s:DS}
theorem kBlocks (h:Dk w P p s):Calls Tryz.prog 149 #[p] w fun e w'=>e=.returned (.int .i64 (s.F.length:Nat))/\w=w':=by
 obtain ⟨bp,bf,bv,u,rfl,h,_⟩:=h
 have c1:=h.c1
 rw[DS.vis_length] at c1
 clear h
 go_enter Tryz.func149,Tryz.ntmps149
 go_wp2
 go_ret
 exact ⟨rfl,rfl⟩
set_option maxRecDepth 100000 in
theorem kReadR (hk:Dk w P p s) (n:Nat) (hn:n<s.F.length) (hd:s.dn=false):
 Calls Tryz.prog 107 #[p,.int .i64 n] w fun e w'=>∃ v,e=.returned (.tuple #[v,.int .i64 0])/\Rw w' w.heap.size v (s.vis.getD n []) w.heap.size 256 151 []/\Below w.heap.size w w':=by
 obtain ⟨bp,bf,bv,u,rfl,h,_⟩:=hk
 rw[hd] at h
 have hnV:n<s.vis.length:=by rw[DS.vis_length];exact hn
 have hge:s.vis.getD n []=s.vis[n]:=by rw[List.getD_eq_getElem?_getD,List.getElem?_eq_getElem hnV];rfl
 rw[hge]
 generalize s.vis=V at h hnV |-
 clear hge hn
 have hlen:Tryz.prog.arrayLen 151=256:=by kernel_rfl
 have hblk:Blk V[n]:=h.okV _ (List.getElem_mem _)
 have hmem:=range_row h.hv (o:=n*256) (vs:=cB V[n]) (by rw[cB_length,hblk.1];exact flat_get (flatB_len h.okV) n hnV)
 have KH:=Lib.hid (dHas_at h n)
 have hdc:decide (0<=(n:Int)/\(n:Int)<V.length)=true:=decide_eq_true (by omega)
 rw[hdc] at KH
 obtain ⟨b,hb⟩:∃ b,b=V[n]:=⟨_,rfl⟩
 rw[<- hb] at hblk hmem |-
 have HL:Hid ((cB b).length=256):=by show _=_;rw[cB_length,hblk.1]
 have HR:=Lib.hid hmem
 have HB:=Lib.hid hblk
 have HZ:=Lib.hid zB_length
 have hone:∀ v∈zB,v.oneCell'=true:=fun v hv=>by rw[List.eq_of_mem_replicate hv];rfl
 have c1:=h.c1
 have c5:=h.c5
 have hn':(n:Int)<V.length:=by omega
 clear hb hblk hmem h hdc hd
 go_enter Tryz.func107,Tryz.ntmps107
 go_wp2_with (first
  |(go_at_call 133;refine KH.out.mono ?_;rintro e w' ⟨rfl,rfl⟩)
  |with_reducible refine wpList_allocB _ rfl rfl ?_
  |(refine wpList_loadB _ rfl _ (by rfl) bv (n*256) (cB b) (by rfl) HR.out HL.out ?_)
  |(refine wpList_storeB _ rfl _ _ (by rfl) _ 151 zB (cB b) (by rfl) (by rfl) (heap_alloc_last _ _) HZ.out HL.out (cB_one b) ?_
    rw[World.setRow_alloc_new]))
 go_ret2
 refine ⟨_,rfl,⟨HB.out.2,HB.out.1,rfl,Nat.le_refl _,?_,Nat.le_refl _⟩,(Below.refl _ _).alloc (Nat.le_refl _) _⟩
 rw[heap_alloc_last,List.append_nil];rfl
theorem kRead (hk:Dk w P p s) (n:Nat) (hn:n<s.F.length) (hd:s.dn=false):
 Calls Tryz.prog 107 #[p,.int .i64 n] w fun e w'=>∃ v,e=.returned (.tuple #[v,.int .i64 0])/\BSl w' v (s.vis.getD n [])/\Below w.heap.size w w'/\v=.slice (some ⟨w.heap.size,0,none⟩) 256 256:=
 (kReadR hk n hn hd).mono fun e w' ⟨v,he,hr,hb⟩=>⟨v,he,hr.bsl,hb,hr.val⟩
theorem kWrite (h:Dk w P p s) (n:Nat) (hn:n<s.F.length) {v:Value}{l:List Int} (hv:BSl w v l) (hl:l.length=256) (hU:s.U.length<=1000000):
 Calls Tryz.prog 164 #[p,.int .i64 n,v] w fun e w'=>e=.returned (.int .i64 (if s.ok then 0 else 2))/\∃ P',Dk w' P' p (if s.ok then s.write n l else s.pay)/\Chg P P' w w':=by
 obtain ⟨bp,bf,bv,u,rfl,h,⟨h0,h1⟩,hP⟩:=h
 cases hok:s.ok
 · refine (dWrite_off h h0 h1 n hv ⟨by rw[DS.vis_length];omega,hl⟩ hok).mono ?_
   rintro e w' ⟨rfl,hd,hw⟩
   exact ⟨rfl,P,⟨bp,bf,bv,u,rfl,hd,pLe_bound ⟨h0,h1⟩,hP⟩,Chg.of_wrote hP hw⟩
 · refine (dWrite_on h h0 h1 hok n (by rw[DS.vis_length];exact hn) hv hl hU).mono ?_
   rintro e w' ⟨rfl,u',hd,_,hfr⟩
   refine ⟨rfl,_,⟨bp,bf,bv,u',rfl,?_,pLe_bound ⟨h0,h1⟩,fun k=>Iff.rfl⟩,Chg.of_frU hP hfr⟩
   show DskAt w' 0 bp bf bv u' s.F (s.write n l).vis (s.U ++ [(n,l)]) s.fu _ _
   rw[DS.write_vis]
   exact hd
theorem kFlush (h:Dk w P p s) (hU:s.U.length<=1000000):
 Calls Tryz.prog 124 #[p] w fun e w'=>e=.returned (.int .i64 (if s.ok then 0 else 2))/\∃ P',Dk w' P' p (if s.ok then s.flush else s.pay)/\Chg P P' w w':=by
 obtain ⟨bp,bf,bv,u,rfl,h,⟨h0,h1⟩,hP⟩:=h
 have KP:=Lib.hid (dPowered_any h h0 h1)
 have HP:=Lib.hid hP
 have HB:=Lib.hid (pLe_bound (fu:=s.fu) (dn:=s.dn) ⟨h0,h1⟩)
 cases hok:s.ok
 · have hok':pOk s.fu s.le s.dn=false:=hok
   rw[hok'] at KP
   clear h h0 h1 hP hok hok'
   go_enter Tryz.func124,Tryz.ntmps124
   go_wp2_with (go_at_call 165;refine KP.out.mono ?_;rintro e w2 ⟨rfl,hd2,hw2⟩)
   go_ret
   exact ⟨rfl,P,⟨bp,bf,bv,u,rfl,hd2,HB.out,HP.out⟩,Chg.of_wrote HP.out hw2⟩
 · have hok':pOk s.fu s.le s.dn=true:=hok
   rw[hok'] at KP
   have HSF:=Lib.hid (stF_all s.U s.F)
   have HSV:=Lib.hid (stV_is (fun _=>true) s.U s.F)
   clear h h0 h1 hP hok hok'
   go_enter Tryz.func124,Tryz.ntmps124
   go_wp2_with (first
    |(go_at_call 165;refine KP.out.mono ?_;rintro e w2 ⟨rfl,hd2,hw2⟩)
    |(go_at_call 166;refine (dSettleFw hd2 (Nat.zero_le _) hU (fun _=>true) (fun W _ i _=>dFlush1_any W i)).mono ?_
      rintro e w4 ⟨rfl,h4,_,f4⟩))
   go_ret
   refine ⟨rfl,_,⟨bp,bf,bv,.slice none 0 0,rfl,?_,HB.out,fun k=>Iff.rfl⟩,(Chg.of_wrote HP.out hw2).trans (Chg.of_fr3 HP.out f4)⟩
   show DskAt w4 0 bp bf bv (.slice none 0 0) s.vis s.flush.vis [] s.fu _ _
   rw[DS.flush_vis]
   have hd4:DskAt w4 0 bp bf bv (.slice none 0 0) (stF (fun _=>true) s.U s.F s.U.length) (stV s.U (stF (fun _=>true) s.U s.F s.U.length) (appU s.U s.F) s.U.length) [] s.fu (pLe s.fu s.le s.dn) (pDn s.fu s.le s.dn):=h4
   rw[HSV.out,HSF.out,keepU_all] at hd4
   exact hd4
end
theorem kNew (w:World) (n:Nat) (hn:n<=2000):
 Calls Tryz.prog 43 #[.int .i64 n] w fun e w'=>∃ p P,e=.returned p/\Dk w' P p (DS.new n)/\(∀ k,P k->w.heap.size<=k)/\Below w.heap.size w w':=by
 refine (dNew_at w n hn).mono ?_
 rintro e w' ⟨p,rfl,_,⟨bp,bf,bv,u,rfl,hd⟩,hb⟩
 refine ⟨_,DOwn bp bf bv u,rfl,⟨bp,bf,bv,u,rfl,hd.lower,⟨Int.le_refl _,(by decide:(0:Int)<=9223372036854775807)⟩,fun k=>Iff.rfl⟩,fun k hk=>?_,hb⟩
 rcases hk with rfl|rfl|rfl|hk
 · exact hd.bB.1
 · exact hd.bB.2.1
 · exact hd.bB.2.2
 · exact (hd.hu.lt k hk).1
end Go.Proofs.YtedabomlfcghoaaGreat
