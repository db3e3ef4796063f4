/- What the law rests on: part 7. -/
import Derived.Test.YtedabomlfcghoaaGreatKF6
set_option linter.unusedVariables false
namespace Go.Proofs.YtedabomlfcghoaaGreat
set_option maxRecDepth 100000
open Go.RowKit
theorem made_bb (n:Nat):madeCells (Value.slice none 0 0).cells n=Array.replicate n (Value.slice none 0 0):=by
 apply Array.ext'
 rw[show (Value.slice none 0 0).cells=#[Value.slice none 0 0] from rfl,toList_madeCells_one]
 simp
theorem wpList_make_bb (w:World) {ops:Array Oper}{rest:List Oper}{o:Oper}{a:Act}{Q:Exit->Act->World->Prop}
 (hg:o.guard=none) (l c:Operand) (hop:o.op=Op.makeSlice 96 l c) (C:Int) (n:Nat) (hl:a.eval l=.int .i64 C) (hc:a.eval c=.int .i64 C) (hC:C=n) (hn:n<=1000000)
 (hK:wpList Tryz.prog ops Q rest (a.put o.dst (.slice (some ⟨w.heap.size,0,none⟩) n n)) (w.alloc (.cells (Array.replicate n (Value.slice none 0 0)) 30))):
 wpList Tryz.prog ops Q (o :: rest) a w:=by
 refine wpList_plain hg fun K hK'=>?_
 obtain ⟨i,h2,h3,h4,h5⟩:=info_parts infoBy
 subst hC
 have hrun:=run_make (P:=Tryz.prog) w 96 30 i (.slice none 0 0) Tryz.underlying96 h2 h3 .i64 .i64 n n (by omega) (by omega) (by rw[h5];omega) (by omega)
 unfold Oper.wp
 simp only[Int.toNat_natCast,h4,Nat.mul_one,made_bb] at hrun
 simp[execOp,hop,hl,hc,hrun,Result.andThen]
 exact hK' _ _ hK
theorem bb_free {W:World}{g:Nat}{vs:List Value}{T:TypeId} (h:W.heap[g]? =some (.cells vs.toArray T (0,0))) (k:Nat):W.frozen? ⟨g,k,none⟩=false:=by
 simp[World.frozen?,h]
theorem bb_set {W:World}{g:Nat}{vs:List Value}{T:TypeId} (h:W.heap[g]? =some (.cells vs.toArray T (0,0))) (j:Nat) (y:Value):(W.setCell ⟨g,j,none⟩ y).heap[g]? =some (.cells (vs.set j y).toArray T (0,0)):=by
 rw[heap_setCell_same W g j _ _ _ h]
 simp
def RowB (w:World) (g B n:Nat) (D:List (List Int)) (k:Nat):Prop:=
 ∃ vs:List Value,vs.length=n/\w.heap[g]? =some (.cells vs.toArray 30 (0,0))/\∀ j,j<k->BElt w B (vs.getD j undef) (D.getD j [])
theorem RowB.make (w:World) (B n:Nat) (D:List (List Int)):RowB (w.alloc (.cells (Array.replicate n (Value.slice none 0 0)) 30)) w.heap.size B n D 0:=
 ⟨List.replicate n (Value.slice none 0 0),List.length_replicate,by rw[heap_alloc_new];simp,fun j hj=>absurd hj (Nat.not_lt_zero _)⟩
theorem RowB.row {w:World}{g B n:Nat}{D:List (List Int)}{k:Nat} (h:RowB w g B n D k):∃ vs:List Value,vs.length=n/\w.heap[g]? =some (.cells vs.toArray 30 (0,0)):=by
 obtain ⟨vs,h1,h2,_⟩:=h
 exact ⟨vs,h1,h2⟩
theorem RowB.below {w w':World}{g B n:Nat}{D:List (List Int)}{k:Nat} (h:RowB w g B n D k) (hb:Below w.heap.size w w'):RowB w' g B n D k:=by
 obtain ⟨vs,h1,h2,h3⟩:=h
 have hg:g<w.heap.size:=(Array.getElem?_eq_some_iff.1 h2).1
 exact ⟨vs,h1,(hb.block g hg).trans h2,fun j hj=>(h3 j hj).below hb⟩
theorem RowB.set {w:World}{g B n:Nat}{D:List (List Int)}{k:Nat} (h:RowB w g B n D k) (hk:k<n) (hB:B<=g) {y:Value} (hy:BElt w B y (D.getD k [])):RowB (w.setCell ⟨g,k,none⟩ y) g B n D (k+1):=by
 obtain ⟨vs,h1,h2,h3⟩:=h
 have hgr:w.grownBy (w.setCell ⟨g,k,none⟩ y) (some g):=by
  have:=Wrote.setCell w g k y
  exact ⟨this.1,this.2.1,this.2.2.1,by rw[this.2.2.2.1];exact Nat.le_refl _,fun b hb hne=>this.2.2.2.2 b (fun e=>hne (by rw[e]))⟩
 have hrow:∀ g',some g=some g'->B<=g'/\∃ cur,w.heap[g']? =some (.cells cur 30 (0,0)):=fun g' e=>by
  obtain rfl:=Option.some.inj e
  exact ⟨hB,_,h2⟩
 refine ⟨vs.set k y,by rw[List.length_set];exact h1,bb_set h2 k y,fun j hj=>?_⟩
 by_cases e:j=k
 · subst e
   have:=hy.grown hrow hgr
   simpa [List.getD_eq_getElem?_getD,h1,hk] using this
 · have:=(h3 j (by omega)).grown hrow hgr
   rw[List.getD_eq_getElem?_getD,List.getElem?_set_ne (by omega),<- List.getD_eq_getElem?_getD]
   exact this
theorem RowB.done {w:World}{g B:Nat}{D:List (List Int)} (h:RowB w g B D.length D D.length) (hB:B<=g) (hm:D.length<=1000000):BBR w B (.slice (some ⟨g,0,none⟩) D.length D.length) D:=by
 obtain ⟨vs,h1,h2,h3⟩:=h
 refine ⟨vs,h1,h3,by rw[h1,Nat.mul_one],.inr ⟨g,D.length,_,rfl,hB,h2,Nat.le_refl _,by unfold maxLen;omega,by simp[h1],?_⟩⟩
 rw[List.take_of_length_le (by simp[h1])]
theorem tCopies_of {w:World}{v:Value}{D:List (List Int)} (hs:BBSl w v D) (hD:D.length<=1000000) (hl:∀ j,(D.getD j []).length<=1000000)
 (B:Nat) (hB:B<=w.heap.size):Calls Tryz.prog 199 #[v] w fun e w'=>∃ u,e=.returned u/\BBR w' B u D/\Below w.heap.size w w':=by
 obtain ⟨ao,cap,rfl,_,hc⟩:=hs.open'
 have HDN:=Lib.hid (fun W (h:RowB W w.heap.size B D.length D D.length)=>h.done hB hD)
 have HBG:=Lib.hid hB
 have HLN:=Lib.hid hl
 obtain ⟨n,hn⟩:∃ n,n=D.length:=⟨_,rfl⟩
 rw[<- hn] at hc hD HDN |-
 have HC:=Lib.hid hc
 have hbx:=below_box w (.cells (Array.replicate n (Value.slice none 0 0)) 30)
 have hr0:=RowB.make w B n D
 clear hs hc hl hn hB
 go_enter Tryz.func199,Tryz.ntmps199
 go_wp2_with (at_make;refine wpList_make_bb w rfl _ _ rfl (n:Int) n rfl rfl rfl hD ?_)
 generalize w.alloc (.cells (Array.replicate n (Value.slice none 0 0)) 30)=w1 at hbx hr0 |-
 have HR0:=Lib.hid hr0
 have HBX:=Lib.hid hbx
 obtain ⟨g,hg⟩:∃ g,g=w.heap.size:=⟨_,rfl⟩
 rw[<- hg] at HR0 HDN HBG |-
 have HG:=Lib.hid hg
 clear hr0 hbx hg
 go_loopw [11] (fun i wr=>∃ k:Nat,k<=n/\i=.int .i64 k/\Hid (RowB wr g B n D k)/\Hid (Below w.heap.size w wr)) (fun i _=>n-(intOf i).toNat)
 case atStart=>exact ⟨0,by omega,rfl,HR0,HBX⟩
 case round=>
  obtain ⟨k,hk,rfl,HR,HB⟩:=hrel
  clear HR0 HBX
  by_cases hlt:k<n
  · obtain ⟨b,off,rfl,hb,hcc⟩:=HC.out (by omega)
    obtain ⟨u,hcu,hu⟩:=hcc k hlt
    have hck:=(HB.out.cell (p:=⟨b,off+k,none⟩) hb).trans hcu
    have KC:=Lib.hid (bClone_of (hu.below HB.out) (HLN.out k))
    have ek:(k:Int)<(n:Int):=by omega
    obtain ⟨vs,hvl,hvr⟩:=HR.out.row
    have hgr:g<wr.heap.size:=(Array.getElem?_eq_some_iff.1 hvr).1
    clear hcc hcu hu hb hvl hvr
    go_wp2_with (go_at_call 106;(with_reducible refine KC.out.mono ?_);rintro e w2 ⟨y,rfl,hoy,hb2⟩
                 obtain ⟨yo,yc,rfl,_⟩:=hoy.bsl.shape
                 generalize (D.getD k []).length=yl at hoy |-
                 have hr2:=HR.out.below hb2
                 have HY:=Lib.hid (hoy.elt (B:=B))
                 have HR2:=Lib.hid hr2
                 obtain ⟨vs2,hvl2,hvr2⟩:=hr2.row
                 have hf2:=bb_free hvr2 k
                 have hc2:∃ z,w2.cell? ⟨g,k,none⟩=some z:=⟨vs2[k]'(by omega),by rw[cell_of_row _ _ _ _ _ _ hvr2];simp[hvl2,hlt]⟩
                 obtain ⟨z,hz⟩:=hc2
                 have HB2:=Lib.hid (HB.out.trans (hb2.mono HB.out.size))
                 clear hr2 hvl2 hvr2 hoy)
    go_roundw
    case rel=>exact ⟨k+1,by omega,by go_num,HR2.out.set hlt HBG.out HY.out,(HB2.out.trans ((Wrote.setCell w2 g k _).below (by rw[HG.out];exact Nat.le_refl _)))⟩
    case measure=>simp[intOf];omega
  · obtain rfl:k=n:=by omega
    go_wp2
    go_ret
    exact ⟨_,rfl,HDN.out _ HR.out,HB.out⟩
theorem bsl_lit9 (w:World) (l:List Int) (hb:Byt l) (n:Nat) (hn:l.length=n) (C:Array Value) (hC:C=(l.map (Value.int .u8)).toArray) (fz:Nat × Nat):BSl (w.alloc (.cells C 5 fz)) (.slice (some ⟨w.heap.size,0,none⟩) n n) l:=by
 subst hC hn
 have hh:(w.alloc (.cells (l.map (Value.int .u8)).toArray 5 fz)).heap[w.heap.size]? =some (.cells (l.map (Value.int .u8)).toArray 5 fz):=by
  show (w.heap.push _)[w.heap.size]? =_
  simp
 refine ⟨hb,.inr ⟨⟨w.heap.size,0,none⟩,l.length,rfl,Nat.le_refl _,fun j hj=>⟨by simp,rfl,?_⟩⟩⟩
 show (w.alloc _).cell? ⟨w.heap.size,0+j,none⟩=_
 rw[Nat.zero_add,cell_of_row _ _ _ _ _ _ hh]
 simp[hj,List.getD_eq_getElem?_getD]
theorem bsl_jrnl (w:World):BSl (w.alloc (.cells #[.int .u8 106,.int .u8 114,.int .u8 110,.int .u8 108] 5 (4,5))) (.slice (some ⟨w.heap.size,0,none⟩) 4 4) jrnl:=
 bsl_lit9 w jrnl byt_jrnl 4 rfl _ rfl _
theorem bsl_done (w:World):BSl (w.alloc (.cells #[.int .u8 100,.int .u8 111,.int .u8 110,.int .u8 101] 5 (4,5))) (.slice (some ⟨w.heap.size,0,none⟩) 4 4) done9:=
 bsl_lit9 w done9 byt_done 4 rfl _ rfl _
theorem below_boxF (w:World) (C:Array Value) (T:TypeId) (fz:Nat × Nat):Below w.heap.size w (w.alloc (.cells C T fz)):=below_box w _
def headK (q:Int) (N:List Int) (k:Nat):List Int:=jrnl ++ lowB q 4 ++ lowB (N.length:Int) 2 ++ numL (N.take k)
theorem headK_full (q:Int) (N:List Int):headK q N N.length=headL q N:=by unfold headK headL;rw[List.take_length]
theorem headK_succ (q:Int) (N:List Int) (k:Nat) (hk:k<N.length):headK q N k ++ lowB (N.getD k 0) 2=headK q N (k+1):=by
 unfold headK
 rw[numL_take N k hk,List.append_assoc]
theorem headK_zero (q:Int) (N:List Int):headK q N 0=jrnl ++ lowB q 4 ++ lowB (N.length:Int) 2:=by
 unfold headK
 rw[List.take_zero]
 show _ ++ []=_
 rw[List.append_nil]
theorem headK_length (q:Int) (N:List Int) (k:Nat) (h:k<=37):(headK q N k).length<=252:=by
 unfold headK
 simp only[List.length_append,lowB_length,numL_length,List.length_take]
 have:jrnl.length=4:=rfl
 omega
theorem tHead_of {w:World}{v:Value}{q:Int}{N:List Int} (hs:ISl w v N) (h37:N.length<=37) (hx:∀ i,i<N.length->0<=N.getD i 0/\N.getD i 0<=767) (q0:0<=q) (q1:q<4294967296):
 Calls Tryz.prog 198 #[.int .u32 q,v] w (NewB w (sealS (headL q N))):=by
 obtain ⟨ao,cap,rfl,hc⟩:=hs.open'
 have HZ:=Lib.hid (headK_zero q N)
 have HS:=Lib.hid (headK_succ q N)
 have HF:=Lib.hid (headK_full q N)
 have HLN:=Lib.hid (headK_length q N)
 have HX:=Lib.hid hx
 obtain ⟨n,hn⟩:∃ n,n=N.length:=⟨_,rfl⟩
 rw[<- hn] at hc h37 HZ HS HF HX |-
 have HC:=Lib.hid hc
 have kc:=fun (w:World) (C:Array Value) (n c:Nat)=>Lib.run_convert_bytes_const (P:=Tryz.prog) w 30 5 C n c Tryz.underlying30 Tryz.underlying5
 have hwq:IntKind.u64.wrap q=q:=IntWalk.u64_in _ (by omega)
 have hwn:IntKind.u64.wrap (n:Int)=(n:Int):=IntWalk.u64_in _ (by omega)
 have K1:=Lib.hid (pPut_at (bsl_jrnl w) (by decide) q 4 4 (by omega) (by omega) rfl q0 (by omega))
 have K2:=Lib.hid (fun W v (hv:BSl W v (jrnl ++ lowB q 4))=>pPut_at hv (by rw[List.length_append,lowB_length];decide) (n:Int) 2 2 (by omega) (by omega) rfl (by omega) (by omega))
 have hb1:=below_boxF w #[.int .u8 106,.int .u8 114,.int .u8 110,.int .u8 108] 5 (4,5)
 clear hs hc hx hn q1 q0
 go_enter Tryz.func198,Tryz.ntmps198
 go_wp2_with (first
  |(go_at_call 177;(with_reducible refine K1.out.mono ?_);rintro e w2 ⟨v2,rfl,hob2,hb2⟩
    have HB2:=Lib.hid (hb1.trans (hb2.mono hb1.size)))
  |(go_at_call 177;(with_reducible refine (K2.out _ _ hob2.bsl).mono ?_);rintro e w3 ⟨v3,rfl,hob3,hb3⟩
    have HB3:=Lib.hid (HB2.out.trans (hb3.mono HB2.out.size))))
 have HV3:Hid (BSl w3 v3 (headK q N 0)):=Lib.hid (by rw[HZ.out];exact hob3.bsl)
 clear hob2 hob3 hb1 hb2 hb3 kc
 go_loopw [5,22] (fun u i wr=>∃ k:Nat,k<=n/\i=.int .i64 k/\Hid (BSl wr u (headK q N k))/\Hid (Below w.heap.size w wr)) (fun _ i _=>n-(intOf i).toNat)
 case atStart=>exact ⟨0,by omega,rfl,HV3,HB3⟩
 case round=>
  obtain ⟨k,hk,rfl,HV,HB⟩:=hrel
  clear HV3 HB3
  by_cases hlt:k<n
  · obtain ⟨b,off,rfl,hb,hcc⟩:=HC.out (by omega)
    have hck:=(HB.out.cell (p:=⟨b,off+k,none⟩) hb).trans (hcc k hlt)
    obtain ⟨x0,x1⟩:=HX.out k hlt
    have hs1:=HS.out k hlt
    obtain ⟨x,hxx⟩:∃ x,x=N.getD k 0:=⟨_,rfl⟩
    rw[<- hxx] at hck x0 x1 hs1
    have HS1:=Lib.hid hs1
    have ek:(k:Int)<(n:Int):=by omega
    have hwx:IntKind.u64.wrap x=x:=IntWalk.u64_in _ (by omega)
    have KP:=Lib.hid (pPut_at HV.out (by have:=HLN.out k (by omega);omega) x 2 2 (by omega) (by omega) rfl x0 (by omega))
    clear hcc hb hxx hs1
    go_wp2_with (go_at_call 177;(with_reducible refine KP.out.mono ?_);rintro e w4 ⟨v4,rfl,hob4,hb4⟩)
    go_roundw
    case rel=>exact ⟨k+1,by omega,by go_num,by show BSl _ _ _;rw[<- HS1.out];exact hob4.bsl,HB.out.trans (hb4.mono HB.out.size)⟩
    case measure=>simp[intOf];omega
  · obtain rfl:k=n:=by omega
    have KS:=Lib.hid (pSeal_yes HV.out (HLN.out k (by omega)))
    go_wp2_with (go_at_call 184;(with_reducible refine KS.out.mono ?_);rintro e w5 ⟨v5,rfl,hob5,hb5⟩)
    go_ret
    refine ⟨_,rfl,?_,HB.out.trans (hb5.mono HB.out.size)⟩
    rw[<- HF.out]
    exact hob5.more HB.out.size
theorem tEnd_of (w:World) {q:Int} (q0:0<=q) (q1:q<4294967296):Calls Tryz.prog 200 #[.int .u32 q] w (NewB w (sealS (endL q))):=by
 have kc:=fun (w:World) (C:Array Value) (n c:Nat)=>Lib.run_convert_bytes_const (P:=Tryz.prog) w 30 5 C n c Tryz.underlying30 Tryz.underlying5
 have hwq:IntKind.u64.wrap q=q:=IntWalk.u64_in _ (by omega)
 have K1:=Lib.hid (pPut_at (bsl_done w) (by decide) q 4 4 (by omega) (by omega) rfl q0 (by omega))
 have K2:=Lib.hid (fun W v (hv:BSl W v (done9 ++ lowB q 4))=>pSeal_yes hv (by rw[List.length_append,lowB_length];decide))
 have hb1:=below_boxF w #[.int .u8 100,.int .u8 111,.int .u8 110,.int .u8 101] 5 (4,5)
 clear q1 q0
 go_enter Tryz.func200,Tryz.ntmps200
 go_wp2_with (first
  |(go_at_call 177;(with_reducible refine K1.out.mono ?_);rintro e w2 ⟨v2,rfl,hob2,hb2⟩
    have HB2:=Lib.hid (hb1.trans (hb2.mono hb1.size)))
  |(go_at_call 184;(with_reducible refine (K2.out _ _ hob2.bsl).mono ?_);rintro e w3 ⟨v3,rfl,hob3,hb3⟩))
 go_ret
 exact ⟨_,rfl,hob3.more HB2.out.size,HB2.out.trans (hb3.mono HB2.out.size)⟩
theorem step_append_bb2 (S:TypeId) (hS:Tryz.prog.underlying S=some (.slice 30)) {ops:Array Oper}{o:Oper}{a:Act}{w:World}{K:Act->World->Prop}{Q:Exit->Act->World->Prop}{X:Prop} (hgd:o.guard=none) (s y:Operand)
 (ho:o.op=.call { callee:=.builtin .append,args:=#[s,y],argTypes:=#[S,S] })
 (B E:Nat) (hEB:E<=B) (v:Value) (L:List (List Int)) (hs:a.eval s=v) (hown:BB2 w B E v L) (u:Value) (M:List (List Int)) (hy:a.eval y=u) (hr:BBE w E u M)
 (hlen:L.length+M.length<=1000000) (hB:B<=w.heap.size)
 (h:∀ v' w',BB2 w' B E v' (L ++ M)->Below B w w'->w.grownBy w' v.ownBlock->K (a.put o.dst v') w'):
 if Region.wanted o (yielded ops a.tmps)=true then Oper.wp Tryz.prog o a w K Q else X:=by
 have hw:Region.wanted o (yielded ops a.tmps)=true:=by simp[Region.wanted,hgd]
 rw[if_pos hw]
 obtain ⟨v',w',hr,h2,h3,h4⟩:=run_append_bb2 S hS w B E hEB o.type v L hown u M hr hlen hB
 unfold Oper.wp execOp
 simp only[ho,resolve,invoke,builtin,Sem.run_bind,Sem.run_pure,Result.andThen_ok,List.map_toArray,List.map_cons,List.map_nil,hs,hy,hr]
 exact h v' w' h2 h3 h4
theorem grown_keep9 {w w':World}{row:Option Nat} (h:w.grownBy w' row) (b o:Nat) (hb:b<w.heap.size) (hne:∀ k,row=some k->k≠b):w'.cell? ⟨b,o,none⟩=w.cell? ⟨b,o,none⟩:=by
 apply World.cell?_of_block
 exact h.block b hb (fun e=>hne b e.symm rfl)
theorem own_lit {g d n c:Nat} (h:d<g):∀ k,(Value.slice (some ⟨g,0,none⟩) n c).ownBlock=some k->k≠d:=fun k hk=>by
 obtain rfl:g=k:=by simpa [Value.ownBlock] using hk
 omega
set_option maxHeartbeats 1000000 in
theorem tPack_own {w:World}{v:Value}{q:Int}{N:List Int}{D:List (List Int)} (h:TxV w v q N D) (hf:frmT N D=true) (q0:0<=q) (q1:q<4294967296):
 Calls Tryz.prog 162 #[v] w fun e w'=>∃ u,e=.returned (.tuple #[u,.int .i64 0])/\BB2 w' w.heap.size 0 u (packT q N D)/\Below w.heap.size w w':=by
 have h':=h
 obtain ⟨no,nc,ao,dc,rfl,hN,hD⟩:=h
 obtain ⟨f1,f2,f3⟩:=frmT_of hf
 have KH:=Lib.hid (fun W (hb:Below w.heap.size w W)=>tHead_of (hN.1.below hb) f1 (fun i hi=>(f3 i hi).1) q0 q1)
 have KC:=Lib.hid (fun W (hb:Below w.heap.size w W)=>tCopies_of (hD.below hb) (by omega) (fun j=>by
  by_cases hj:j<N.length
  · rw[(f3 j hj).2.1];omega
  · rw[List.getD_eq_getElem?_getD,List.getElem?_eq_none (by omega)];exact Nat.zero_le _) 0 (Nat.zero_le _))
 have KE:=Lib.hid (fun W=>tEnd_of W q0 q1)
 have hD37:D.length<=37:=by omega
 have HL1:Hid ([sealS (headL q N)].length+D.length<=1000000):=Lib.hid (by simp;omega)
 have HL2:Hid (([sealS (headL q N)] ++ D).length<=100000):=Lib.hid (by simp;omega)
 have HPK:Hid (packT q N D=([sealS (headL q N)] ++ D) ++ [sealS (endL q)]):=Lib.hid rfl
 have HLH:Hid ((sealS (headL q N)).length=256):=Lib.hid (sealS_length _ (by rw[headL_length];omega))
 have HLE:Hid ((sealS (endL q)).length=256):=Lib.hid (sealS_length _ (by rw[endL_length];omega))
 obtain ⟨n,hn⟩:∃ n,n=N.length:=⟨_,rfl⟩
 obtain ⟨m,hm⟩:∃ m,m=D.length:=⟨_,rfl⟩
 rw[<- hn] at KH h' |-
 rw[<- hm] at KC h' |-
 have hbx:=below_box w (.cells #[.int .u32 q,.slice no n nc,.slice ao m dc] 183)
 have hnx:=heap_alloc_new w (.cells #[.int .u32 q,.slice no n nc,.slice ao m dc] 183)
 have KF:=Lib.hid (tForm_is (h'.below hbx) true hf)
 generalize sealS (headL q N)=HB at KH HL1 HL2 HPK HLH
 generalize sealS (endL q)=EB at KE HPK HLE
 clear hN hD hn hm h' hf f1 f2 f3 hD37 q0 q1
 go_enter Tryz.func162,Tryz.ntmps162
 go_upto_region 1 with (fail)
 have hzu:w.heap.size<(w.alloc (.cells #[.int .u32 q,.slice no n nc,.slice ao m dc] 183)).heap.size:=by simp
 generalize w.alloc (.cells #[.int .u32 q,.slice no n nc,.slice ao m dc] 183)=u at hbx hnx KF hzu |-
 have d0:u.cell? ⟨w.heap.size,0,none⟩=some (.int .u32 q):=by rw[cell_of_row _ _ _ _ _ _ hnx];rfl
 have d1:u.cell? ⟨w.heap.size,1,none⟩=some (.slice no n nc):=by rw[cell_of_row _ _ _ _ _ _ hnx];rfl
 have d2:u.cell? ⟨w.heap.size,2,none⟩=some (.slice ao m dc):=by rw[cell_of_row _ _ _ _ _ _ hnx];rfl
 clear hnx
 go_wp2_with (go_at_call 197;(with_reducible refine KF.out.mono ?_);rintro e w2 ⟨rfl,hb2⟩)
 have HB2:Hid (Below w.heap.size w w2.drew):=Lib.hid (below_drewN' (hbx.trans (hb2.mono hbx.size)) 1)
 have e0:w2.drew.cell? ⟨w.heap.size,0,none⟩=some (.int .u32 q):=(hb2.cell (p:=⟨w.heap.size,0,none⟩) hzu).trans d0
 have e1:w2.drew.cell? ⟨w.heap.size,1,none⟩=some (.slice no n nc):=(hb2.cell (p:=⟨w.heap.size,1,none⟩) hzu).trans d1
 have e2:w2.drew.cell? ⟨w.heap.size,2,none⟩=some (.slice ao m dc):=(hb2.cell (p:=⟨w.heap.size,2,none⟩) hzu).trans d2
 have hz2:w.heap.size<w2.drew.heap.size:=Nat.lt_of_lt_of_le hzu hb2.size
 obtain ⟨d,hd⟩:∃ d,d=w.heap.size:=⟨_,rfl⟩
 rw[<- hd] at HB2 e0 e1 e2 hz2 KH KC |-
 have HD:=Lib.hid hd
 clear d0 d1 d2 hbx hb2 hzu KF hd
 go_region_held3 (fun W=>W.cell? ⟨d,0,none⟩=some (.int .u32 q)/\W.cell? ⟨d,1,none⟩=some (.slice no n nc)/\W.cell? ⟨d,2,none⟩=some (.slice ao m dc)) (first|exact ⟨i0,i1,i2⟩|exact ⟨h0 _,h1 _,h2 _⟩|exact ⟨g0,g1,g2⟩|exact ⟨f0' _,f1' _,f2' _⟩|exact ⟨f0,f1,f2⟩|exact ⟨e0,e1,e2⟩) (first
  |(go_at_call 198;(with_reducible refine (KH.out _ HB2.out).mono ?_);rintro e w3 ⟨v3,rfl,hob3,hb3⟩
    obtain ⟨ho,hc,rfl,_⟩:=hob3.bsl.shape
    have HO3:=Lib.hid (hob3.elt (B:=0))
    rw[HLH.out] at HO3 |-
    have f0:=(hb3.cell (p:=⟨d,0,none⟩) hz2).trans e0
    have f1:=(hb3.cell (p:=⟨d,1,none⟩) hz2).trans e1
    have f2:=(hb3.cell (p:=⟨d,2,none⟩) hz2).trans e2
    have hz3:=Nat.lt_of_lt_of_le hz2 hb3.size
    have f0':=fun o=>((below_box w3 o).cell (p:=⟨d,0,none⟩) hz3).trans f0
    have f1':=fun o=>((below_box w3 o).cell (p:=⟨d,1,none⟩) hz3).trans f1
    have f2':=fun o=>((below_box w3 o).cell (p:=⟨d,2,none⟩) hz3).trans f2
    have HB3:=Lib.hid (HB2.out.trans (hb3.mono (Nat.le_of_lt hz2)))
    clear hob3)
  |(go_at_call 199;(with_reducible refine (KC.out w3 HB3.out).mono ?_);rintro e w4 ⟨v4,rfl,hv4,hb4⟩
    have g0:=(hb4.cell (p:=⟨d,0,none⟩) hz3).trans f0
    have g1:=(hb4.cell (p:=⟨d,1,none⟩) hz3).trans f1
    have g2:=(hb4.cell (p:=⟨d,2,none⟩) hz3).trans f2
    have hz4:=Nat.lt_of_lt_of_le hz3 hb4.size
    have h0:=fun o=>((below_box w4 o).cell (p:=⟨d,0,none⟩) hz4).trans g0
    have h1:=fun o=>((below_box w4 o).cell (p:=⟨d,1,none⟩) hz4).trans g1
    have h2:=fun o=>((below_box w4 o).cell (p:=⟨d,2,none⟩) hz4).trans g2
    have HO4:=Lib.hid (HO3.out.below hb4)
    have HV4:=Lib.hid hv4.be
    have HB4:=Lib.hid (HB3.out.trans (hb4.mono (Nat.le_of_lt hz3))))
  |(go_at_call 199;(with_reducible refine (KC.out (w3.alloc _) (HB3.out.trans ((below_box w3 _).mono (Nat.le_of_lt hz3)))).mono ?_);rintro e w4 ⟨v4,rfl,hv4,hb4⟩
    have hza:d<(w3.alloc (.cells #[.slice ho 256 hc] 30)).heap.size:=by simp;omega
    have g0:=(hb4.cell (p:=⟨d,0,none⟩) hza).trans (f0' _)
    have g1:=(hb4.cell (p:=⟨d,1,none⟩) hza).trans (f1' _)
    have g2:=(hb4.cell (p:=⟨d,2,none⟩) hza).trans (f2' _)
    have HO4:=Lib.hid ((bb2_one HO3.out (Nat.le_of_lt hz3)).below hb4)
    have HV4:=Lib.hid hv4.be
    have hz4:=Nat.lt_of_lt_of_le hza hb4.size
    have HB4:=Lib.hid ((HB3.out.trans ((below_box w3 _).mono (Nat.le_of_lt hz3))).trans (hb4.mono (Nat.le_of_lt hza))))
  |(refine step_append_bb2 96 Tryz.underlying96 rfl (.tmp 13) (.tmp 16) rfl d 0 (Nat.zero_le _) _ [HB] rfl HO4.out v4 D rfl HV4.out HL1.out (Nat.le_of_lt hz4) ?_
    intro v5 w5 hv5 hb5 hg5
    have i0:=(grown_keep9 hg5 d 0 hz4 (own_lit hz3)).trans g0
    have i1:=(grown_keep9 hg5 d 1 hz4 (own_lit hz3)).trans g1
    have i2:=(grown_keep9 hg5 d 2 hz4 (own_lit hz3)).trans g2
    have HB5:=Lib.hid (HB4.out.trans hb5))
  |(refine step_append_bb2 96 Tryz.underlying96 rfl (.tmp 13) (.tmp 16) rfl d 0 (Nat.zero_le _) _ [HB] rfl (bb2_one HO4.out (Nat.le_of_lt hz4)) v4 D rfl (HV4.out.below (below_box w4 _)) HL1.out (Nat.le_trans (Nat.le_of_lt hz4) (below_box w4 _).size) ?_
    intro v5 w5 hv5 hb5 hg5
    have i0:=(grown_keep9 hg5 d 0 (Nat.lt_of_lt_of_le hz4 (below_box w4 _).size) (own_lit hz4)).trans (h0 _)
    have i1:=(grown_keep9 hg5 d 1 (Nat.lt_of_lt_of_le hz4 (below_box w4 _).size) (own_lit hz4)).trans (h1 _)
    have i2:=(grown_keep9 hg5 d 2 (Nat.lt_of_lt_of_le hz4 (below_box w4 _).size) (own_lit hz4)).trans (h2 _)
    have HB5:=Lib.hid ((HB4.out.trans ((below_box w4 _).mono (Nat.le_of_lt hz4))).trans hb5)))
 all_goals (
  have HBG:=Lib.hid (by have:=HB5.out.size;rw[<- HD.out] at this;exact this)
  have HV5:=Lib.hid hv5
  clear g0 g1 g2 i1 i2 e0 e1 e2 f0 f1 f2 hv5 hv4
  go_wp2_with (first
   |(go_at_call 200;(with_reducible refine (KE.out _).mono ?_);rintro e w6 ⟨v6,rfl,hob6,hb6⟩
     obtain ⟨eo,ec,rfl,_⟩:=hob6.bsl.shape
     have HO6:=Lib.hid (hob6.elt (B:=0))
     rw[HLE.out] at HO6 |-
     have HV6:=Lib.hid (HV5.out.below hb6)
     have HG6:=Lib.hid (Nat.le_trans HBG.out hb6.size)
     have HB6:=Lib.hid (HB5.out.trans (hb6.mono HBG.out))
     clear hob6)
   |(at_builtin;refine wpList_append_bb2one 96 Tryz.underlying96 w6 (.slice eo 256 ec) EB rfl (.tmp 18) (.tmp 22) rfl d 0 (Nat.zero_le _) v5 ([HB] ++ D) rfl HV6.out HO6.out w6.heap.size rfl rfl HL2.out HG6.out ?_;intro v7 w7 hv7 hb7))
  go_ret2
  exact ⟨_,rfl,by rw[HPK.out,<- HD.out];exact hv7,by rw[<- HD.out];exact HB6.out.trans hb7⟩)
end Go.Proofs.YtedabomlfcghoaaGreat
namespace Go.Proofs.YtedabomlfcghoaaGreat
set_option maxRecDepth 100000
open Go.RowKit
def inB (n:Int):Bool:=decide (0<=n/\n<=767)
def locS (l:List Int):Bool:=l.all inB
theorem locS_iff (l:List Int):locS l=true ↔ ∀ j,j<l.length->inB (l.getD j 0)=true:=by
 unfold locS
 rw[List.all_eq_true]
 constructor
 · intro h j hj
   have:l.getD j 0=l[j]:=by simp[List.getD_eq_getElem?_getD,hj]
   rw[this];exact h _ (List.getElem_mem hj)
 · intro h x hx
   obtain ⟨j,hj,rfl⟩:=List.getElem_of_mem hx
   have:=h j hj
   simpa [List.getD_eq_getElem?_getD,hj] using this
theorem locS_no {l:List Int}{k:Nat} (hk:k<l.length) (h:inB (l.getD k 0)=false):locS l=false:=by
 cases hl:locS l
 · rfl
 · have:=(locS_iff l).1 hl k hk
   rw[h] at this;cases this
theorem getV_in (A B:List Int) (n:Int) (k:Nat) (h:0<=n) (h1:n<256 ^ k):getV (A ++ (lowB n k ++ B)) A.length k=n:=by
 unfold getV
 rw[List.drop_left,List.take_left' (lowB_length n k),leB_lowB n k h]
 exact Int.emod_eq_of_lt h h1
def mapK (l:List Int):Nat->List Int
 |0=>[]
 |k+1=>mapK l k ++ lowB (l.getD k 0) 2
theorem mapK_length (l:List Int):∀ k,(mapK l k).length=2*k
 |0=>rfl
 |k+1=>by rw[mapK,List.length_append,mapK_length l k,lowB_length];omega
def mapS (l:List Int):List Int:=mapK l 128
def rdK (b:List Int) (k:Nat):List Int:=(List.range k).map fun j=>getV b (2*j) 2
theorem rdK_length (b:List Int) (k:Nat):(rdK b k).length=k:=by simp[rdK]
def rdTill (b:List Int) (n k:Nat):List Int:=(List.range n).map fun j=>if j<k then getV b (2*j) 2 else 0
theorem rdTill_length (b:List Int) (n k:Nat):(rdTill b n k).length=n:=by simp[rdTill]
theorem rdTill_set (b:List Int) (n k:Nat):(rdTill b n k).set k (getV b (2*k) 2)=rdTill b n (k+1):=by
 apply List.ext_getElem (by rw[List.length_set,rdTill_length,rdTill_length])
 intro i h1 h2
 simp only[rdTill,List.getElem_set,List.getElem_map,List.getElem_range]
 by_cases e:k=i
 · subst e;rw[if_pos rfl,if_pos (by omega)]
 · rw[if_neg e]
   by_cases h:i<k
   · rw[if_pos h,if_pos (by omega)]
   · rw[if_neg h,if_neg (by omega)]
theorem rdTill_zero (b:List Int) (n:Nat):rdTill b n 0=List.replicate n 0:=by
 rw[List.eq_replicate_iff]
 refine ⟨rdTill_length b n 0,fun x hx=>?_⟩
 obtain ⟨i,_,rfl⟩:=List.mem_map.1 hx
 rw[if_neg (by omega)]
theorem rdTill_full (b:List Int) (n:Nat):rdTill b n n=rdK b n:=by
 unfold rdTill rdK
 apply List.map_congr_left
 intro i hi
 rw[if_pos (List.mem_range.1 hi)]
theorem mapK_split (l:List Int) (i:Nat):∀ j,i<j->∃ B,mapK l j=mapK l i ++ (lowB (l.getD i 0) 2 ++ B):=by
 intro j
 induction j with
 |zero=>intro h;omega
 |succ j ih=>
  intro h
  by_cases e:i=j
  · subst e;exact ⟨[],by rw[mapK];simp⟩
  · obtain ⟨B,hB⟩:=ih (by omega)
    exact ⟨B ++ lowB (l.getD j 0) 2,by rw[mapK,hB];simp⟩
theorem inB_iff {n:Int}:inB n=true ↔ 0<=n/\n<=767:=decide_eq_true_iff
theorem rd_map {l:List Int} (hl:l.length=128) (h:locS l=true):rdK (mapS l) 128=l:=by
 apply List.ext_getElem (by rw[rdK_length,hl])
 intro i h1 h2
 have hi:i<128:=by rw[rdK_length] at h1;exact h1
 obtain ⟨B,hB⟩:=mapK_split l i 128 hi
 have hb:=inB_iff.1 ((locS_iff l).1 h i (by omega))
 have e:l.getD i 0=l[i]:=by simp[List.getD_eq_getElem?_getD,h2]
 simp only[rdK,List.getElem_map,List.getElem_range]
 rw[mapS,hB,<- mapK_length l i,getV_in _ _ _ _ hb.1 (by have:(256:Int) ^ 2=65536:=rfl;omega),e]
def hasM (b:List Int):Prop:=b.length=256/\locS (rdK b 128)=true
theorem has_map {l:List Int} (hl:l.length=128) (h:locS l=true):hasM (mapS l):=⟨by rw[mapS,mapK_length],by rw[rd_map hl h];exact h⟩
theorem getV2_le {l:List Int} (h:∀ x∈l,0<=x/\x<=255) (a:Nat):0<=getV l a 2/\getV l a 2<=65535:=by
 have:=getV_bound h a 2
 have e:(256:Int) ^ 2=65536:=rfl
 omega
end Go.Proofs.YtedabomlfcghoaaGreat
namespace Go.Proofs.YtedabomlfcghoaaGreat
set_option maxRecDepth 100000
open Go.RowKit
theorem iWithin_is (n m:Int) (B:Bool) (h:decide (0<=n/\n<=m)=B) (w:World):Calls Tryz.prog 139 #[.int .i64 n,.int .i64 m] w fun e w'=>e=.returned (.bool B)/\w=w':=by
 by_cases h0:0<=n
 · by_cases h1:n<=m
   · obtain rfl:B=true:=by rw[<- h];exact decide_eq_true ⟨h0,h1⟩
     clear h
     go_enter Tryz.func139,Tryz.ntmps139
     go_wp2
     go_ret
     exact ⟨rfl,rfl⟩
   · obtain rfl:B=false:=by rw[<- h];exact decide_eq_false fun h=>h1 h.2
     clear h
     go_enter Tryz.func139,Tryz.ntmps139
     go_wp2
     go_ret
     exact ⟨rfl,rfl⟩
 · obtain rfl:B=false:=by rw[<- h];exact decide_eq_false fun h=>h0 h.1
   clear h
   go_enter Tryz.func139,Tryz.ntmps139
   go_wp2
   go_ret
   exact ⟨rfl,rfl⟩
theorem iIsBlock_is (n:Int) (B:Bool) (h:inB n=B) (w:World):Calls Tryz.prog 141 #[.int .i64 n] w fun e w'=>e=.returned (.bool B)/\w=w':=by
 have K:=Lib.hid (iWithin_is n 767 B h)
 clear h
 go_enter Tryz.func141,Tryz.ntmps141
 go_wp2_with (go_at_call 139;refine (K.out _).mono ?_;rintro e w' ⟨rfl,rfl⟩)
 go_ret
 exact ⟨rfl,rfl⟩
theorem rPlace_is (n:Int) (B:Bool) (h:inB n=B) (w:World):Calls Tryz.prog 169 #[.int .i64 n] w fun e w'=>e=.returned (.bool B)/\w=w':=by
 by_cases h0:0<=n
 · by_cases h1:n<=767
   · obtain rfl:B=true:=by rw[<- h];exact decide_eq_true ⟨h0,h1⟩
     clear h
     go_enter Tryz.func169,Tryz.ntmps169
     go_wp2
     go_ret
     exact ⟨rfl,rfl⟩
   · obtain rfl:B=false:=by rw[<- h];exact decide_eq_false fun h=>h1 h.2
     clear h
     go_enter Tryz.func169,Tryz.ntmps169
     go_wp2
     go_ret
     exact ⟨rfl,rfl⟩
 · obtain rfl:B=false:=by rw[<- h];exact decide_eq_false fun h=>h0 h.1
   clear h
   go_enter Tryz.func169,Tryz.ntmps169
   go_wp2
   go_ret
   exact ⟨rfl,rfl⟩
theorem iLocated_any {w:World}{v:Value}{l:List Int} (hs:ISl w v l) (hl:l.length<=1000000):Calls Tryz.prog 140 #[v] w fun e w'=>e=.returned (.bool (locS l))/\w=w':=by
 obtain ⟨ao,cap,rfl,hc⟩:=hs.open'
 have hno:=fun k hk h=>locS_no (l:=l) (k:=k) hk h
 have hyes:=(locS_iff l).2
 obtain ⟨R,hR⟩:∃ R,R=locS l:=⟨_,rfl⟩
 rw[<- hR] at hno hyes |-
 obtain ⟨N,hN⟩:∃ N,N=l.length:=⟨_,rfl⟩
 rw[<- hN] at hc hno hyes hl |-
 have HC:=Lib.hid hc
 have HNO:=Lib.hid hno
 have HYE:=Lib.hid hyes
 clear hc hno hyes hR hs hN
 go_enter Tryz.func140,Tryz.ntmps140
 go_wp2
 go_loop [7] (fun i=>∃ k:Nat,k<=N/\i=.int .i64 k/\Hid (∀ j,j<k->inB (l.getD j 0)=true)) (fun i=>N-(intOf i).toNat)
 case atStart=>exact ⟨0,by omega,rfl,fun j hj=>absurd hj (Nat.not_lt_zero _)⟩
 case round=>
  obtain ⟨k,hk,rfl,HK⟩:=hrel
  by_cases hlt:k<N
  · obtain ⟨b,off,rfl,_,hcc⟩:=HC.out (by omega)
    have hck:=hcc k hlt
    have hn1:=HNO.out k hlt
    obtain ⟨x,hx⟩:∃ x,x=l.getD k 0:=⟨_,rfl⟩
    rw[<- hx] at hck hn1
    have HX:=Lib.hid hx
    have HN1:=Lib.hid hn1
    have ek:(k:Int)<(N:Int):=by omega
    clear hx hcc hn1
    cases hf:inB x
    · have HF:=Lib.hid hf
      have hR:=HN1.out hf
      subst hR
      clear hf
      go_wp2_with (go_at_call 141;refine (iIsBlock_is x _ HF.out _).mono ?_;rintro e w' ⟨rfl,rfl⟩)
      go_ret
      exact ⟨rfl,rfl⟩
    · have HF:=Lib.hid hf
      clear hf
      go_wp2_with (go_at_call 141;refine (iIsBlock_is x _ HF.out _).mono ?_;rintro e w' ⟨rfl,rfl⟩)
      go_round
      case rel=>
       refine ⟨k+1,by omega,by go_num,fun j hj=>?_⟩
       by_cases e:j=k
       · subst e;rw[<- HX.out];exact HF.out
       · exact HK.out j (by omega)
      case measure=>simp[intOf];omega
  · obtain rfl:k=N:=by omega
    have hR:=HYE.out HK.out
    subst hR
    go_wp2
    go_ret
    exact ⟨rfl,rfl⟩
theorem iLocated_is {w:World}{v:Value}{l:List Int} (hs:ISl w v l) (hl:l.length<=1000000) (B:Bool) (h:locS l=B):Calls Tryz.prog 140 #[v] w fun e w'=>e=.returned (.bool B)/\w=w':=by
 rw[<- h];exact iLocated_any hs hl
theorem iPlace_no (n:Int) (h:n<1\/47<n) (w:World):Calls Tryz.prog 62 #[.int .i64 n] w fun e w'=>e=.returned (.tuple #[.int .i64 (-1),.int .i64 (-1)])/\w=w':=by
 by_cases h0:n<1
 · clear h
   go_enter Tryz.func62,Tryz.ntmps62
   go_wp2
   go_ret2
   exact ⟨rfl,rfl⟩
 · have h1:48<=n:=by omega
   clear h
   go_enter Tryz.func62,Tryz.ntmps62
   go_wp2
   go_ret2
   exact ⟨rfl,rfl⟩
theorem iPlace_yes (n:Int) (h0:1<=n) (h1:n<=47) (w:World):Calls Tryz.prog 62 #[.int .i64 n] w fun e w'=>e=.returned (.tuple #[.int .i64 (n / 8),.int .i64 (n%8)])/\w=w':=by
 go_enter Tryz.func62,Tryz.ntmps62
 go_wp2
 go_ret2
 exact ⟨rfl,rfl⟩
theorem pGetW {w:World}{v:Value}{c:List Int} (hs:BSl w v c) (hc:c.length<=100000) (a k:Nat) (A K:Int) (hA:A=a) (hK:K=k) (hk1:1<=k) (hk:k<=8) (ha:a+k<=c.length) (y:Int) (hy:y=getV c a k):
 Calls Tryz.prog 144 #[v,.int .i64 A,.int .i64 K] w fun e w'=>e=.returned (.tuple #[.int .u64 y,.bool true])/\w=w':=by
 subst hA hK
 have hg:=pGet_any hs (by omega) (a:Int) k (by omega) (by omega)
 have hn:getN c (a:Int) k=y:=by unfold getN;rw[if_pos (by omega),hy];rfl
 have hb:gotB c (a:Int) k=true:=decide_eq_true (by omega)
 rw[hn,hb] at hg
 exact hg
theorem ob_made (w:World) (M:Nat) (hM:M<=1000):OB (w.alloc (.cells (Array.replicate M (.int .u8 0)) 5)) w.heap.size (.slice (some ⟨w.heap.size,0,none⟩) 0 M) []:=
 OB.of_heap (w:=w.alloc (.cells (Array.replicate M (.int .u8 0)) 5)) (B:=w.heap.size) (g:=w.heap.size) (cap:=M) (l:=[]) (rest:=List.replicate M (.int .u8 0)) byt_nil (Nat.le_refl _) (by rw[heap_alloc_new];simp) (by simp) (by unfold maxLen;omega)
theorem wpList_make_int64 (w:World) {ops:Array Oper}{rest:List Oper}{o:Oper}{a:Act}{Q:Exit->Act->World->Prop}
 (hg:o.guard=none) (l c:Operand) (hop:o.op=Op.makeSlice 176 l c) (C:Int) (n:Nat) (hl:a.eval l=.int .u64 C) (hc:a.eval c=.int .u64 C) (hC:C=n) (hn:n<=1000000)
 (hK:wpList Tryz.prog ops Q rest (a.put o.dst (.slice (some ⟨w.heap.size,0,none⟩) n n)) (w.alloc (iO (List.replicate n 0) 3))):
 wpList Tryz.prog ops Q (o :: rest) a w:=by
 refine wpList_plain hg fun K hK'=>?_
 obtain ⟨i,h2,h3,h4,h5⟩:=info_parts infoI64
 subst hC
 have hrun:=run_make (P:=Tryz.prog) w 176 3 i (.int .i64 0) Tryz.underlying176 h2 h3 .u64 .u64 n n (by omega) (by omega) (by rw[h5];omega) (by omega)
 unfold Oper.wp
 simp only[Int.toNat_natCast,h4,Nat.mul_one,made_int] at hrun
 simp[execOp,hop,hl,hc,hrun,Result.andThen]
 exact hK' _ _ hK
def RowI (w:World) (g:Nat) (N:List Int) (k:Nat):Prop:=∃ l:List Int,l.length=N.length/\w.heap[g]? =some (iO l 3)/\∀ j,j<k->l.getD j 0=N.getD j 0
theorem RowI.make (w:World) (N:List Int):RowI (w.alloc (iO (List.replicate N.length 0) 3)) w.heap.size N 0:=
 ⟨List.replicate N.length 0,List.length_replicate,heap_alloc_new w _,fun j hj=>absurd hj (Nat.not_lt_zero _)⟩
theorem RowI.row {w:World}{g:Nat}{N:List Int}{k:Nat} (h:RowI w g N k):∃ l:List Int,l.length=N.length/\w.heap[g]? =some (iO l 3):=by
 obtain ⟨l,h1,h2,_⟩:=h
 exact ⟨l,h1,h2⟩
theorem RowI.set {w:World}{g:Nat}{N:List Int}{k:Nat} (h:RowI w g N k) (hk:k<N.length) {y:Int} (hy:y=N.getD k 0):RowI (w.setCell ⟨g,k,none⟩ (.int .i64 y)) g N (k+1):=by
 obtain ⟨l,h1,h2,h3⟩:=h
 refine ⟨l.set k y,by rw[List.length_set];exact h1,io_set h2 k y,fun j hj=>?_⟩
 by_cases e:j=k
 · subst e
   have hjl:j<l.length:=by omega
   rw[<- hy]
   simp[List.getD_eq_getElem?_getD,hjl]
 · rw[List.getD_eq_getElem?_getD,List.getElem?_set_ne (by omega),<- List.getD_eq_getElem?_getD]
   exact h3 j (by omega)
theorem RowI.done {w:World}{B g:Nat}{N:List Int} (h:RowI w g N N.length) (hB:B<=g) (hm:N.length<=1000000):IR w B (.slice (some ⟨g,0,none⟩) N.length N.length) N:=by
 obtain ⟨l,h1,h2,h3⟩:=h
 have e:l=N:=by
  apply List.ext_getElem h1
  intro i a b
  have:=h3 i b
  simpa [List.getD_eq_getElem?_getD,a,b] using this
 subst e
 exact IR.of_row hB h2 (by unfold maxLen;omega)
theorem IR.more9 {w:World}{B:Nat}{v:Value}{l:List Int} (h:IR w B v l):IR w 0 v l:=by
 refine ⟨h.1,?_⟩
 rcases h.2 with h| ⟨g,cap,cur,hv,hg,r⟩
 · exact .inl h
 · exact .inr ⟨g,cap,cur,hv,Nat.zero_le _,r⟩
theorem tReadN_of {w:World}{v:Value}{c:List Int}{N:List Int} (hs:BSl w v c) (hc:c.length=252) (h37:N.length<=37) (hcnt:getV c 8 2=(N.length:Int)) (hnum:∀ i,i<N.length->getV c (10+2*i) 2=N.getD i 0)
 (hx:∀ i,i<N.length->0<=N.getD i 0/\N.getD i 0<=65535) (B:Bool) (hB:frmNs N=B):
 Calls Tryz.prog 202 #[v] w fun e w'=>∃ u,e=.returned (.tuple #[u,.bool B])/\IR w' 0 u N/\Below w.heap.size w w':=by
 have KN:=Lib.hid (fun W u (h:ISc W u N)=>tFormN_of h)
 rw[hB] at KN
 have K8:=Lib.hid (pGetW hs (by omega) 8 2 8 2 rfl rfl (by omega) (by omega) (by omega) _ hcnt.symm)
 have KG:=Lib.hid (fun W (hb:Below w.heap.size w W) i (hi:i<N.length) (A:Int) (hA:A=((10+2*i:Nat):Int))=>pGetW (hs.below hb) (by omega) (10+2*i) 2 A 2 hA rfl (by omega) (by omega) (by omega) _ (hnum i hi).symm)
 have HX:=Lib.hid hx
 have HR0:=Lib.hid (RowI.make w N)
 have HDN:=Lib.hid (fun W (h:RowI W w.heap.size N N.length)=>(h.done (Nat.le_refl _) (by omega)).more9)
 have HST:=Lib.hid (fun W k (h:RowI W w.heap.size N k) hk y hy=>h.set hk (y:=y) hy)
 have HRW:=Lib.hid (fun W k (h:RowI W w.heap.size N k)=>h.row)
 obtain ⟨ao,cap,rfl,_⟩:=hs.shape
 obtain ⟨n,hn⟩:∃ n,n=N.length:=⟨_,rfl⟩
 rw[<- hn] at K8 KG HX HR0 HDN HST HRW h37
 rw[hc] at K8 KG |-
 have hbx:=below_box w (iO (List.replicate n 0) 3)
 have hn37:¬ (37:Int)<(n:Int):=by omega
 have hnm:n<=1000000:=by omega
 clear hs hc hcnt hnum hx hB hn
 go_enter Tryz.func202,Tryz.ntmps202
 go_wp2_with (first
  |(go_at_call 144;(with_reducible refine K8.out.mono ?_);rintro e w2 ⟨rfl,rfl⟩)
  |(at_make;refine wpList_make_int64 w rfl _ _ rfl (n:Int) n rfl rfl rfl hnm ?_))
 generalize w.alloc (iO (List.replicate n 0) 3)=w1 at hbx HR0 |-
 have HBX:=Lib.hid hbx
 obtain ⟨g,hg⟩:∃ g,g=w.heap.size:=⟨_,rfl⟩
 rw[<- hg] at HR0 HDN HST HRW |-
 have HG:=Lib.hid hg
 clear hbx hg
 go_loopw [21] (fun i wr=>∃ k:Nat,k<=n/\i=.int .i64 k/\Hid (RowI wr g N k)/\Hid (Below w.heap.size w wr)) (fun i _=>n-(intOf i).toNat)
 case atStart=>exact ⟨0,by omega,rfl,HR0,HBX⟩
 case round=>
  obtain ⟨k,hk,rfl,HR,HB⟩:=hrel
  clear HR0 HBX K8
  by_cases hlt:k<n
  · have KK:=Lib.hid (KG.out _ HB.out k hlt (10+(k:Int)*2) (by push_cast;omega))
    obtain ⟨x0,x1⟩:=HX.out k hlt
    obtain ⟨l,hl1,hl2⟩:=HRW.out _ k HR.out
    have hst:=HST.out _ k HR.out hlt _ rfl
    obtain ⟨x,hxx⟩:∃ x,x=N.getD k 0:=⟨_,rfl⟩
    rw[<- hxx] at KK x0 x1 hst
    have HS1:=Lib.hid hst
    have hfz:=io_free hl2 k
    have hce:∃ z,wr.cell? ⟨g,k,none⟩=some z:=by
     by_cases hkl:k<l.length
     · exact ⟨_,io_cell hl2 k hkl⟩
     · exact absurd (Nat.lt_of_lt_of_le hlt (Nat.le_of_not_lt fun h=>hkl (by omega))) (Nat.lt_irrefl _)
    obtain ⟨z,hz⟩:=hce
    have ek:(k:Int)<(n:Int):=by omega
    have hwx:IntKind.i64.wrap x=x:=IntWalk.i64_in _ (by omega)
    clear hxx hst hl1 hl2
    go_wp2_with (go_at_call 144;(with_reducible refine KK.out.mono ?_);rintro e w2 ⟨rfl,rfl⟩)
    go_roundw
    case rel=>exact ⟨k+1,by omega,by go_num,HS1,HB.out.trans ((Wrote.setCell wr g k _).below (by rw[HG.out];exact Nat.le_refl _))⟩
    case measure=>simp[intOf];omega
  · obtain rfl:k=n:=by omega
    have KF:=Lib.hid (KN.out _ _ (HDN.out _ HR.out).isc)
    go_wp2_with (go_at_call 211;(with_reducible refine KF.out.mono ?_);rintro e w2 ⟨rfl,rfl⟩)
    go_ret2
    exact ⟨_,rfl,HDN.out _ HR.out,HB.out⟩
end Go.Proofs.YtedabomlfcghoaaGreat
namespace Go.Proofs.YtedabomlfcghoaaGreat
set_option maxRecDepth 100000
open Go.RowKit
set_option maxHeartbeats 1000000 in
theorem tReadH_of {w:World}{v:Value}{q:Int}{N:List Int}{L:List (List Int)} (hs:BBSl w v L) (h0:0<L.length) (hh:L.getD 0 []=sealS (headL q N)) (hN:frmNs N=true) (q0:0<=q) (q1:q<4294967296):
 Calls Tryz.prog 175 #[v] w fun e w'=>∃ u,e=.returned (.tuple #[.int .u32 q,u,.bool true])/\IR w' 0 u N/\Below w.heap.size w w':=by
 obtain ⟨h37,hx⟩:=frmNs_of hN
 have hl252:(headL q N).length<=252:=by rw[headL_length];omega
 have hfl:=fillS_length _ hl252
 obtain ⟨ao,cap,rfl,_,hc⟩:=hs.open'
 obtain ⟨b,off,rfl,hb,hcc⟩:=hc h0
 obtain ⟨u0,hu0,hb0⟩:=hcc 0 h0
 rw[hh] at hb0
 rw[Nat.add_zero] at hu0
 obtain ⟨uo,uc,rfl,_⟩:=hb0.shape
 have h256:=sealS_length _ hl252
 rw[h256] at hu0 hb0
 have KO:=Lib.hid (pOpen_is hb0 (sealed_sealS _ hl252))
 rw[head_take q N h37] at KO
 have K4:=Lib.hid (fun W v (h:BSl W v (fillS (headL q N)))=>pGetW h (by omega) 4 4 4 4 rfl rfl (by omega) (by omega) (by omega) q (head_seq q N q0 q1).symm)
 have KR:=Lib.hid (fun W v (h:BSl W v (fillS (headL q N)))=>tReadN_of h hfl h37 (head_count q N h37) (fun i hi=>head_number q N i hi (hx i hi)) (fun i hi=>⟨(hx i hi).1,by have:=(hx i hi).2;omega⟩) true hN)
 have KH:=Lib.hid (fun W u (h:IR W 0 u N)=>tHead_of h.sl h37 hx q0 q1)
 have HU0:=Lib.hid hb0
 generalize sealS (headL q N)=HS at KO KH HU0
 generalize fillS (headL q N)=HC at KO K4 KR
 obtain ⟨m,hm⟩:∃ m,m=L.length:=⟨_,rfl⟩
 rw[<- hm] at h0 |-
 have hm0:¬ (m:Int)=0:=by omega
 have hm1:((m:Int)==0)=false:=by simpa using hm0
 have hm2:(0:Int)<(m:Int):=by omega
 have hwq:IntKind.u32.wrap q=q:=IntWalk.u32_in _ (by omega)
 clear hs hc hh hcc hb0 h256 hfl hl252 hx hN h37 q0 q1 hm
 go_enter Tryz.func175,Tryz.ntmps175
 go_wp2_with (first
  |(go_at_call 150;(with_reducible refine KO.out.mono ?_);rintro e w2 ⟨v2,rfl,hob2,hb2⟩
    have HV2:=Lib.hid hob2.bsl
    have HB2:=Lib.hid hb2)
  |(go_at_call 144;(with_reducible refine (K4.out _ _ HV2.out).mono ?_);rintro e w3 ⟨rfl,rfl⟩)
  |(go_at_call 202;(with_reducible refine (KR.out _ _ HV2.out).mono ?_);rintro e w4 ⟨v4,rfl,hv4,hb4⟩))
 have HB4:Hid (Below w.heap.size w w4.drew):=Lib.hid (below_drewN' (HB2.out.trans (hb4.mono HB2.out.size)) 1)
 have HV4:Hid (IR w4.drew 0 v4 N):=Lib.hid hv4
 have e0:w4.drew.cell? ⟨b,off,none⟩=some (.slice uo 256 uc):=(HB4.out.cell (p:=⟨b,off,none⟩) hb).trans hu0
 have hz4:b<w4.drew.heap.size:=Nat.lt_of_lt_of_le hb HB4.out.size
 have HU4:=Lib.hid (HU0.out.below HB4.out)
 clear hob2 hb2 hv4 hb4 hu0 HU0
 go_region_held3 (fun W=>W.cell? ⟨b,off,none⟩=some (.slice uo 256 uc)) (first|exact f0|exact e0) (first
  |(go_at_call 198;(with_reducible refine (KH.out _ _ HV4.out).mono ?_);rintro e w5 ⟨v5,rfl,hob5,hb5⟩
    have f0:=(hb5.cell (p:=⟨b,off,none⟩) hz4).trans e0
    have K6:=Lib.hid (bEqual_of hob5.bsl (HU4.out.below hb5))
    rw[decide_eq_true (rfl:HS=HS)] at K6
    have HB5:=Lib.hid (HB4.out.trans (hb5.mono HB4.out.size))
    have HV5:=Lib.hid (HV4.out.below hb5))
  |(go_at_call 99;(with_reducible refine K6.out.mono ?_);rintro e w6 ⟨rfl,rfl⟩))
 go_wp2
 go_ret3
 exact ⟨_,rfl,HV5.out,HB5.out⟩
theorem tSeq_of {w:World}{v:Value}{q:Int}{N:List Int}{L:List (List Int)} (hs:BBSl w v L) (h0:0<L.length) (hh:L.getD 0 []=sealS (headL q N)) (hN:frmNs N=true) (q0:0<=q) (q1:q<4294967296):
 Calls Tryz.prog 137 #[v] w fun e w'=>e=.returned (.tuple #[.int .u32 q,.bool true])/\Below w.heap.size w w':=by
 have K:=Lib.hid (tReadH_of hs h0 hh hN q0 q1)
 clear hs h0 hh hN q0 q1
 go_enter Tryz.func137,Tryz.ntmps137
 go_wp2_with (go_at_call 175;(with_reducible refine K.out.mono ?_);rintro e w2 ⟨v2,rfl,hv2,hb2⟩)
 go_ret2
 exact ⟨rfl,hb2⟩
end Go.Proofs.YtedabomlfcghoaaGreat
namespace Go.Proofs.YtedabomlfcghoaaGreat
set_option maxRecDepth 100000
open Go.RowKit
def numsC (c:List Int) (n:Nat):List Int:=(List.range n).map fun i=>getV c (10+2*i) 2
theorem numsC_length (c:List Int) (n:Nat):(numsC c n).length=n:=by simp[numsC]
theorem numsC_get (c:List Int) (n i:Nat) (hi:i<n):(numsC c n).getD i 0=getV c (10+2*i) 2:=by
 simp[numsC,List.getD_eq_getElem?_getD,hi]
def isHead (b:List Int) (q:Int) (N:List Int):Prop:=frmNs N=true/\(0<=q/\q<4294967296)/\b=sealS (headL q N)
theorem isHead_facts {b:List Int}{q:Int}{N:List Int} (h:isHead b q N):sealed b/\getV (b.take 252) 4 4=q/\getV (b.take 252) 8 2=(N.length:Int)/\numsC (b.take 252) N.length=N:=by
 obtain ⟨hN,⟨q0,q1⟩,rfl⟩:=h
 obtain ⟨h37,hx⟩:=frmNs_of hN
 have hl:(headL q N).length<=252:=by rw[headL_length];omega
 rw[head_take q N h37]
 refine ⟨sealed_sealS _ hl,head_seq q N q0 q1,head_count q N h37,?_⟩
 apply List.ext_getElem (numsC_length _ _)
 intro i a b
 have:=numsC_get (fillS (headL q N)) N.length i b
 rw[head_number q N i b (hx i b)] at this
 simpa [List.getD_eq_getElem?_getD,a,b] using this
theorem isHead_one {b:List Int}{q q':Int}{N N':List Int} (h:isHead b q N) (h':isHead b q' N'):q=q'/\N=N':=by
 obtain ⟨_,a1,a2,a3⟩:=isHead_facts h
 obtain ⟨_,b1,b2,b3⟩:=isHead_facts h'
 have e:N.length=N'.length:=by
  have:=a2.symm.trans b2
  omega
 exact ⟨a1.symm.trans b1,by rw[<- a3,<- b3,e]⟩
theorem get2 {c:List Int} (h:Byt c) (a:Nat):0<=getV c a 2/\getV c a 2<=65535:=by
 have:=getV_bound (byt_mem h) a 2
 simp at this
 omega
theorem tReadN_big {w:World}{v:Value}{c:List Int} (hs:BSl w v c) (hc:c.length=252) (h:37<getV c 8 2):
 Calls Tryz.prog 202 #[v] w fun e w'=>e=.returned (.tuple #[.slice none 0 0,.bool false])/\w=w':=by
 have K8:=Lib.hid (pGetW hs (by omega) 8 2 8 2 rfl rfl (by omega) (by omega) (by omega) _ rfl)
 obtain ⟨x,hx⟩:∃ x,x=getV c 8 2:=⟨_,rfl⟩
 rw[<- hx] at K8 h
 clear hs hc hx
 go_enter Tryz.func202,Tryz.ntmps202
 go_wp2_with (go_at_call 144;(with_reducible refine K8.out.mono ?_);rintro e w2 ⟨rfl,rfl⟩)
 go_ret2
 exact ⟨rfl,rfl⟩
theorem tReadN_any {w:World}{v:Value}{c:List Int} (hs:BSl w v c) (hc:c.length=252):
 Calls Tryz.prog 202 #[v] w fun e w'=>∃ u B,e=.returned (.tuple #[u,.bool B])/\Below w.heap.size w w'/\
  ((B=true/\getV c 8 2<=37/\frmNs (numsC c (getV c 8 2).toNat)=true/\IR w' 0 u (numsC c (getV c 8 2).toNat))\/
   (B=false/\(getV c 8 2<=37->frmNs (numsC c (getV c 8 2).toNat)=false)/\∃ ao n cap,u=.slice ao n cap)):=by
 by_cases h:getV c 8 2<=37
 · have h0:=(get2 hs.1 8).1
   obtain ⟨n,hn⟩:∃ n,n=(getV c 8 2).toNat:=⟨_,rfl⟩
   rw[<- hn]
   have hl:=numsC_length c n
   have hbd:∀ i,i<n->0<=(numsC c n).getD i 0/\(numsC c n).getD i 0<=65535:=fun i hi=>by rw[numsC_get c n i hi];exact get2 hs.1 _
   refine (tReadN_of hs hc (N:=numsC c n) (by rw[hl];omega) (by rw[hl];omega) (fun i hi=>(numsC_get c n i (by rw[hl] at hi;exact hi)).symm) (fun i hi=>hbd i (by rw[hl] at hi;exact hi)) _ rfl).mono ?_
   rintro e w' ⟨u,rfl,hu,hb⟩
   refine ⟨u,_,rfl,hb,?_⟩
   cases hf:frmNs (numsC c n)
   · obtain ⟨ao,cap,hv⟩:=hu.sl.shape
     exact .inr ⟨rfl,fun _=>rfl,ao,_,cap,hv⟩
   · exact .inl ⟨rfl,h,rfl,hu⟩
 · refine (tReadN_big hs hc (by omega)).mono ?_
   rintro e w' ⟨rfl,rfl⟩
   exact ⟨_,_,rfl,Below.refl _ _,.inr ⟨rfl,fun h'=>absurd h' h,none,0,0,rfl⟩⟩
theorem tReadH_nil {w:World}{cap:Nat}{ao:Option Addr}:Calls Tryz.prog 175 #[.slice ao 0 cap] w fun e w'=>e=.returned (.tuple #[.int .u32 0,.slice none 0 0,.bool false])/\w=w':=by
 go_enter Tryz.func175,Tryz.ntmps175
 go_wp2
 go_ret3
 exact ⟨rfl,rfl⟩
theorem tReadH_open {w:World}{v:Value}{L:List (List Int)} (hs:BBSl w v L) (h0:0<L.length) (hh:¬ sealed (L.getD 0 [])):
 Calls Tryz.prog 175 #[v] w fun e w'=>e=.returned (.tuple #[.int .u32 0,.slice none 0 0,.bool false])/\Below w.heap.size w w':=by
 obtain ⟨ao,cap,rfl,_,hc⟩:=hs.open'
 obtain ⟨b,off,rfl,hb,hcc⟩:=hc h0
 obtain ⟨u0,hu0,hb0⟩:=hcc 0 h0
 rw[Nat.add_zero] at hu0
 obtain ⟨uo,uc,rfl,_⟩:=hb0.shape
 have KO:=Lib.hid (pOpen_not hb0 hh)
 obtain ⟨y,hy⟩:∃ y,y=(L.getD 0 []).length:=⟨_,rfl⟩
 rw[<- hy] at KO hu0
 obtain ⟨m,hm⟩:∃ m,m=L.length:=⟨_,rfl⟩
 rw[<- hm] at h0 |-
 have hm0:¬ (m:Int)=0:=by omega
 have hm1:((m:Int)==0)=false:=by simpa using hm0
 have hm2:(0:Int)<(m:Int):=by omega
 clear hs hc hh hcc hb0 hm hy
 go_enter Tryz.func175,Tryz.ntmps175
 go_wp2_with (go_at_call 150;(with_reducible refine KO.out.mono ?_);rintro e w2 ⟨rfl,hb2⟩)
 go_ret3
 exact ⟨rfl,hb2⟩
set_option maxHeartbeats 1000000 in
theorem tReadH_sealed {w:World}{v:Value}{L:List (List Int)} (hs:BBSl w v L) (h0:0<L.length) (hh:sealed (L.getD 0 [])) (hno:∀ q N,¬ isHead (L.getD 0 []) q N):
 Calls Tryz.prog 175 #[v] w fun e w'=>e=.returned (.tuple #[.int .u32 0,.slice none 0 0,.bool false])/\Below w.heap.size w w':=by
 obtain ⟨ao,cap,rfl,_,hc⟩:=hs.open'
 obtain ⟨b,off,rfl,hb,hcc⟩:=hc h0
 obtain ⟨u0,hu0,hb0⟩:=hcc 0 h0
 rw[Nat.add_zero] at hu0
 obtain ⟨uo,uc,rfl,_⟩:=hb0.shape
 have KO:=Lib.hid (pOpen_is hb0 hh)
 have hl:=take_len hh
 have h256:(L.getD 0 []).length=256:=hh.1
 have hby:=hb0.1
 rw[h256] at hu0 hb0 KO
 have HU0:=Lib.hid hb0
 generalize L.getD 0 []=bb at KO hl hno HU0 hby
 obtain ⟨c,hcd⟩:∃ c,c=bb.take 252:=⟨_,rfl⟩
 have hbc:Byt c:=by rw[hcd];exact byt_take hby 252
 rw[<- hcd] at KO hl
 have hq:=getV_bound (byt_mem hbc) 4 4
 have q0:=hq.1
 have q1:getV c 4 4<4294967296:=by simpa using hq.2
 have K4:=Lib.hid (fun W v (h:BSl W v c)=>pGetW h (by omega) 4 4 4 4 rfl rfl (by omega) (by omega) (by omega) _ rfl)
 have KR:=Lib.hid (fun W v (h:BSl W v c)=>tReadN_any h hl)
 obtain ⟨q,hqd⟩:∃ q,q=getV c 4 4:=⟨_,rfl⟩
 rw[<- hqd] at q0 q1 K4
 obtain ⟨N,hN⟩:∃ N,N=numsC c (getV c 8 2).toNat:=⟨_,rfl⟩
 rw[<- hN] at KR
 have KH:=Lib.hid (fun (hf:frmNs N=true) W u (h:IR W 0 u N)=>tHead_of h.sl (frmNs_of hf).1 (frmNs_of hf).2 q0 q1)
 have HNE:=Lib.hid (fun (hf:frmNs N=true)=>show ¬ sealS (headL q N)=bb from fun e=>hno q N ⟨hf,⟨q0,q1⟩,e.symm⟩)
 generalize sealS (headL q N)=HS at KH HNE
 obtain ⟨m,hm⟩:∃ m,m=L.length:=⟨_,rfl⟩
 rw[<- hm] at h0 |-
 have hm0:¬ (m:Int)=0:=by omega
 have hm1:((m:Int)==0)=false:=by simpa using hm0
 have hm2:(0:Int)<(m:Int):=by omega
 have hwq:IntKind.u32.wrap q=q:=IntWalk.u32_in _ (by omega)
 clear hs hc hh hcc hb0 h256 hl hno hby hcd hbc hq hqd hN hm q0 q1
 go_enter Tryz.func175,Tryz.ntmps175
 go_wp2_with (first
  |(go_at_call 150;(with_reducible refine KO.out.mono ?_);rintro e w2 ⟨v2,rfl,hob2,hb2⟩
    have HV2:=Lib.hid hob2.bsl
    have HB2:=Lib.hid hb2)
  |(go_at_call 144;(with_reducible refine (K4.out _ _ HV2.out).mono ?_);rintro e w3 ⟨rfl,rfl⟩)
  |(go_at_call 202;(with_reducible refine (KR.out _ _ HV2.out).mono ?_);rintro e w4 ⟨v4,B4,rfl,hb4,hcase⟩
    have HCASE:=Lib.hid hcase
    clear hcase))
 have HB4:Hid (Below w.heap.size w w4.drew):=Lib.hid (below_drewN' (HB2.out.trans (hb4.mono HB2.out.size)) 1)
 have HB44:Hid (Below w.heap.size w w4):=Lib.hid (HB2.out.trans (hb4.mono HB2.out.size))
 clear hob2 hb2 hb4
 rcases HCASE.out with ⟨rfl,_,hf,hv4⟩| ⟨rfl,_,ao4,n4,cap4,rfl⟩
 · have HF:=Lib.hid hf
   have HV4:Hid (IR w4.drew 0 v4 N):=Lib.hid hv4
   have e0:w4.drew.cell? ⟨b,off,none⟩=some (.slice uo 256 uc):=(HB4.out.cell (p:=⟨b,off,none⟩) hb).trans hu0
   have hz4:b<w4.drew.heap.size:=Nat.lt_of_lt_of_le hb HB4.out.size
   have HU4:=Lib.hid (HU0.out.below HB4.out)
   clear hu0 HU0 hf hv4 HCASE HB44
   go_region_held3 (fun W=>W.cell? ⟨b,off,none⟩=some (.slice uo 256 uc)) (first|exact f0|exact e0) (first
    |(go_at_call 198;(with_reducible refine (KH.out HF.out _ _ HV4.out).mono ?_);rintro e w5 ⟨v5,rfl,hob5,hb5⟩
      have f0:=(hb5.cell (p:=⟨b,off,none⟩) hz4).trans e0
      have K6:=Lib.hid (bEqual_of hob5.bsl (HU4.out.below hb5))
      rw[decide_eq_false (HNE.out HF.out)] at K6
      have HB5:=Lib.hid (HB4.out.trans (hb5.mono HB4.out.size)))
    |(go_at_call 99;(with_reducible refine K6.out.mono ?_);rintro e w6 ⟨rfl,rfl⟩))
   go_wp2
   go_ret3
   exact ⟨rfl,HB5.out⟩
 · clear HCASE HB4
   go_quiet (fail)
   go_wp2
   go_ret3
   exact ⟨rfl,below_drewN' HB44.out nq⟩
theorem tReadH_any {w:World}{v:Value}{L:List (List Int)} (hs:BBSl w v L):
 Calls Tryz.prog 175 #[v] w fun e w'=>Below w.heap.size w w'/\
  ((∃ q N u,0<L.length/\isHead (L.getD 0 []) q N/\e=.returned (.tuple #[.int .u32 q,u,.bool true])/\IR w' 0 u N)\/
   ((∀ q N,¬ (0<L.length/\isHead (L.getD 0 []) q N))/\e=.returned (.tuple #[.int .u32 0,.slice none 0 0,.bool false]))):=by
 by_cases h0:0<L.length
 · by_cases hd:∃ q N,isHead (L.getD 0 []) q N
   · obtain ⟨q,N,hq⟩:=hd
     refine (tReadH_of hs h0 hq.2.2 hq.1 hq.2.1.1 hq.2.1.2).mono ?_
     rintro e w' ⟨u,rfl,hu,hb⟩
     exact ⟨hb,.inl ⟨q,N,u,h0,hq,rfl,hu⟩⟩
   · have hno:∀ q N,¬ isHead (L.getD 0 []) q N:=fun q N h=>hd ⟨q,N,h⟩
     by_cases hse:sealed (L.getD 0 [])
     · refine (tReadH_sealed hs h0 hse hno).mono ?_
       rintro e w' ⟨rfl,hb⟩
       exact ⟨hb,.inr ⟨fun q N h=>hno q N h.2,rfl⟩⟩
     · refine (tReadH_open hs h0 hse).mono ?_
       rintro e w' ⟨rfl,hb⟩
       exact ⟨hb,.inr ⟨fun q N h=>hno q N h.2,rfl⟩⟩
 · obtain ⟨ao,cap,rfl,_⟩:=hs.shape
   have e:L.length=0:=by omega
   rw[e]
   refine tReadH_nil.mono ?_
   rintro e w' ⟨rfl,rfl⟩
   exact ⟨Below.refl _ _,.inr ⟨fun q N h=>absurd h.1 (by omega),rfl⟩⟩
theorem tSeq_any {w:World}{v:Value}{L:List (List Int)} (hs:BBSl w v L):
 Calls Tryz.prog 137 #[v] w fun e w'=>Below w.heap.size w w'/\
  ((∃ q N,0<L.length/\isHead (L.getD 0 []) q N/\e=.returned (.tuple #[.int .u32 q,.bool true]))\/
   ((∀ q N,¬ (0<L.length/\isHead (L.getD 0 []) q N))/\e=.returned (.tuple #[.int .u32 0,.bool false]))):=by
 by_cases h:∃ q N,0<L.length/\isHead (L.getD 0 []) q N
 · obtain ⟨q,N,h0,hq⟩:=h
   refine (tSeq_of hs h0 hq.2.2 hq.1 hq.2.1.1 hq.2.1.2).mono ?_
   rintro e w' ⟨rfl,hb⟩
   exact ⟨hb,.inl ⟨q,N,h0,hq,rfl⟩⟩
 · have hno:∀ q N,¬ (0<L.length/\isHead (L.getD 0 []) q N):=fun q N hh=>h ⟨q,N,hh⟩
   have K:Hid (Calls Tryz.prog 175 #[v] w fun e w'=>e=.returned (.tuple #[.int .u32 0,.slice none 0 0,.bool false])/\Below w.heap.size w w'):=Lib.hid ((tReadH_any hs).mono fun e w' ⟨hb,hc⟩=>by
    rcases hc with ⟨q,N,u,h0,hq,_⟩| ⟨_,he⟩
    · exact absurd ⟨h0,hq⟩ (hno q N)
    · exact ⟨he,hb⟩)
   have HNO:=Lib.hid hno
   clear hs h hno
   go_enter Tryz.func137,Tryz.ntmps137
   go_wp2_with (go_at_call 175;(with_reducible refine K.out.mono ?_);rintro e w2 ⟨rfl,hb2⟩)
   go_ret2
   exact ⟨hb2,.inr ⟨HNO.out,rfl⟩⟩
end Go.Proofs.YtedabomlfcghoaaGreat
