/- What the law rests on: part 15. -/
import Derived.Test.YtedabomlfcghoaaGreatKF14
set_option linter.unusedVariables false
namespace Go.Proofs.YtedabomlfcghoaaGreat
set_option maxRecDepth 100000
open Go.RowKit
theorem idx_fs7 (W:World) (g j:Nat) (hj:j<14):(Instr.index 246 (.agg (fldC g 14).toArray) (.int .i64 (j:Int))).run Tryz.prog W=.ok (.agg #[.pointer (some ⟨g,j,none⟩),.int .i64 (w7 j:Int)]) W:=by
 have e:fldC g 14=[.pointer (some ⟨g,0,none⟩),.int .i64 1,.pointer (some ⟨g,1,none⟩),.int .i64 1,.pointer (some ⟨g,2,none⟩),.int .i64 4,.pointer (some ⟨g,3,none⟩),.int .i64 2,.pointer (some ⟨g,4,none⟩),.int .i64 2,.pointer (some ⟨g,5,none⟩),.int .i64 2,.pointer (some ⟨g,6,none⟩),.int .i64 2,.pointer (some ⟨g,7,none⟩),.int .i64 2,.pointer (some ⟨g,8,none⟩),.int .i64 2,.pointer (some ⟨g,9,none⟩),.int .i64 2,.pointer (some ⟨g,10,none⟩),.int .i64 2,.pointer (some ⟨g,11,none⟩),.int .i64 2,.pointer (some ⟨g,12,none⟩),.int .i64 2,.pointer (some ⟨g,13,none⟩),.int .i64 2]:=rfl
 rw[e]
 have a1:=Tryz.isAgg245
 have z1:=Tryz.sizeOf245
 have:j=0\/j=1\/j=2\/j=3\/j=4\/j=5\/j=6\/j=7\/j=8\/j=9\/j=10\/j=11\/j=12\/j=13:=by omega
 rcases this with rfl|rfl|rfl|rfl|rfl|rfl|rfl|rfl|rfl|rfl|rfl|rfl|rfl|rfl <;> simp[Instr.index,run_underlying Tryz.underlying246,asIntOf,go_sem,a1,z1] <;> rfl
theorem grown_keep {w w':World}{row:Option Nat} (h:w.grownBy w' row) (b o:Nat) (hb:b<w.heap.size) (hne:∀ k,row=some k->k≠b):w'.cell? ⟨b,o,none⟩=w.cell? ⟨b,o,none⟩:=by
 apply World.cell?_of_block
 exact h.block b hb (fun e=>hne b e.symm rfl)
theorem step_append_bytes {ops:Array Oper}{o:Oper}{a:Act}{w:World}{K:Act->World->Prop}{Q:Exit->Act->World->Prop}{E:Prop} (hgd:o.guard=none) (s x:Operand)
 (ho:o.op=.call { callee:=.builtin .append,args:=#[s,x],argTypes:=#[30,30] })
 (B:Nat) (v:Value) (l:List Int) (hs:a.eval s=v) (hown:OB w B v l) (u:Value) (m:List Int) (hx:a.eval x=u) (hr:BSl w u m) (hm:0<m.length)
 (hlen:l.length+m.length<=140737488355328) (hB:B<=w.heap.size)
 (h:∀ v' w',OB w' B v' (l ++ m)->Below B w w'->w.grownBy w' v.ownBlock->K (a.put o.dst v') w'):
 if Region.wanted o (yielded ops a.tmps)=true then Oper.wp Tryz.prog o a w K Q else E:=by
 have hw:Region.wanted o (yielded ops a.tmps)=true:=by simp[Region.wanted,hgd]
 rw[if_pos hw]
 obtain ⟨i,h2,h3,h4,h5⟩:=info_parts infoU8
 obtain ⟨ao,cap,rfl,hcap⟩:=hr.shape
 have hby:=byt_append hown.1 hr.1
 have e1:(l ++ m).length=l.length+m.length:=List.length_append
 have e2:(l ++ m).map (Value.int .u8)=l.map (Value.int .u8) ++ m.map (Value.int .u8):=List.map_append
 cases ao with
 |none=>
  rcases hr.2 with ⟨_,hl⟩| ⟨_,_,hv,_⟩
  · rw[hl] at hm;simp at hm
  · simp at hv
 |some ad=>
  have hcells:∀ j v,(m.map (Value.int .u8))[j]? =some v->w.cell? (ad.add j)=some v:=by
   intro j v hj
   have hjl:j<m.length:=by simpa using (List.getElem?_eq_some_iff.1 hj).1
   obtain ⟨ad',he,hc⟩:=src_cells hr (fun _ _=>rfl) m.length (by simp;omega)
   obtain rfl:ad=ad':=by simpa using he
   exact hc j v (by simpa using hj)
  refine wp_append_own w s x 30 ho B 5 i (.int .u8 0) 1 1 Tryz.underlying30 h2 h3 h4 h5 rfl (by decide) v l.length _ hs hown.2 ad m.length cap _ hx (by simp) hcells (ints_oneCell _ _) (by simp only[maxLen];omega) (by omega) hB fun v' w' h6 h7 _=>?_
  exact h v' w' ⟨hby,by rw[e1,e2];exact h6⟩ ((Below.refl _ _).grown h7 hB fun k hk=>(hown.2.lt k hk).1) h7
theorem ob_len7 {w:World}{B:Nat}{v:Value}{l:List Int} (h:OB w B v l) (n:Nat) (hn:l.length=n) (h0:0<n):∃ g cap,v=.slice (some ⟨g,0,none⟩) n cap:=by
 rcases h.2.2 with ⟨_,h1⟩| ⟨g,cap,cur,hv,_⟩
 · omega
 · exact ⟨g,cap,by rw[hv,hn]⟩
set_option maxHeartbeats 2000000 in
theorem iWrite_at (kd ln sz d0 d1 d2 d3 d4 d5 d6 d7 d8 d9 mp:Int) (L:List Int) (hLL:L=[kd,ln,sz,d0,d1,d2,d3,d4,d5,d6,d7,d8,d9,mp]) (hf:frmI L=true) (w:World):Calls Tryz.prog 142 #[.agg #[.int .i64 kd,.int .i64 ln,.int .i64 sz,.int .i64 d0,.int .i64 d1,.int .i64 d2,.int .i64 d3,.int .i64 d4,.int .i64 d5,.int .i64 d6,.int .i64 d7,.int .i64 d8,.int .i64 d9,.int .i64 mp]] w (NewB w (enc7 L)):=by
 have hL:L.length=14:=by rw[hLL];rfl
 have hb1:=below_box w (iO L 47)
 have hr1:=heap_alloc_new w (iO L 47)
 obtain ⟨W1,hW1⟩:∃ W1,W1=w.alloc (iO L 47):=⟨_,rfl⟩
 rw[<- hW1] at hb1 hr1
 have hsz:w.heap.size<W1.heap.size:=by rw[hW1];simp
 have HZ1:Hid (W1.heap.size=w.heap.size+1):=Lib.hid (by rw[hW1];simp)
 have H2:Hid (w.alloc (.cells #[.int .i64 kd,.int .i64 ln,.int .i64 sz,.int .i64 d0,.int .i64 d1,.int .i64 d2,.int .i64 d3,.int .i64 d4,.int .i64 d5,.int .i64 d6,.int .i64 d7,.int .i64 d8,.int .i64 d9,.int .i64 mp] 47)=W1):=Lib.hid (by rw[hW1,hLL];rfl)
 have HR1:=Lib.hid hr1
 have HF:=Lib.hid (frm7_num hL hf)
 have HL:=Lib.hid hL
 obtain ⟨M,hMM⟩:∃ M:Nat,M=32:=⟨_,rfl⟩
 have HMI:Hid ((32:Int)=(M:Int)):=Lib.hid (by omega)
 have hM1:M<=1000:=by omega
 clear hW1 hr1 hLL hf hL hMM
 go_enter Tryz.func142,Tryz.ntmps142
 go_wp2_with (first
  |(at_make;refine wpList_make_u8c _ rfl _ _ rfl 0 32 0 M rfl rfl rfl HMI.out (Nat.zero_le _) (by omega) ?_)
  |(go_at_call 176
    rw[H2.out]
    have hob2:=ob_made W1 M hM1
    have hb2:Below W1.heap.size W1 (W1.alloc (.cells (Array.replicate M (.int .u8 0)) 5)):=below_box _ _
    generalize W1.alloc (.cells (Array.replicate M (.int .u8 0)) 5)=w2 at hob2 hb2 |-
    refine (iFields_of _ _).mono ?_;rintro e w3 ⟨rfl,hb3⟩))
 rw[HZ1.out] at hob2
 have hb23:Below W1.heap.size W1 w3:=hb2.trans (hb3.mono hb2.size)
 have hb03:Below w.heap.size w w3:=hb1.trans (hb23.mono (Nat.le_of_lt hsz))
 have hr3:w3.heap[w.heap.size]? =some (iO L 47):=(hb23.block _ hsz).trans HR1.out
 have hz3:w.heap.size<w3.heap.size:=Nat.lt_of_lt_of_le hsz hb23.size
 obtain ⟨g,hg⟩:∃ g,g=w.heap.size:=⟨_,rfl⟩
 rw[<- hg] at hr3 hz3 |-
 have hc3:∀ j,j<14->w3.cell? ⟨g,j,none⟩=some (.int .i64 (L.getD j 0)):=fun j hj=>io_cell hr3 j (by rw[HL.out];exact hj)
 have HIX:=Lib.hid (fun W j hj=>idx_fs7 W g j hj)
 obtain ⟨F,hF⟩:∃ F,F=(fldC g 14).toArray:=⟨_,rfl⟩
 rw[<- hF] at HIX |-
 have HOB3:=Lib.hid ((hob2.below hb3).more (B':=g+1) (by have:=HZ1.out;omega))
 rw[<- hg] at HOB3
 have HC:=Lib.hid hc3
 have hbg3:Below g w w3:=by rw[hg];exact hb03
 have HG:=Lib.hid hg
 clear hb03 hg hr3 hc3 hF hb23 hb3 hb2 hob2 hb1 hsz
 go_loopw [3,8] (fun u i wr=>∃ j:Nat,j<=14/\i=.int .i64 j/\Hid (OB wr (g+1) u (con7 L j))/\Hid (Below g w wr)/\w3.heap.size<=wr.heap.size/\Hid (∀ j,j<14->wr.cell? ⟨g,j,none⟩=some (.int .i64 (L.getD j 0)))) (fun _ i _=>14-(intOf i).toNat)
 case atStart=>exact ⟨0,by omega,rfl,HOB3,hbg3,Nat.le_refl _,HC⟩
 case round=>
  clear HOB3 hbg3 HC
  obtain ⟨j,hj,rfl,HOB,HBR,hsz,HC⟩:=hrel
  by_cases hlt:j<14
  · have hix:=HIX.out wr j hlt
    have hx0:=HF.out j hlt
    have hcx:=HC.out j hlt
    have hcs:con7 L (j+1)=con7 L j ++ lowB (L.getD j 0) (w7 j):=rfl
    have hwd:=w7_le j
    have hlen:=con7_length L j
    have hpin:=p7_in j hlt
    have hpw:=pow256_le hwd.2
    have e4:(256:Int) ^ 4=4294967296:=rfl
    obtain ⟨x,hx⟩:∃ x,x=L.getD j 0:=⟨_,rfl⟩
    obtain ⟨k,hk⟩:∃ k,k=w7 j:=⟨_,rfl⟩
    rw[<- hx] at hx0 hcx hcs
    rw[<- hk] at hwd hix hcs hx0 hpin hpw
    have hx1:x<4294967296:=by omega
    have hx2:=hx0.1
    have HCS:=Lib.hid hcs
    have HPU:=Lib.hid (fun W=>pPut_at (bsl_nil W) (by simp) x (k:Int) k (by omega) (by omega) rfl hx2 (by omega))
    have HLE:Hid ((con7 L j).length+(lowB x k).length<=140737488355328):=Lib.hid (by rw[hlen,lowB_length];omega)
    have HKL:Hid (0<(lowB x k).length):=Lib.hid (by rw[lowB_length];omega)
    have ej:(j:Int)<14:=by omega
    have hgw:g<wr.heap.size:=Nat.lt_of_lt_of_le hz3 hsz
    clear hx hk hcs hx0 hlen hpin hpw e4
    go_wp2
    have hbx:=below_box wr (.cells #[.pointer (some ⟨g,j,none⟩),.int .i64 (k:Int)] 245)
    have hhx:=heap_alloc_new wr (.cells #[.pointer (some ⟨g,j,none⟩),.int .i64 (k:Int)] 245)
    generalize wr.alloc (.cells #[.pointer (some ⟨g,j,none⟩),.int .i64 (k:Int)] 245)=W5 at hbx hhx |-
    have c0:W5.cell? ⟨wr.heap.size,0,none⟩=some (.pointer (some ⟨g,j,none⟩)):=by rw[cell_of_row _ _ _ _ _ _ hhx];rfl
    have c1:W5.cell? ⟨wr.heap.size,1,none⟩=some (.int .i64 (k:Int)):=by rw[cell_of_row _ _ _ _ _ _ hhx];rfl
    have c2:W5.cell? ⟨g,j,none⟩=some (.int .i64 x):=by rw[hbx.cell hgw];exact hcx
    obtain ⟨q,hq⟩:∃ q,q=wr.heap.size:=⟨_,rfl⟩
    have hq5:q<W5.heap.size:=by rw[hq];exact (Array.getElem?_eq_some_iff.1 hhx).1
    have hg5:g<W5.heap.size:=by omega
    have hown:=HOB.out.2.lt
    have HNE:=Lib.hid (fun k hk=>(show k≠q/\k≠g by have h1:=hown k hk;omega))
    have hwx:IntKind.u64.wrap x=x:=IntWalk.u64_in _ (by omega)
    have HBX:=Lib.hid (below_drewN' hbx 1)
    have HU:=Lib.hid (HOB.out.below HBX.out)
    rw[<- hq] at c0 c1 |-
    have d0:W5.drew.cell? ⟨q,0,none⟩=some (.pointer (some ⟨g,j,none⟩)):=c0
    have d1:W5.drew.cell? ⟨q,1,none⟩=some (.int .i64 (k:Int)):=c1
    have d2:W5.drew.cell? ⟨g,j,none⟩=some (.int .i64 x):=c2
    change Hid (OB W5.drew _ _ _) at HU
    change Hid (Below wr.heap.size wr W5.drew) at HBX
    clear hbx hhx hcx hix hq c0 c1 c2 hown
    go_region_held3 (fun W=>W.cell? ⟨q,0,none⟩=some (.pointer (some ⟨g,j,none⟩))/\W.cell? ⟨q,1,none⟩=some (.int .i64 (k:Int))/\W.cell? ⟨g,j,none⟩=some (.int .i64 x)) (first|exact ⟨f0,f1,f2⟩|exact ⟨e0,e1,e2⟩|exact ⟨d0,d1,d2⟩) (first
     |(go_at_call 177;(with_reducible refine (HPU.out _).mono ?_);rintro e w6 ⟨v6,rfl,hob6,hb6⟩
       have HB6:=Lib.hid (HBX.out.trans (hb6.mono HBX.out.size))
       have e0:=(hb6.cell (p:=⟨q,0,none⟩) hq5).trans d0
       have e1:=(hb6.cell (p:=⟨q,1,none⟩) hq5).trans d1
       have e2:=(hb6.cell (p:=⟨g,j,none⟩) hg5).trans d2
       have hq6:q<w6.heap.size:=Nat.lt_of_lt_of_le hq5 hb6.size
       have hg6:g<w6.heap.size:=Nat.lt_of_lt_of_le hg5 hb6.size)
     |(refine step_append_bytes rfl (.tmp 11) (.tmp 19) rfl (g+1) _ (con7 L j) rfl (HU.out.below hb6) v6 (lowB x k) rfl hob6.bsl HKL.out HLE.out hg6 ?_
       intro v7 w7 hob7 hb7 hg7
       have f0:=(grown_keep hg7 q 0 hq6 (fun k hk=>(HNE.out k hk).1)).trans e0
       have f1:=(grown_keep hg7 q 1 hq6 (fun k hk=>(HNE.out k hk).1)).trans e1
       have f2:=(grown_keep hg7 g j hg6 (fun k hk=>(HNE.out k hk).2)).trans e2))
    go_wp2
    go_roundw
    case rel=>
     have h67:Below g wr w7:=(HB6.out.mono (Nat.le_of_lt hgw)).trans (hb7.mono (Nat.le_succ g))
     refine ⟨j+1,by omega,by go_num,?_,HBR.out.trans h67,Nat.le_trans hsz h67.size,fun i hi=>?_⟩
     · show OB _ _ _ (con7 L (j+1))
       rw[HCS.out];exact hob7
     · rw[hb7.cell (p:=⟨g,i,none⟩) (Nat.lt_succ_self g),HB6.out.cell (p:=⟨g,i,none⟩) hgw];exact HC.out i hi
    case measure=>simp[intOf];omega
  · obtain rfl:j=14:=by omega
    obtain ⟨gq,cq,rfl⟩:=ob_len7 HOB.out 28 (con7_length L 14) (by decide)
    have hle:g+1<=wr.heap.size:=by omega
    have hl28:=con7_length L 14
    rw[p7_end] at hl28
    have HL28:Hid ((con7 L 14).length+4<=140737488355328):=Lib.hid (by omega)
    clear hl28
    go_wp2_with (at_builtin;refine wpList_append_zeros wr rfl (.tmp 22) (.tmp 25) rfl (g+1) _ (con7 L 14) rfl HOB.out 4 4 rfl rfl HL28.out hle ?_;intro v8 w8 hob8 hb8)
    go_ret
    have hbf:=HBR.out.trans (hb8.mono (Nat.le_succ g))
    have eg:=HG.out
    exact ⟨_,rfl,hob8.more (by omega),by rw[<- eg];exact hbf⟩
theorem iWrite_of {L:List Int} (hL:L.length=14) (hf:frmI L=true) (w:World):Calls Tryz.prog 142 #[.agg (iC L).toArray] w (NewB w (enc7 L)):=by
 match L,hL with
 |[kd,ln,sz,d0,d1,d2,d3,d4,d5,d6,d7,d8,d9,mp],_=>exact iWrite_at kd ln sz d0 d1 d2 d3 d4 d5 d6 d7 d8 d9 mp _ rfl hf w
theorem infoN7:(Tryz.prog.info? 47).map (·.size)=some 14:=by kernel_rfl
theorem wpList_store_nums {ops:Array Oper}{rest:List Oper}{o:Oper}{a:Act}{w:World}{Q:Exit->Act->World->Prop} (hgd:o.guard=none) (T:TypeId) (x y:Operand) (ho:o.op=.store T x y)
 (g:Nat) (hx:a.eval x=.pointer (some ⟨g,0,none⟩)) (L D:List Int) (hy:a.eval y=.agg (iC L).toArray) (hLD:D.length=L.length) (hi:(Tryz.prog.info? T).map (·.size)=some L.length) (T':TypeId) (hg:w.heap[g]? =some (iO D T'))
 (h:∀ w',Wrote w w' g->w'.heap[g]? =some (iO L T')->wpList Tryz.prog ops Q rest (a.put o.dst undef) w'):wpList Tryz.prog ops Q (o :: rest) a w:=
 wpList_store_row hgd T x y ho g _ hx hy T' _ hg (by rw[hi];simp[iC]) (by simp[iC,hLD]) (all_oneCell_toArray (iC_one L)) (h _ (Wrote.setRow _ _ _) (setRow_heap _ _ _ _ _ _ hg))
def NSl (w:World) (v:Value) (O:List (List Int)):Prop:=
 Len14 O/\((v=.slice none 0 0/\O=[])\/∃ a cap,v=.slice (some a) O.length cap/\∀ j,j<O.length->a.block<w.heap.size/\a.spot=none/\w.rangeAt a.block (a.off+j*14) (iC (O.getD j [])))
theorem NSl.open' {w:World}{v:Value}{O:List (List Int)} (h:NSl w v O):∃ ao cap,v=.slice ao O.length cap/\(0<O.length->∃ b off,ao=some ⟨b,off,none⟩/\b<w.heap.size/\
 ∀ j,j<O.length->w.rangeAt b (off+j*14) (iC (O.getD j []))):=by
 rcases h.2 with ⟨hv,hk⟩| ⟨⟨b,off,spot⟩,cap,hv,hc⟩
 · exact ⟨none,0,by rw[hv,hk];rfl,fun h=>by rw[hk] at h;simp at h⟩
 · refine ⟨_,cap,hv,fun h0=>?_⟩
   obtain ⟨h1,h2,_⟩:=hc 0 h0
   obtain rfl:spot=none:=h2
   exact ⟨b,off,rfl,h1,fun j hj=>(hc j hj).2.2⟩
theorem NSl.shape {w:World}{v:Value}{O:List (List Int)} (h:NSl w v O):∃ ao cap,v=.slice ao O.length cap:=by
 obtain ⟨ao,cap,hv,_⟩:=h.open'
 exact ⟨ao,cap,hv⟩
theorem NSl.at {w:World}{v:Value}{O:List (List Int)} (h:NSl w v O) (h0:0<O.length):∃ b off cap,v=.slice (some ⟨b,off,none⟩) O.length cap/\b<w.heap.size/\∀ j,j<O.length->w.rangeAt b (off+j*14) (iC (O.getD j [])):=by
 obtain ⟨ao,cap,hv,hc⟩:=h.open'
 obtain ⟨b,off,rfl,h1,h2⟩:=hc h0
 exact ⟨b,off,cap,hv,h1,h2⟩
theorem iEnc_len {w:World} (ao:Option Addr) (len cap:Nat) (h:len≠8):Calls Tryz.prog 91 #[.slice ao len cap] w fun e w'=>e=.returned (.tuple #[.slice none 0 0,.int .i64 1])/\w=w':=by
 have hne:((len:Int) != 8)=true:=by simp;omega
 go_enter Tryz.func91,Tryz.ntmps91
 go_wp2
 go_ret2
 exact ⟨rfl,rfl⟩
def EncT7 (O:List (List Int)) (w:World) (e:Ending) (w':World):Prop:=
 (allF O=true/\∃ u,e=.returned (.tuple #[u,.int .i64 0])/\OB w' w.heap.size u (encT O)/\Below w.heap.size w w')\/
 (allF O=false/\e=.returned (.tuple #[.slice none 0 0,.int .i64 1])/\Below w.heap.size w w')
theorem iEnc_8 {w:World}{v:Value}{O:List (List Int)} (hs:NSl w v O) (h8:O.length=8):Calls Tryz.prog 91 #[v] w (EncT7 O w):=by
 obtain ⟨b,off,cap,rfl,hb,hc⟩:=hs.at (by omega)
 have H14:=Lib.hid hs.1
 have HYE:=Lib.hid (allF_yes h8)
 have HNO:=Lib.hid (fun k hk h=>allF_no (k:=k) h8 hk h)
 have H8:=Lib.hid h8
 obtain ⟨M,hMM⟩:∃ M:Nat,M=256:=⟨_,rfl⟩
 have HMI:Hid ((256:Int)=(M:Int)):=Lib.hid (by omega)
 have hM1:M<=1000:=by omega
 rw[h8] at hc |-
 have HC:=Lib.hid hc
 clear hs hc h8 hMM
 go_enter Tryz.func91,Tryz.ntmps91
 go_wp2_with (at_make;refine wpList_make_u8c _ rfl _ _ rfl 0 256 0 M rfl rfl rfl HMI.out (Nat.zero_le _) (by omega) ?_)
 have HOB3:=Lib.hid (ob_made w M hM1)
 have hbw3:Below w.heap.size w (w.alloc (.cells (Array.replicate M (.int .u8 0)) 5)):=below_box _ _
 generalize w.alloc (.cells (Array.replicate M (.int .u8 0)) 5)=w3 at HOB3 hbw3 |-
 go_loopw [4,13] (fun u i wr=>∃ k:Nat,k<=8/\i=.int .i64 k/\Hid (OB wr w.heap.size u (encK7 O k))/\Hid (∀ j,j<k->frmI (O.getD j [])=true)/\Below w.heap.size w wr) (fun _ i _=>8-(intOf i).toNat)
 case atStart=>exact ⟨0,by omega,rfl,HOB3,fun j hj=>absurd hj (Nat.not_lt_zero _),hbw3⟩
 case round=>
  obtain ⟨k,hk,rfl,HOB,HK,hbr⟩:=hrel
  clear HOB3 hbw3
  by_cases hlt:k<8
  · have hrg:=range_low (HC.out k hlt) hbr hb
    have hno:=HNO.out k hlt
    have h14:=len14_get H14.out k (by rw[H8.out];exact hlt)
    have hpk:encK7 O (k+1)=encK7 O k ++ enc7 (O.getD k []):=rfl
    obtain ⟨x,hx⟩:∃ x,x=O.getD k []:=⟨_,rfl⟩
    rw[<- hx] at hrg hpk hno h14
    have ek:(k:Int)<8:=by omega
    have HX:=Lib.hid hx
    have HPK:=Lib.hid hpk
    have HL:=Lib.hid (encK7_length O k)
    have HN1:=Lib.hid hno
    have HRG:=Lib.hid hrg
    have HX14:Hid (zeroI.length=x.length):=Lib.hid h14.symm
    have HI14:Hid ((Tryz.prog.info? 47).map (·.size)=some x.length):=Lib.hid (by rw[infoN7,h14])
    have hz:(wr.alloc (.cells #[.int .i64 0,.int .i64 0,.int .i64 0,.int .i64 0,.int .i64 0,.int .i64 0,.int .i64 0,.int .i64 0,.int .i64 0,.int .i64 0,.int .i64 0,.int .i64 0,.int .i64 0,.int .i64 0] 47)).heap[wr.heap.size]? =some (iO zeroI 47):=heap_alloc_new wr _
    have hbz:=below_box wr (.cells #[.int .i64 0,.int .i64 0,.int .i64 0,.int .i64 0,.int .i64 0,.int .i64 0,.int .i64 0,.int .i64 0,.int .i64 0,.int .i64 0,.int .i64 0,.int .i64 0,.int .i64 0,.int .i64 0] 47)
    have hqz:wr.heap.size<(wr.alloc (.cells #[.int .i64 0,.int .i64 0,.int .i64 0,.int .i64 0,.int .i64 0,.int .i64 0,.int .i64 0,.int .i64 0,.int .i64 0,.int .i64 0,.int .i64 0,.int .i64 0,.int .i64 0,.int .i64 0] 47)).heap.size:=by simp
    have HZ:=Lib.hid hz
    have HBZ:=Lib.hid hbz
    have HQZ:=Lib.hid hqz
    have u1:=Tryz.underlying47
    obtain ⟨B,hf⟩:∃ B,frmI x=B:=⟨_,rfl⟩
    have HF:=Lib.hid hf
    have KF:=Lib.hid (iForm_is h14 B hf)
    have KW:=Lib.hid (fun h=>iWrite_of h14 (hf.trans h))
    clear hx hpk hno hrg h14 hz hbz hqz hf
    cases B
    · go_wp2_with (first
       |(with_reducible refine wpList_load_nums rfl 47 (.tmp 15) rfl b (off+k*14) rfl x _ HRG.out u1 rfl HI14.out ?_)
       |(with_reducible refine wpList_store_nums rfl 47 (.tmp 6) (.tmp 16) rfl wr.heap.size rfl x zeroI rfl HX14.out HI14.out _ HZ.out ?_
         intro w4 hw4 hr4
         have hrg4:=io_range hr4
         have hb4:=HBZ.out.trans (hw4.below (Nat.le_refl _)))
       |(with_reducible refine wpList_load_nums rfl 47 (.tmp 6) rfl wr.heap.size 0 rfl x _ hrg4 u1 rfl HI14.out ?_)
       |(go_at_call 90;refine (KF.out _).mono ?_;rintro e w5 ⟨rfl,hb5⟩))
      go_ret2
      exact .inr ⟨HN1.out HF.out,rfl,(hbr.trans (hb4.mono hbr.size)).trans (hb5.mono (Nat.le_trans hbr.size hb4.size))⟩
    · have KWT:=Lib.hid (KW.out rfl)
      clear KW
      go_wp2_with (first
       |(with_reducible refine wpList_load_nums rfl 47 (.tmp 15) rfl b (off+k*14) rfl x _ HRG.out u1 rfl HI14.out ?_)
       |(with_reducible refine wpList_store_nums rfl 47 (.tmp 6) (.tmp 16) rfl wr.heap.size rfl x zeroI rfl HX14.out HI14.out _ HZ.out ?_
         intro w4 hw4 hr4
         have hrg4:=io_range hr4
         have hb4:=HBZ.out.trans (hw4.below (Nat.le_refl _)))
       |(with_reducible refine wpList_load_nums rfl 47 (.tmp 6) rfl wr.heap.size 0 rfl x _ hrg4 u1 rfl HI14.out ?_)
       |(go_at_call 90;refine (KF.out _).mono ?_;rintro e w5 ⟨rfl,hb5⟩
         have hrg5:=range_low hrg4 hb5 (Array.getElem?_eq_some_iff.1 hr4).1
         have HB5:=Lib.hid (hb4.trans (hb5.mono hb4.size))
         clear hrg4 hb4 hb5 hw4)
       |(with_reducible refine wpList_load_nums rfl 47 (.tmp 6) rfl wr.heap.size 0 rfl x _ hrg5 u1 rfl HI14.out ?_)
       |(go_at_call 142;refine (KWT.out _).mono ?_;rintro e w6 ⟨v6,rfl,hob6,hb6⟩
         have HB6:=Lib.hid (HB5.out.trans (hb6.mono HB5.out.size))
         have HB06:=Lib.hid (hbr.trans (HB6.out.mono hbr.size)))
       |(at_builtin
         refine wpList_append_bytes w6 rfl _ _ rfl w.heap.size _ (encK7 O k) rfl (HOB.out.below HB6.out) w6 v6 (enc7 x) rfl hob6.bsl (fun _ _=>rfl) (by rw[HL.out,enc7_length];omega) HB06.out.size ?_
         intro v7 w7 hob7 hb7 _))
      go_roundw
      case rel=>
       refine ⟨k+1,by omega,by go_num,by show OB _ _ _ (encK7 O (k+1));rw[HPK.out];exact hob7,fun j hj=>?_,HB06.out.trans hb7⟩
       by_cases e:j=k
       · subst e;rw[<- HX.out];exact HF.out
       · exact HK.out j (by omega)
      case measure=>simp[intOf];omega
  · obtain rfl:k=8:=by omega
    go_wp2
    go_ret2
    exact .inl ⟨HYE.out HK.out,_,rfl,HOB.out,hbr⟩
theorem iEnc_any {w:World}{v:Value}{O:List (List Int)} (hs:NSl w v O):Calls Tryz.prog 91 #[v] w (EncT7 O w):=by
 by_cases h:O.length=8
 · exact iEnc_8 hs h
 · obtain ⟨ao,cap,rfl⟩:=hs.shape
   refine (iEnc_len ao _ cap h).mono fun e w' ⟨he,hw⟩=>.inr ⟨?_,he,by rw[<- hw];exact Below.refl _ _⟩
   unfold allF;rw[decide_eq_false h];rfl
theorem ret_nums {fn:Func}{p:Tmp} (T:TypeId) (h:fn.results=#[.cell p T]) (tmps:Array Value) (w:World) (g:Nat) (T':TypeId) (L:List Int) (d:TypeDesc) (hu:Tryz.prog.underlying T=some d) (hd:d.isRow=true) (hi:(Tryz.prog.info? T).map (·.size)=some L.length)
 (hp:tmps.getD p undef=.pointer (some ⟨g,0,none⟩)) (hg:w.heap[g]? =some (iO L T')):(results fn tmps).run Tryz.prog w=.ok (.agg (iC L).toArray) w:=
 results_cell_row h tmps w g T' _ (0,0) _ hp hg hu (by cases d <;> first|rfl|cases hd) (by rw[hi];simp[iC])
set_option maxHeartbeats 2000000 in
theorem iRead_of {w:World}{v:Value}{c:List Int} (hs:BSl w v c) (hc:c.length=32):Calls Tryz.prog 153 #[v] w fun e w'=>e=.returned (.agg (iC (rd7 c)).toArray)/\Below w.heap.size w w':=by
 have HS:=Lib.hid hs
 have HCL:=Lib.hid hc
 clear hs hc
 obtain ⟨w2,hw2⟩:∃ w2,w2=(w.alloc (iO zeroI 47)).alloc (iO zeroI 47):=⟨_,rfl⟩
 have h2:(w.alloc (.cells #[.int .i64 0,.int .i64 0,.int .i64 0,.int .i64 0,.int .i64 0,.int .i64 0,.int .i64 0,.int .i64 0,.int .i64 0,.int .i64 0,.int .i64 0,.int .i64 0,.int .i64 0,.int .i64 0] 47)).alloc (.cells #[.int .i64 0,.int .i64 0,.int .i64 0,.int .i64 0,.int .i64 0,.int .i64 0,.int .i64 0,.int .i64 0,.int .i64 0,.int .i64 0,.int .i64 0,.int .i64 0,.int .i64 0,.int .i64 0] 47)=w2:=by rw[hw2];rfl
 have hb2:Below w.heap.size w w2:=by rw[hw2];exact ((Below.refl _ _).alloc (Nat.le_refl _) _).alloc (by simp) _
 have hr0:w2.heap[w.heap.size]? =some (iO zeroI 47):=by rw[hw2,@heap_alloc_old _ _ _ (by simp)];exact heap_alloc_new _ _
 have hr1:w2.heap[w.heap.size+1]? =some (iO zeroI 47):=by rw[hw2];exact heap_alloc2_new _ _ _
 have hz2:w2.heap.size=w.heap.size+2:=by rw[hw2];simp
 have H2:=Lib.hid h2
 have HR0:=Lib.hid hr0
 have HR1:=Lib.hid hr1
 clear h2 hw2 hr0 hr1
 go_enter Tryz.func153,Tryz.ntmps153
 go_wp2_with (first
  |(go_at_call 176;rw[H2.out];refine (iFields_of _ _).mono ?_;rintro e w4 ⟨rfl,hb4⟩))
 obtain ⟨gs,hgs⟩:∃ gs,gs=w.heap.size+1:=⟨_,rfl⟩
 have hgs4:w4.heap[gs]? =some (iO (rdTo7 c 0) 47):=by rw[hgs,hb4.block _ (by omega),rdTo7_zero];exact HR1.out
 have hgr4:w4.heap[w.heap.size]? =some (iO zeroI 47):=by rw[hb4.block _ (by omega)];exact HR0.out
 have hb04:Below w.heap.size w w4:=hb2.trans (hb4.mono (by omega))
 have hgsl:gs<w4.heap.size:=(Array.getElem?_eq_some_iff.1 hgs4).1
 have hwl:w.heap.size<w4.heap.size:=by omega
 rw[<- hgs]
 have HIX:=Lib.hid (fun W j hj=>idx_fs7 W gs j hj)
 obtain ⟨F,hF⟩:∃ F,F=(fldC gs 14).toArray:=⟨_,rfl⟩
 rw[<- hF] at HIX |-
 have HG:=Lib.hid hgs
 have HB04:=Lib.hid hb04
 have HGR:=Lib.hid hgr4
 clear hgs hb04 hgr4 hb4 hz2 hb2 hF
 go_loopw [4,10] (fun at_ i wr=>∃ j:Nat,j<=14/\i=.int .i64 j/\at_=.int .i64 (p7 j:Int)/\Hid (wr.heap[gs]? =some (iO (rdTo7 c j) 47))/\Hid (KeptG w4 wr gs)) (fun _ i _=>14-(intOf i).toNat)
 case atStart=>exact ⟨0,by omega,rfl,rfl,hgs4,KeptG.refl _ _⟩
 case round=>
  obtain ⟨j,hj,rfl,rfl,HRW,HKP⟩:=hrel
  clear hgs4
  by_cases hlt:j<14
  · have hix:=HIX.out wr j hlt
    have hy0:=getV7 HS.out.1 j
    have hwd:=w7_le j
    have hps:=p7_in j hlt
    have hcl:=HCL.out
    have hgn:=fun W (h:BSl W v c)=>pGetW h (by omega) (p7 j) (w7 j) (p7 j:Int) (w7 j:Int) rfl rfl (by omega) (by omega) (by omega) _ rfl
    have hset:=rdTo7_set c j
    obtain ⟨y,hy⟩:∃ y,y=getV c (p7 j) (w7 j):=⟨_,rfl⟩
    rw[<- hy] at hy0 hgn hset
    have hnx:p7 (j+1)=p7 j+w7 j:=rfl
    obtain ⟨P,hP⟩:∃ P,P=p7 j:=⟨_,rfl⟩
    obtain ⟨k,hk⟩:∃ k,k=w7 j:=⟨_,rfl⟩
    rw[<- hP] at hps hgn hnx |-
    rw[<- hk] at hwd hps hgn hnx hix
    have HGET:=Lib.hid hgn
    have HSET:=Lib.hid hset
    have ej:(j:Int)<14:=by omega
    have hgw:gs<wr.heap.size:=Nat.lt_of_lt_of_le hgsl HKP.out.2.2.2.1
    have HNX:=Lib.hid hnx
    have hbw:=HB04.out.trans (HKP.out.below (B:=w.heap.size) (by have:=HG.out;omega) (by omega))
    have HBW:=Lib.hid hbw
    clear hy hP hk hset hgn hnx hbw hcl
    have hwsz:wr.heap.size≠gs:=by omega
    go_wp2_with (first
     |(go_at_call 144
       have hb5:=below_box wr (.cells #[.pointer (some ⟨gs,j,none⟩),.int .i64 (k:Int)] 245)
       have hh5:=heap_alloc_new wr (.cells #[.pointer (some ⟨gs,j,none⟩),.int .i64 (k:Int)] 245)
       generalize wr.alloc (.cells #[.pointer (some ⟨gs,j,none⟩),.int .i64 (k:Int)] 245)=W5 at hb5 hh5 |-
       have hr5:W5.heap[gs]? =some (iO (rdTo7 c j) 47):=(hb5.block _ hgw).trans HRW.out
       have c0:W5.cell? ⟨wr.heap.size,0,none⟩=some (.pointer (some ⟨gs,j,none⟩)):=by rw[cell_of_row _ _ _ _ _ _ hh5];rfl
       have c1:W5.cell? ⟨wr.heap.size,1,none⟩=some (.int .i64 (k:Int)):=by rw[cell_of_row _ _ _ _ _ _ hh5];rfl
       have ck:=io_cell hr5 j (by rw[rdTo7_length];exact hlt)
       have fk:=io_free hr5 j
       have hw6:=Wrote.setCell W5 gs j (.int .i64 y)
       have c6:(W5.setCell ⟨gs,j,none⟩ (.int .i64 y)).cell? ⟨wr.heap.size,1,none⟩=some (.int .i64 (k:Int)):=by
        simp only[World.cell?];rw[hw6.2.2.2.2 _ hwsz];exact c1
       have hr6:=io_set hr5 j y
       rw[HSET.out] at hr6
       have HK6:=Lib.hid ((HKP.out.then hb5).wrote hw6)
       have HR6:=Lib.hid hr6
       have HB5:=Lib.hid (HBW.out.trans (hb5.mono HBW.out.size))
       clear hb5 hh5 hr5 hr6 hw6 hwsz
       refine (HGET.out _ (HS.out.below HB5.out)).mono ?_
       rintro e w' ⟨rfl,rfl⟩))
    go_roundw
    case rel=>exact ⟨j+1,by omega,by go_num,by rw[HNX.out];go_num,HR6.out,HK6.out⟩
    case measure=>simp[intOf];omega
  · obtain rfl:j=14:=by omega
    have hgrw:wr.heap[w.heap.size]? =some (iO zeroI 47):=by rw[HKP.out.2.2.2.2 _ hwl (by have:=HG.out;omega)];exact HGR.out
    have hlen:=rdTo7_length c 14
    have HRG:=Lib.hid (io_range HRW.out)
    have HI:Hid ((Tryz.prog.info? 47).map (·.size)=some (rdTo7 c 14).length):=Lib.hid (by rw[infoN7,hlen])
    have HZL:Hid (zeroI.length=(rdTo7 c 14).length):=Lib.hid (by rw[hlen];rfl)
    have HBW:=Lib.hid (HB04.out.trans (HKP.out.below (B:=w.heap.size) (by have:=HG.out;omega) (by omega)))
    have u1:=Tryz.underlying47
    go_wp2_with (first
     |(with_reducible refine wpList_load_nums rfl 47 (.tmp 3) rfl gs 0 rfl (rdTo7 c 14) _ HRG.out u1 rfl HI.out ?_)
     |(with_reducible refine wpList_store_nums rfl 47 (.tmp 2) (.tmp 31) rfl w.heap.size rfl (rdTo7 c 14) zeroI rfl HZL.out HI.out _ hgrw ?_;intro w7 hw7 hr7))
    refine bodyPost_ret (ret_nums 47 rfl _ _ w.heap.size _ _ _ u1 rfl HI.out rfl hr7) rfl ⟨by rw[rdTo7_full],HBW.out.trans (hw7.below (Nat.le_refl _))⟩
theorem flat14 {O:List (List Int)} (h:Len14 O):∀ x∈O,(iC x).length=14:=fun x hx=>by rw[iC_length];exact h x hx
def nC (O:List (List Int)):List Value:=O.flatMap iC
theorem nC_length {O:List (List Int)} (h:Len14 O):(nC O).length=O.length*14:=flat_length (flat14 h)
def NR (w:World) (B:Nat) (T:TypeId) (v:Value) (O:List (List Int)):Prop:=Len14 O/\w.ownsRow B T 14 v O.length (nC O)
theorem NR.sl {w:World}{B:Nat}{T:TypeId}{v:Value}{O:List (List Int)} (h:NR w B T v O):NSl w v O:=by
 refine ⟨h.1,?_⟩
 rcases h.2.2 with ⟨hv,hl⟩| ⟨g,cap,cur,hv,hg,hh,hnc,hcm,hcs,ht⟩
 · exact .inl ⟨hv,List.eq_nil_of_length_eq_zero hl⟩
 · refine .inr ⟨_,cap,hv,fun j hj=>⟨(Array.getElem?_eq_some_iff.1 hh).1,rfl,fun i u hu=>?_⟩⟩
   have hlen:(O.getD j []).length=14:=len14_get h.1 j hj
   have hi:i<14:=by have:=(List.getElem?_eq_some_iff.1 hu).1;rw[iC_length,hlen] at this;exact this
   have hle:j*14+14<=O.length*14:=by omega
   show w.cell? ⟨g,0+j*14+i,none⟩=_
   rw[Nat.zero_add,cell_of_row _ _ _ _ _ _ hh]
   have hf:=flat_get (f:=iC) (s:=14) (L:=O) (flat14 h.1) j hj
   have e:O.getD j []=O[j]:=by simp[List.getD_eq_getElem?_getD,hj]
   rw[e,<- hf,List.getElem?_take,if_pos hi,List.getElem?_drop] at hu
   have ht':(cur.toList.take (O.length*14))[j*14+i]? =(nC O)[j*14+i]? :=by rw[ht]
   rw[List.getElem?_take,if_pos (by omega)] at ht'
   rw[nC,hu] at ht'
   simpa using ht'
theorem NR.of_row {w:World}{B g:Nat}{T:TypeId}{O:List (List Int)} (h:Len14 O) (hB:B<=g) (hg:w.heap[g]? =some (.cells (nC O).toArray T (0,0))) (hm:O.length<=maxLen):NR w B T (.slice (some ⟨g,0,none⟩) O.length O.length) O:=by
 refine ⟨h,nC_length h,.inr ⟨g,O.length,_,rfl,hB,hg,Nat.le_refl _,hm,by simp[nC_length h],?_⟩⟩
 rw[List.take_of_length_le (by simp[nC_length h])]
theorem infoNz:(Tryz.prog.info? 47).map (fun i=>(i.zero,i.size,i.bytes))=some (some (.agg #[.int .i64 0,.int .i64 0,.int .i64 0,.int .i64 0,.int .i64 0,.int .i64 0,.int .i64 0,.int .i64 0,.int .i64 0,.int .i64 0,.int .i64 0,.int .i64 0,.int .i64 0,.int .i64 0]),14,112):=by kernel_rfl
theorem flat_rep {α:Type} (f:α->List Value) (x:α) (s:Nat) (hs:(f x).length=s):∀ (n i:Nat),i<n*s->((List.replicate n x).flatMap f)[i]? =(f x)[i%s]?
 |0,i,h=>by omega
 |n+1,i,h=>by
  rw[List.replicate_succ,List.flatMap_cons]
  by_cases hi:i<s
  · rw[List.getElem?_append_left (by omega),Nat.mod_eq_of_lt hi]
  · rw[List.getElem?_append_right (by omega),hs,flat_rep f x s hs n (i-s) (by rw[Nat.succ_mul] at h;omega),show i%s=(i-s)%s from Nat.mod_eq_sub_mod (by omega)]
theorem made_ino (n:Nat):madeCells (Value.agg #[.int .i64 0,.int .i64 0,.int .i64 0,.int .i64 0,.int .i64 0,.int .i64 0,.int .i64 0,.int .i64 0,.int .i64 0,.int .i64 0,.int .i64 0,.int .i64 0,.int .i64 0,.int .i64 0]).cells (n*14)=(nC (List.replicate n zeroI)).toArray:=by
 have hl:(nC (List.replicate n zeroI)).length=n*14:=by
  rw[nC_length (fun x hx=>by rw[List.eq_of_mem_replicate hx];rfl),List.length_replicate]
 apply Array.ext
 · simp[size_madeCells,hl]
 · intro i h1 h2
   have hi:i<n*14:=by simpa [size_madeCells] using h1
   have hz:=flat_rep iC zeroI 14 rfl n i hi
   have h3:(nC (List.replicate n zeroI))[i]? =some (.int .i64 0):=by
    rw[nC,hz]
    have:i%14<14:=Nat.mod_lt _ (by decide)
    have:i%14=0\/i%14=1\/i%14=2\/i%14=3\/i%14=4\/i%14=5\/i%14=6\/i%14=7\/i%14=8\/i%14=9\/i%14=10\/i%14=11\/i%14=12\/i%14=13:=by omega
    rcases this with e|e|e|e|e|e|e|e|e|e|e|e|e|e <;> rw[e] <;> rfl
   have h4:(nC (List.replicate n zeroI)).toArray[i]=.int .i64 0:=by
    have:=(List.getElem?_eq_some_iff.1 h3).2
    simpa using this
   rw[h4]
   simp only[madeCells,Value.cells,Array.getElem_map,Array.getElem_range]
   have:i%14<14:=Nat.mod_lt _ (by decide)
   have:i%14=0\/i%14=1\/i%14=2\/i%14=3\/i%14=4\/i%14=5\/i%14=6\/i%14=7\/i%14=8\/i%14=9\/i%14=10\/i%14=11\/i%14=12\/i%14=13:=by omega
   rcases this with e|e|e|e|e|e|e|e|e|e|e|e|e|e <;> simp[e]
theorem wpList_make_ino (w:World) {ops:Array Oper}{rest:List Oper}{o:Oper}{a:Act}{Q:Exit->Act->World->Prop}
 (hg:o.guard=none) (l c:Operand) (hop:o.op=Op.makeSlice 82 l c) (C:Int) (n:Nat) (hl:a.eval l=.int .i64 C) (hc:a.eval c=.int .i64 C) (hC:C=n) (hn:n<=1000000)
 (hK:wpList Tryz.prog ops Q rest (a.put o.dst (.slice (some ⟨w.heap.size,0,none⟩) n n)) (w.alloc (.cells (nC (List.replicate n zeroI)).toArray 47))):
 wpList Tryz.prog ops Q (o :: rest) a w:=by
 refine wpList_plain hg fun K hK'=>?_
 obtain ⟨i,h2,h3,h4,h5⟩:=info_parts infoNz
 subst hC
 have hrun:=run_make (P:=Tryz.prog) w 82 47 i (.agg #[.int .i64 0,.int .i64 0,.int .i64 0,.int .i64 0,.int .i64 0,.int .i64 0,.int .i64 0,.int .i64 0,.int .i64 0,.int .i64 0,.int .i64 0,.int .i64 0,.int .i64 0,.int .i64 0]) Tryz.underlying82 h2 h3 .i64 .i64 n n (by omega) (by omega) (by rw[h5];omega) (by omega)
 unfold Oper.wp
 simp only[Int.toNat_natCast,h4,made_ino] at hrun
 simp[execOp,hop,hl,hc,hrun,Result.andThen]
 exact hK' _ _ hK
def DecR7 (l:List Int) (w:World) (e:Ending) (w':World):Prop:=
 (hasT l/\∃ g,e=.returned (.tuple #[.slice (some ⟨g,0,none⟩) 8 8,.int .i64 0])/\w.heap.size<=g/\w'.heap[g]? =some (.cells (nC (rdT l 8)).toArray 47 (0,0))/\Below w.heap.size w w')\/
 (¬ hasT l/\e=.returned (.tuple #[.slice none 0 0,.int .i64 18])/\Below w.heap.size w w')
theorem iEnc_yes {w:World}{v:Value}{O:List (List Int)} (hs:NSl w v O) (h:allF O=true):Calls Tryz.prog 91 #[v] w fun e w'=>∃ u,e=.returned (.tuple #[u,.int .i64 0])/\OB w' w.heap.size u (encT O)/\Below w.heap.size w w':=
 (iEnc_any hs).mono fun e w' ho=>ho.elim (fun h1=>h1.2) fun h1=>by rw[h] at h1;cases h1.1
theorem iEnc_no {w:World}{v:Value}{O:List (List Int)} (hs:NSl w v O) (h:allF O=false):Calls Tryz.prog 91 #[v] w fun e w'=>e=.returned (.tuple #[.slice none 0 0,.int .i64 1])/\Below w.heap.size w w':=
 (iEnc_any hs).mono fun e w' ho=>ho.elim (fun h1=>by rw[h] at h1;cases h1.1) fun h1=>h1.2
set_option maxHeartbeats 2000000 in
theorem iDec_row {w:World}{v:Value}{l:List Int} (hs:BSl w v l) (hl:l.length=256):Calls Tryz.prog 110 #[v] w (DecR7 l w):=by
 obtain ⟨b,off,cap,rfl,hcap,hb⟩:=hs.open' (by omega)
 obtain ⟨M,hMM⟩:∃ M:Nat,M=8:=⟨_,rfl⟩
 have HMI:Hid ((8:Int)=(M:Int)):=Lib.hid (by omega)
 have hM1:M<=1000:=by omega
 have HM:=Lib.hid hMM
 have HS:=Lib.hid hs
 have HL:=Lib.hid hl
 have HMID:=Lib.hid (fun W (h:BSl W (.slice (some ⟨b,off,none⟩) l.length cap) l) lo (hm:lo+32<=l.length)=>h.mid lo 32 hm)
 rw[hl] at HS HMID hcap |-
 clear hMM hs hl
 go_enter Tryz.func110,Tryz.ntmps110
 go_wp2_with (at_make;refine wpList_make_ino _ rfl _ _ rfl _ M rfl rfl HMI.out (by omega) ?_)
 have hz:(w.alloc (.cells (nC (List.replicate M zeroI)).toArray 47)).heap[w.heap.size]? =some (.cells (nC (rdTill7 l M 0)).toArray 47 (0,0)):=by
  rw[rdTill7_zero];exact heap_alloc_new w _
 have hb2:Below w.heap.size w (w.alloc (.cells (nC (List.replicate M zeroI)).toArray 47)):=below_box _ _
 generalize w.alloc (.cells (nC (List.replicate M zeroI)).toArray 47)=w2 at hz hb2 |-
 have HZ:=Lib.hid hz
 clear hz
 go_loopw [14] (fun i wr=>∃ k:Nat,k<=M/\i=.int .i64 k/\Hid (wr.heap[w.heap.size]? =some (.cells (nC (rdTill7 l M k)).toArray 47 (0,0)))/\Below w.heap.size w wr) (fun i _=>M-(intOf i).toNat)
 case atStart=>exact ⟨0,by omega,rfl,HZ,hb2⟩
 case round=>
  obtain ⟨k,hk,rfl,HR,hbr⟩:=hrel
  clear HZ hb2
  by_cases hlt:k<M
  · have ekM:(k:Int)<(M:Int):=by omega
    have hk8:k<8:=by have:=HM.out;omega
    have hsr:=HMID.out _ (HS.out.below hbr) (32*k) (by omega)
    have hch:(l.drop (32*k)).take 32=chunk l k:=rfl
    rw[hch] at hsr
    have KR:=Lib.hid (iRead_of hsr (chunk_length HL.out k hk8))
    have hps:=rdTill7_set l M k
    have hj:rdJ l k=rd7 (chunk l k):=rfl
    rw[hj] at hps
    have hx14:=rd7_length (chunk l k)
    obtain ⟨x,hx⟩:∃ x,x=rd7 (chunk l k):=⟨_,rfl⟩
    rw[<- hx] at KR hps hx14
    have HPS:=Lib.hid hps
    have HX14:=Lib.hid hx14
    have H14:=Lib.hid (flat14 (rdTill7_14 l M k))
    have HLK:Hid (k<(rdTill7 l M k).length):=Lib.hid (by rw[rdTill7_length];exact hlt)
    have e32:32*k+32-32*k=32:=by omega
    have ee1:(k:Int)*32=((32*k:Nat):Int):=by push_cast;omega
    have ee2:((k:Int)+1)*32=((32*k+32:Nat):Int):=by push_cast;omega
    have HE32:=Lib.hid e32
    have HE1:=Lib.hid ee1
    have HE2:=Lib.hid ee2
    have hc1:32*k+32<=cap:=by omega
    have hgl:w.heap.size<wr.heap.size:=(Array.getElem?_eq_some_iff.1 HR.out).1
    clear hx hps hj hx14 hsr hch e32 ee1 ee2
    go_wp2_with (first
     |(with_reducible refine wpList_slice_lh rfl (.tmp 19) (.tmp 21) (.tmp 24) rfl b off 256 cap rfl ((k:Int)*32) (((k:Int)+1)*32) rfl rfl (32*k) (32*k+32) 32 HE32.out HE1.out HE2.out (by omega) hc1 (by omega) ?_)
     |(go_at_call 153;refine KR.out.mono ?_;rintro e w3 ⟨rfl,hb3⟩
       have hr3:w3.heap[w.heap.size]? =some (.cells ((rdTill7 l M k).flatMap iC).toArray 47 (0,0)):=(hb3.block _ hgl).trans HR.out)
     |(with_reducible refine wpList_store_flat (f:=iC) (s:=14) rfl 47 (.tmp 27) (.tmp 26) rfl infoN7 w.heap.size k (rdTill7 l M k) x 47 rfl rfl hr3 HLK.out H14.out (by rw[iC_length];exact HX14.out) (iC_one x) ?_
       intro w4 hw4 hr4
       rw[HPS.out] at hr4))
    go_roundw
    case rel=>exact ⟨k+1,by omega,by go_num,hr4,(hbr.trans (hb3.mono hbr.size)).trans (hw4.below (Nat.le_refl _))⟩
    case measure=>simp[intOf];omega
  · have hr:=HR.out
    have hkM:k=M:=by omega
    rw[hkM,rdTill7_full] at hr
    have hob:=NR.of_row (B:=w.heap.size) (rdT_14 l M) (Nat.le_refl _) hr (by rw[rdT_length];simp only[maxLen];omega)
    rw[rdT_length] at hob
    have hob2:NSl wr (.slice (some ⟨w.heap.size,0,none⟩) M M) (rdT l 8):=by
     have:=hob.sl;rw[show rdT l 8=rdT l M by rw[HM.out]];exact this
    have HOB:Hid (wr.heap[w.heap.size]? =some (.cells (nC (rdT l 8)).toArray 47 (0,0))):=Lib.hid (by rw[show rdT l 8=rdT l M by rw[HM.out]];exact hr)
    have HBR:=Lib.hid hbr
    clear hr hob
    cases hf:allF (rdT l 8)
    · have HF:=Lib.hid hf
      have KE:=Lib.hid (iEnc_no hob2 hf)
      clear hf hob2
      go_wp2_with (go_at_call 91;refine KE.out.mono ?_;rintro e w3 ⟨rfl,hb3⟩)
      go_ret2
      exact .inr ⟨(fun h=>by have h2:=h.2.1;rw[HF.out] at h2;cases h2),rfl,hbr.trans (hb3.mono hbr.size)⟩
    · have HF:=Lib.hid hf
      have KE:=Lib.hid (iEnc_yes hob2 hf)
      obtain ⟨B,hB⟩:∃ B,decide (encT (rdT l 8)=l)=B:=⟨_,rfl⟩
      have HB:=Lib.hid hB
      have KQ:=Lib.hid (fun W u (h1:BSl W u (encT (rdT l 8))) (h2:BSl W (.slice (some ⟨b,off,none⟩) 256 cap) l)=>bEqual_of h1 h2)
      rw[hB] at KQ
      clear hf hob2 hB
      cases B
      · go_wp2_with (first
         |(go_at_call 91;refine KE.out.mono ?_;rintro e w3 ⟨u3,rfl,hob3,hb3⟩
           have hb03:=hbr.trans (hb3.mono hbr.size))
         |(go_at_call 99;refine (KQ.out _ _ hob3.bsl (HS.out.below hb03)).mono ?_;rintro e w4 ⟨rfl,rfl⟩))
        go_ret2
        exact .inr ⟨(fun h=>of_decide_eq_false HB.out h.2.2),rfl,hb03⟩
      · go_wp2_with (first
         |(go_at_call 91;refine KE.out.mono ?_;rintro e w3 ⟨u3,rfl,hob3,hb3⟩
           have hb03:=hbr.trans (hb3.mono hbr.size))
         |(go_at_call 99;refine (KQ.out _ _ hob3.bsl (HS.out.below hb03)).mono ?_;rintro e w4 ⟨rfl,rfl⟩))
        go_ret2
        exact .inl ⟨⟨HL.out,HF.out,of_decide_eq_true HB.out⟩,_,(by rw[HM.out];rfl),Nat.le_refl _,(hb3.block _ (Array.getElem?_eq_some_iff.1 HOB.out).1).trans HOB.out,hb03⟩
theorem row8_sl {w:World}{g:Nat}{O:List (List Int)} (hO:Len14 O) (h8:O.length=8) (hr:w.heap[g]? =some (.cells (nC O).toArray 47 (0,0))):NSl w (.slice (some ⟨g,0,none⟩) 8 8) O:=by
 have:=(NR.of_row (B:=g) hO (Nat.le_refl _) hr (by rw[h8];simp only[maxLen];omega)).sl
 rwa [h8] at this
end Go.Proofs.YtedabomlfcghoaaGreat
namespace Go.Proofs.YtedabomlfcghoaaGreat
set_option maxRecDepth 100000
open Go.RowKit BM
def FsAt (w:World) (bf:Nat) (p:Value):Prop:=w.heap[bf]? =some (.cells #[p] 39 (0,0))
theorem FsAt.low {w w':World}{bf:Nat}{p:Value} (h:FsAt w bf p) (hb:Below w.heap.size w w'):FsAt w' bf p:=below_hold h hb
theorem FsAt.cell {w:World}{bf:Nat}{p:Value} (h:FsAt w bf p):w.cell? ⟨bf,0,none⟩=some p:=by rw[cell_of_row _ _ _ _ _ _ h];rfl
theorem FsAt.chg {w w':World}{P P':Nat->Prop}{bf:Nat}{p:Value} (h:FsAt w bf p) (hc:Chg P P' w w') (hn:¬ P bf):FsAt w' bf p/\¬ P' bf:=by
 have:=hc.keep bf (Array.getElem?_eq_some_iff.1 h).1 hn
 exact ⟨this.1.trans h,this.2⟩
theorem SInv.xok {w:World}{P:Nat->Prop}{d p:Value}{X:XSt} (h:SInv w P d p X):XOk X:=by
 obtain ⟨_,_,_,_,_,_,_,_,_,_,_,_,_,hpl,_⟩:=h
 exact hpl.ok
theorem fsBlocks_of {w:World}{bf:Nat}{p:Value} (h:FsAt w bf p):Calls Tryz.prog 92 #[.pointer (some ⟨bf,0,none⟩)] w fun e w'=>e=.returned p/\w=w':=by
 have hc:=h.cell
 clear h
 go_enter Tryz.func92,Tryz.ntmps92
 go_wp2
 go_ret
 exact ⟨rfl,rfl⟩
theorem fsBlocks_nil (w:World):Calls Tryz.prog 92 #[.pointer none] w fun e w'=>e=.returned (.pointer none)/\w=w':=by
 go_enter Tryz.func92,Tryz.ntmps92
 go_wp2
 go_ret
 exact ⟨rfl,rfl⟩
theorem sGet_cur {w:World}{P:Nat->Prop}{d p:Value}{X:XSt}{E:List Int}{n:Nat} (h:SInv w P d p X) (hn:n<X.cur.length) (ho:OutJ n) (hE:X.cur.getD n []=E) {W:World} (hb:Below w.heap.size w W):
 Calls Tryz.prog 61 #[p,.int .i64 (n:Nat)] W fun e w'=>∃ v,e=.returned (.tuple #[v,.int .i64 0])/\BSl w' v E/\Below W.heap.size W w':=
 (sGet_own (h.low hb) (n:=n) (by rw[<- h.xok.curLen];exact hn)).mono fun e w' ⟨v,l,a,b,c,f⟩=>⟨v,a,by rw[<- hE];exact (c ho) ▸ b,f⟩
theorem sDec_encT {w:World}{v:Value}{L:List Int} (hs:BSl w v (encS L)) (hL:L.length=12) (hf:frmS L=true):Calls Tryz.prog 109 #[v] w fun e w'=>e=.returned (.tuple #[supV L,.int .i64 0])/\Below w.heap.size w w':=by
 obtain ⟨h1,h2⟩:=has_enc hL hf
 refine (sDec_of hs).mono fun e w' ⟨hb,ho⟩=>⟨?_,hb⟩
 rcases ho with ⟨_,he⟩| ⟨hn,_⟩
 · rw[he,h2]
 · exact absurd h1 hn
theorem iDec_enc {w:World}{v:Value}{O:List (List Int)} (hs:BSl w v (encT O)) (hO:Len14 O) (hf:allF O=true):Calls Tryz.prog 110 #[v] w fun e w'=>∃ g,e=.returned (.tuple #[.slice (some ⟨g,0,none⟩) 8 8,.int .i64 0])/\w.heap.size<=g/\w'.heap[g]? =some (.cells (nC O).toArray 47 (0,0))/\Below w.heap.size w w':=by
 refine (iDec_row hs (encT_len O)).mono fun e w' ho=>?_
 rcases ho with ⟨_,g,he,hg,hr,hb⟩| ⟨hn,_⟩
 · rw[rdT_enc hO hf] at hr
   exact ⟨g,he,hg,hr,hb⟩
 · exact absurd (has_enc7 hO hf) hn
section
variable {w:World}{P:Nat->Prop}{d p:Value}{X:XSt}{S:List Int}{N:List (List Int)}{bf:Nat}
theorem fsSuper_of (h:SInv w P d p X) (hf:FsAt w bf p) (hT:Tab X.cur S N) {W:World} (hb:Below w.heap.size w W):
 Calls Tryz.prog 63 #[.pointer (some ⟨bf,0,none⟩)] W fun e w'=>e=.returned (.tuple #[supV S,.int .i64 0])/\Below W.heap.size W w':=by
 have hin:=tabAt_in hT.sf (t:=0) (by decide)
 have hle:=hT.le
 have hb1:=below_box W (supO zeroS 118)
 have hr1:=heap_alloc_new W (supO zeroS 118)
 obtain ⟨w1,hw1⟩:∃ w1,w1=W.alloc (supO zeroS 118):=⟨_,rfl⟩
 rw[<- hw1] at hb1 hr1
 have h1:W.alloc (.cells #[.int .i64 0,.int .i64 0,.int .i64 0,.int .i64 0,.int .i64 0,.int .i64 0,.int .i64 0,.int .i64 0,.int .i64 0,.int .i64 0,.int .i64 0,.int .i64 0] 118)=w1:=by rw[hw1];rfl
 have hb01:=hb.trans (hb1.mono hb.size)
 have H1:=Lib.hid h1
 have KB:=Lib.hid (fsBlocks_of (hf.low hb01))
 have KG:=Lib.hid (sGet_cur (n:=0) h (by omega) (.inl (by decide)) hT.g0 hb01)
 have KD:=Lib.hid (fun (W:World) (v:Value) (hs:BSl W v (encS S))=>sDec_encT hs hT.s12 hT.sf)
 have h12:=hT.s12
 have HR1:Hid (∀ V,Below w1.heap.size w1 V->V.heap[W.heap.size]? =some (supO zeroS 118)):=Lib.hid fun V hv=>below_hold hr1 hv
 clear hf hT hin hle h hb hb01 h1 hw1 hr1
 go_enter Tryz.func63,Tryz.ntmps63
 go_wp2_with (first
  |(go_at_call 92;rw[H1.out];refine KB.out.mono ?_;rintro e w' ⟨rfl,rfl⟩)
  |(go_at_call 61;refine KG.out.mono ?_;rintro e w2 ⟨v,rfl,hv,hb2⟩)
  |(go_at_call 109;refine (KD.out _ _ hv).mono ?_;rintro e w3 ⟨rfl,hb3⟩)
  |(with_reducible refine wpList_storeS rfl (.tmp 6) (.tmp 20) rfl w3.heap.size rfl S zeroS rfl h12 rfl _ (heap_alloc_new w3 _) ?_
    intro w5 hw5 hr5
    have hb5:Below w3.heap.size w3 w5:=(below_box w3 _).trans (hw5.below (Nat.le_refl _))
    have hb15:=(hb2.trans (hb3.mono hb2.size)).trans (hb5.mono (Nat.le_trans hb2.size hb3.size))
    have hr6:=HR1.out _ hb15)
  |(with_reducible refine wpList_loadS rfl (.tmp 6) rfl w3.heap.size rfl S h12 _ hr5 ?_)
  |(with_reducible refine wpList_storeS rfl (.tmp 2) (.tmp 25) rfl W.heap.size rfl S zeroS rfl h12 rfl _ hr6 ?_;intro w7 hw7 hr7))
 exact bodyPost_ret (ret_sup2 rfl _ _ W.heap.size _ _ _ h12 rfl hr7 rfl) rfl ⟨rfl,(hb1.trans (hb15.mono hb1.size)).trans (hw7.below (Nat.le_refl _))⟩
theorem fsInodes_of (h:SInv w P d p X) (hf:FsAt w bf p) (hT:Tab X.cur S N) {t:Nat} (ht:t<6) {W:World} (hb:Below w.heap.size w W):
 Calls Tryz.prog 64 #[.pointer (some ⟨bf,0,none⟩),.int .i64 (tabAt S t:Nat)] W fun e w'=>∃ g,e=.returned (.tuple #[.slice (some ⟨g,0,none⟩) 8 8,.int .i64 0])/\W.heap.size<=g/\w'.heap[g]? =some (.cells (nC (inT N t)).toArray 47 (0,0))/\Below W.heap.size W w':=by
 have hin:=tabAt_in hT.sf ht
 have hle:=hT.le
 obtain ⟨h14,hal⟩:=hT.n.all ht
 obtain ⟨T,hTT⟩:∃ T,T=inT N t:=⟨_,rfl⟩
 obtain ⟨k,hk⟩:∃ k,k=tabAt S t:=⟨_,rfl⟩
 have hg:=hT.tb t ht
 rw[<- hTT] at h14 hal hg |-
 rw[<- hk] at hin hg |-
 have KB:=Lib.hid (fsBlocks_of (hf.low hb))
 have KG:=Lib.hid (sGet_cur (n:=k) h (by omega) hin.2.2.2.2.1 hg hb)
 have KD:=Lib.hid (fun (W:World) (v:Value) (hs:BSl W v (encT T))=>iDec_enc hs h14 hal)
 clear hf hT hin hle h hb hg hTT h14 hal hk
 go_enter Tryz.func64,Tryz.ntmps64
 go_wp2_with (first
  |(go_at_call 92;refine KB.out.mono ?_;rintro e w' ⟨rfl,rfl⟩)
  |(go_at_call 61;refine KG.out.mono ?_;rintro e w1 ⟨v,rfl,hv,hb1⟩)
  |(go_at_call 110;refine (KD.out _ _ hv).mono ?_;rintro e w2 ⟨g,rfl,hg1,hr,hb2⟩))
 go_ret2
 exact ⟨g,rfl,Nat.le_trans hb1.size hg1,hr,hb1.trans (hb2.mono hb1.size)⟩
end
theorem sizeFo:(Tryz.prog.info? 84).map (·.size)=some 3:=by kernel_rfl
theorem sizeIn:(Tryz.prog.info? 47).map (·.size)=some 14:=by kernel_rfl
theorem ret_ino2 {fn:Func}{p u:Tmp} (h:fn.results=#[.cell p 47,.tmp u]) (tmps:Array Value) (w:World) (g:Nat) (T:TypeId) (L:List Int) (x:Value) (hL:L.length=14) (hp:tmps.getD p undef=.pointer (some ⟨g,0,none⟩)) (hg:w.heap[g]? =some (iO L T)) (hx:tmps.getD u undef=x):
 (results fn tmps).run Tryz.prog w=.ok (.tuple #[.agg (iC L).toArray,x]) w:=by
 rw[results_cell_tmp h,hp,hx]
 simp only[asAddr,Sem.run_pure,Result.andThen_ok]
 rw[run_loadVar_row w g T 47 _ (0,0) _ hg Tryz.underlying47 rfl (by rw[sizeIn];simp[iC,hL])]
 rfl
theorem wpList_storeI {ops:Array Oper}{rest:List Oper}{o:Oper}{a:Act}{w:World}{Q:Exit->Act->World->Prop} (hgd:o.guard=none) (x y:Operand) (ho:o.op=.store 47 x y)
 (g:Nat) (hx:a.eval x=.pointer (some ⟨g,0,none⟩)) (L M:List Int) (hy:a.eval y=.agg (iC L).toArray) (hL:L.length=14) (hM:M.length=14) (T:TypeId) (hg:w.heap[g]? =some (iO M T))
 (h:∀ w',Wrote w w' g->w'.heap[g]? =some (iO L T)->wpList Tryz.prog ops Q rest (a.put o.dst undef) w'):wpList Tryz.prog ops Q (o :: rest) a w:=
 wpList_store_row hgd 47 x y ho g _ hx hy T _ hg (by rw[sizeIn];simp[iC,hL]) (by simp[iC,hL,hM]) (ints_one L) (h _ (Wrote.setRow _ _ _) (setRow_heap _ _ _ _ _ _ hg))
section
variable {w:World}{P:Nat->Prop}{d p:Value}{X:XSt}{S:List Int}{N:List (List Int)}{bf:Nat}
theorem fsFind_no {n:Int} (hn:n<1\/47<n) (f:Value) (W:World):Calls Tryz.prog 36 #[f,.int .i64 n] W fun e w'=>e=.returned (.tuple #[.agg #[.int .i64 0,.slice none 0 0,.int .i64 0],.int .i64 1])/\Below W.heap.size W w':=by
 have hb1:=below_box W (.cells #[.int .i64 0,.slice none 0 0,.int .i64 0] 84)
 have hr1:=heap_alloc_new W (.cells #[.int .i64 0,.slice none 0 0,.int .i64 0] 84)
 obtain ⟨w1,hw1⟩:∃ w1,w1=W.alloc (.cells #[.int .i64 0,.slice none 0 0,.int .i64 0] 84):=⟨_,rfl⟩
 rw[<- hw1] at hb1 hr1
 have H1:=Lib.hid hw1.symm
 have HR1:=Lib.hid hr1
 have KP:=Lib.hid (iPlace_no n hn)
 clear hn hw1 hr1
 go_enter Tryz.func36,Tryz.ntmps36
 go_upto_region 2 with (go_at_call 62;rw[H1.out];refine (KP.out _).mono ?_;rintro e w' ⟨rfl,rfl⟩)
 have hr2:=HR1.out
 go_wp2_with (with_reducible refine wpList_store_t3 rfl 84 sizeFo (.tmp 4) (.tmp 18) rfl W.heap.size rfl _ _ _ _ _ _ rfl rfl rfl rfl _ hr2 ?_;intro w9 hw9 hr9)
 refine bodyPost_ret (ret_cell_t3 rfl Tryz.underlying84 sizeFo _ _ W.heap.size _ _ _ _ _ rfl hr9 rfl) rfl ⟨rfl,hb1.trans (hw9.below (Nat.le_refl _))⟩
theorem fsFind_yes (h:SInv w P d p X) (hf:FsAt w bf p) (hT:Tab X.cur S N) {n:Nat} (h0:1<=n) (h48:n<48) {W:World} (hb:Below w.heap.size w W):
 Calls Tryz.prog 36 #[.pointer (some ⟨bf,0,none⟩),.int .i64 n] W fun e w'=>∃ g,e=.returned (.tuple #[.agg #[.int .i64 (tabAt S (n / 8):Nat),.slice (some ⟨g,0,none⟩) 8 8,.int .i64 (n%8:Nat)],.int .i64 0])/\W.heap.size<=g/\
  w'.heap[g]? =some (.cells (nC (inT N (n / 8))).toArray 47 (0,0))/\Below W.heap.size W w':=by
 have ht:n / 8<6:=by omega
 have hj:n%8<8:=by omega
 have e1:(n:Int) / 8=((n / 8:Nat):Int):=by omega
 have e2:(n:Int)%8=((n%8:Nat):Int):=by omega
 have KP:=Lib.hid (iPlace_yes (n:Int) (by omega) (by omega))
 rw[e1,e2] at KP
 clear e1 e2
 obtain ⟨t,htt⟩:∃ t,t=n / 8:=⟨_,rfl⟩
 obtain ⟨j,hjj⟩:∃ j,j=n%8:=⟨_,rfl⟩
 rw[<- htt] at KP ht |-
 rw[<- hjj] at KP hj |-
 clear htt hjj h0 h48
 have hb1:=below_box W (.cells #[.int .i64 0,.slice none 0 0,.int .i64 0] 84)
 have hr1:=heap_alloc_new W (.cells #[.int .i64 0,.slice none 0 0,.int .i64 0] 84)
 obtain ⟨w1,hw1⟩:∃ w1,w1=W.alloc (.cells #[.int .i64 0,.slice none 0 0,.int .i64 0] 84):=⟨_,rfl⟩
 rw[<- hw1] at hb1 hr1
 have H1:=Lib.hid hw1.symm
 have hb01:=hb.trans (hb1.mono hb.size)
 have HR1:Hid (∀ V,Below w1.heap.size w1 V->V.heap[W.heap.size]? =some (.cells #[.int .i64 0,.slice none 0 0,.int .i64 0] 84 (0,0))):=Lib.hid fun V hv=>below_hold hr1 hv
 have KS:=Lib.hid (fsSuper_of h hf hT hb01)
 have HBW:=Lib.hid hb01
 have KI:=Lib.hid (fun (V:World) (hv:Below w.heap.size w V)=>fsInodes_of h hf hT ht hv)
 have h12:=hT.s12
 have hin:=(tabAt_in hT.sf ht).1
 obtain ⟨A,hA⟩:∃ A,A=tabAt S t:=⟨_,rfl⟩
 obtain ⟨T,hTT⟩:∃ T,T=inT N t:=⟨_,rfl⟩
 rw[<- hA] at KI hin |-
 rw[<- hTT] at KI |-
 have et:(t:Int)<6:=by omega
 have et0:¬ (t:Int)<0:=by omega
 have HSC:Hid (∀ (V V':World),V.heap.size<V'.heap.size->V'.heap[V.heap.size]? =some (supO S 118)->V'.cell? ⟨V.heap.size,6+t,none⟩=some (.int .i64 A)):=Lib.hid fun V V' _ hr=>by
  rw[sup_cell hr (6+t) (by omega),hin]
 clear h hf hT hb hb01 hw1 hr1 hA hTT hin ht
 go_enter Tryz.func36,Tryz.ntmps36
 go_wp2_with (first
  |(go_at_call 62;rw[H1.out];refine (KP.out _).mono ?_;rintro e w' ⟨rfl,rfl⟩)
  |(go_at_call 63;refine KS.out.mono ?_;rintro e w2 ⟨rfl,hb2⟩)
  |(with_reducible refine wpList_storeS rfl (.tmp 8) (.tmp 22) rfl w2.heap.size rfl S zeroS rfl h12 rfl _ (heap_alloc_new w2 _) ?_
    intro w3 hw3 hr3
    have hb3:Below w2.heap.size w2 w3:=(below_box w2 _).trans (hw3.below (Nat.le_refl _))
    have hl3:=(Array.getElem?_eq_some_iff.1 hr3).1
    have hb13:=hb2.trans (hb3.mono hb2.size)
    have c3:=HSC.out _ _ hl3 hr3)
  |(go_at_call 64;refine (KI.out _ (HBW.out.trans (hb13.mono HBW.out.size))).mono ?_;rintro e w4 ⟨g,rfl,hg4,hr4,hb4⟩
    have hb14:=hb13.trans (hb4.mono hb13.size)
    have hr6:=HR1.out _ hb14
    have c4:=HSC.out _ _ (Nat.lt_of_lt_of_le hl3 hb4.size) ((hb4.block _ hl3).trans hr3))
  |(with_reducible refine wpList_store_t3 rfl 84 sizeFo (.tmp 4) (.tmp 47) rfl W.heap.size rfl _ _ _ _ _ _ rfl rfl rfl rfl _ hr6 ?_;intro w9 hw9 hr9))
 have hne:g≠W.heap.size:=by
  have:=hb1.size
  have:=hb13.size
  have:=(Array.getElem?_eq_some_iff.1 (HR1.out w1 (Below.refl _ _))).1
  omega
 refine bodyPost_ret (ret_cell_t3 rfl Tryz.underlying84 sizeFo _ _ W.heap.size _ _ _ _ _ rfl hr9 rfl) rfl ⟨g,rfl,?_,(hw9.2.2.2.2 g hne).trans hr4,(hb1.trans (hb14.mono hb1.size)).trans (hw9.below (Nat.le_refl _))⟩
 have:=hb1.size
 have:=hb13.size
 omega
theorem fsGet_no {n:Int} (hn:n<1\/47<n) (f:Value) (W:World):Calls Tryz.prog 17 #[f,.int .i64 n] W fun e w'=>e=.returned (.tuple #[.agg (iC zeroI).toArray,.int .i64 1])/\Below W.heap.size W w':=by
 have hb1:=below_box W (iO zeroI 47)
 have hr1:=heap_alloc_new W (iO zeroI 47)
 obtain ⟨w1,hw1⟩:∃ w1,w1=W.alloc (iO zeroI 47):=⟨_,rfl⟩
 rw[<- hw1] at hb1 hr1
 have h1:W.alloc (.cells #[.int .i64 0,.int .i64 0,.int .i64 0,.int .i64 0,.int .i64 0,.int .i64 0,.int .i64 0,.int .i64 0,.int .i64 0,.int .i64 0,.int .i64 0,.int .i64 0,.int .i64 0,.int .i64 0] 47)=w1:=by rw[hw1];rfl
 have H1:=Lib.hid h1
 have HR1:Hid (∀ V,Below w1.heap.size w1 V->V.heap[W.heap.size]? =some (iO zeroI 47)):=Lib.hid fun V hv=>below_hold hr1 hv
 have KF:=Lib.hid (fsFind_no hn f)
 clear hn h1 hw1 hr1
 go_enter Tryz.func17,Tryz.ntmps17
 go_wp2_with (first
  |(go_at_call 36;rw[H1.out];refine (KF.out _).mono ?_;rintro e w2 ⟨rfl,hb2⟩
    have hb3:=hb2.trans ((below_box w2 (.cells #[.int .i64 0,.slice none 0 0,.int .i64 0] 84)).mono hb2.size)
    have hr3:=HR1.out _ hb3)
  |(with_reducible refine wpList_storeI rfl (.tmp 4) (.tmp 16) rfl W.heap.size rfl zeroI zeroI rfl rfl rfl _ hr3 ?_;intro w9 hw9 hr9))
 refine bodyPost_ret (ret_ino2 rfl _ _ W.heap.size _ _ _ rfl rfl hr9 rfl) rfl ⟨rfl,(hb1.trans (hb3.mono hb1.size)).trans (hw9.below (Nat.le_refl _))⟩
theorem fsGet_yes (h:SInv w P d p X) (hf:FsAt w bf p) (hT:Tab X.cur S N) {n:Nat} (h0:1<=n) (h48:n<48) {W:World} (hb:Below w.heap.size w W):
 Calls Tryz.prog 17 #[.pointer (some ⟨bf,0,none⟩),.int .i64 n] W fun e w'=>e=.returned (.tuple #[.agg (iC (N.getD n [])).toArray,.int .i64 0])/\Below W.heap.size W w':=by
 have ht:n / 8<6:=by omega
 have hj:n%8<8:=by omega
 have hb1:=below_box W (iO zeroI 47)
 have hr1:=heap_alloc_new W (iO zeroI 47)
 obtain ⟨w1,hw1⟩:∃ w1,w1=W.alloc (iO zeroI 47):=⟨_,rfl⟩
 rw[<- hw1] at hb1 hr1
 have h1:W.alloc (.cells #[.int .i64 0,.int .i64 0,.int .i64 0,.int .i64 0,.int .i64 0,.int .i64 0,.int .i64 0,.int .i64 0,.int .i64 0,.int .i64 0,.int .i64 0,.int .i64 0,.int .i64 0,.int .i64 0] 47)=w1:=by rw[hw1];rfl
 have hb01:=hb.trans (hb1.mono hb.size)
 have H1:=Lib.hid h1
 have HR1:Hid (∀ V,Below w1.heap.size w1 V->V.heap[W.heap.size]? =some (iO zeroI 47)):=Lib.hid fun V hv=>below_hold hr1 hv
 have KF:=Lib.hid (fsFind_yes h hf hT h0 h48 hb01)
 obtain ⟨A,hA⟩:∃ A,A=tabAt S (n / 8):=⟨_,rfl⟩
 obtain ⟨T,hTT⟩:∃ T,T=inT N (n / 8):=⟨_,rfl⟩
 have hx:(inT N (n / 8)).getD (n%8) []=N.getD n []:=by rw[inT_getD N _ hj];congr 1;omega
 have hx14:=hT.n.get h48
 have h14:=inT_14 hT.n.l14 (n / 8)
 have hl8:=inT_length hT.n.len ht
 rw[<- hA,<- hTT] at KF
 rw[<- hTT] at hx h14 hl8
 obtain ⟨x,hxx⟩:∃ x,x=N.getD n []:=⟨_,rfl⟩
 rw[<- hxx] at hx hx14 |-
 obtain ⟨j,hjj⟩:∃ j,j=n%8:=⟨_,rfl⟩
 rw[<- hjj] at KF hj hx
 have HRG:Hid (∀ (V:World) (g:Nat),V.heap[g]? =some (.cells (nC T).toArray 47 (0,0))->V.rangeAt g (j*14) (iC x)):=Lib.hid fun V g hr=>by
  have:=flat_range (f:=iC) (s:=14) (k:=j) hr (fun y hy=>by rw[iC_length];exact h14 y hy) (by omega)
  rw[<- hx,List.getD_eq_getElem?_getD,List.getElem?_eq_getElem (by omega)]
  exact this
 have HX14:=Lib.hid hx14
 have ej:(j:Int)<8:=by omega
 have u1:=Tryz.underlying47
 clear h hf hT hb hb01 h1 hw1 hr1 hA hTT hx h14 hl8 hxx hjj ht hx14
 go_enter Tryz.func17,Tryz.ntmps17
 go_wp2_with (first
  |(go_at_call 36;rw[H1.out];refine KF.out.mono ?_;rintro e w2 ⟨g,rfl,hg2,hr2,hb2⟩
    have hb23:=below_box w2 (.cells #[.int .i64 A,.slice (some ⟨g,0,none⟩) 8 8,.int .i64 j] 84)
    have hb3:=hb2.trans (hb23.mono hb2.size)
    have hr3:=HR1.out _ hb3
    have hrg:=HRG.out _ g (below_hold hr2 hb23))
  |(with_reducible refine wpList_load_nums rfl 47 (.tmp 22) rfl g (j*14) rfl x _ hrg u1 rfl (by rw[sizeIn,HX14.out]) ?_)
  |(with_reducible refine wpList_storeI rfl (.tmp 4) (.tmp 23) rfl W.heap.size rfl x zeroI rfl HX14.out rfl _ hr3 ?_;intro w9 hw9 hr9))
 refine bodyPost_ret (ret_ino2 rfl _ _ W.heap.size _ _ _ HX14.out rfl hr9 rfl) rfl ⟨rfl,(hb1.trans (hb3.mono hb1.size)).trans (hw9.below (Nat.le_refl _))⟩
end
end Go.Proofs.YtedabomlfcghoaaGreat
