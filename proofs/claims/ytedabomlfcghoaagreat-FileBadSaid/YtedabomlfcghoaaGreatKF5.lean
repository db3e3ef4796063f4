/- What the law rests on: part 5. -/
import Derived.Deep.RegionHeldLaw
import Derived.Great.BuildSlice
import Derived.Test.YtedabomlfcghoaaGreatKF4
set_option linter.unusedVariables false
namespace Go.Proofs.YtedabomlfcghoaaGreat
set_option maxRecDepth 100000
open Go.RowKit
structure DskAt (w:World) (B bp bf bv:Nat) (u:Value) (F V:List (List Int)) (U:List (Nat × List Int)) (fu:Bool) (le:Int) (dn:Bool):Prop where
 bB:B<=bp/\B<=bf/\B<=bv
 ne:bp≠bf/\bp≠bv/\bf≠bv
 hp:w.heap[bp]? =some (.cells #[.slice (some ⟨bf,0,none⟩) F.length F.length,.slice (some ⟨bv,0,none⟩) V.length V.length,u,.bool fu,.int .i64 le,.bool dn] 131 (0,0))
 hf:w.heap[bf]? =some (.cells (F.flatMap cB).toArray 151 (0,0))
 hv:w.heap[bv]? =some (.cells (V.flatMap cB).toArray 151 (0,0))
 hu:w.ownsRow B 155 257 u U.length (U.flatMap cU)
 une:u.ownBlock≠some bp/\u.ownBlock≠some bf/\u.ownBlock≠some bv
 okF:∀ b∈F,Blk b
 okV:∀ b∈V,Blk b
 okU:∀ x∈U,x.1<V.length/\Blk x.2
 len:F.length=V.length
 max:V.length<=2000
def Dsk (w:World) (B:Nat) (p:Value) (F V:List (List Int)) (U:List (Nat × List Int)):Prop:=
 ∃ bp bf bv u,p=.pointer (some ⟨bp,0,none⟩)/\DskAt w B bp bf bv u F V U false 0 false
theorem DskAt.below {w w':World}{B bp bf bv:Nat}{u:Value}{F V:List (List Int)}{U:List (Nat × List Int)}{fu dn:Bool}{le:Int} (h:DskAt w B bp bf bv u F V U fu le dn) (hb:Below w.heap.size w w'):DskAt w' B bp bf bv u F V U fu le dn:=by
 have key:∀ {g:Nat} {o:Obj},w.heap[g]? =some o->w'.heap[g]? =some o:=fun hg=>by
  rw[hb.block _ (Array.getElem?_eq_some_iff.1 hg).1];exact hg
 refine { h with hp:=key h.hp,hf:=key h.hf,hv:=key h.hv,hu:=⟨h.hu.1,?_⟩ }
 rcases h.hu.2 with h| ⟨g,cap,cur,hv,hg,hh,r⟩
 · exact .inl h
 · exact .inr ⟨g,cap,cur,hv,hg,key hh,r⟩
section
variable {w:World}{B bp bf bv:Nat}{u:Value}{F V:List (List Int)}{U:List (Nat × List Int)}{fu dn:Bool}{le:Int}
theorem DskAt.c0 (h:DskAt w B bp bf bv u F V U fu le dn):w.cell? ⟨bp,0,none⟩=some (.slice (some ⟨bf,0,none⟩) F.length F.length):=by rw[cell_of_row _ _ _ _ _ _ h.hp];rfl
theorem DskAt.c1 (h:DskAt w B bp bf bv u F V U fu le dn):w.cell? ⟨bp,1,none⟩=some (.slice (some ⟨bv,0,none⟩) V.length V.length):=by rw[cell_of_row _ _ _ _ _ _ h.hp];rfl
theorem DskAt.c2 (h:DskAt w B bp bf bv u F V U fu le dn):w.cell? ⟨bp,2,none⟩=some u:=by rw[cell_of_row _ _ _ _ _ _ h.hp];rfl
theorem DskAt.c3 (h:DskAt w B bp bf bv u F V U fu le dn):w.cell? ⟨bp,3,none⟩=some (.bool fu):=by rw[cell_of_row _ _ _ _ _ _ h.hp];rfl
theorem DskAt.c4 (h:DskAt w B bp bf bv u F V U fu le dn):w.cell? ⟨bp,4,none⟩=some (.int .i64 le):=by rw[cell_of_row _ _ _ _ _ _ h.hp];rfl
theorem DskAt.c5 (h:DskAt w B bp bf bv u F V U fu le dn):w.cell? ⟨bp,5,none⟩=some (.bool dn):=by rw[cell_of_row _ _ _ _ _ _ h.hp];rfl
theorem DskAt.fr (h:DskAt w B bp bf bv u F V U fu le dn) (i:Nat):w.frozen? ⟨bp,i,none⟩=false:=by simp[World.frozen?,h.hp]
theorem DskAt.shapeU (h:DskAt w B bp bf bv u F V U fu le dn):∃ ao cap,u=.slice ao U.length cap:=by
 rcases h.hu.2 with ⟨hv,h0⟩| ⟨g,cap,cur,hv,_⟩
 · exact ⟨none,0,by rw[hv,h0]⟩
 · exact ⟨_,cap,hv⟩
end
theorem dHas_at {w:World}{B bp bf bv:Nat}{u:Value}{F V:List (List Int)}{U:List (Nat × List Int)}{fu dn:Bool}{le:Int} (h:DskAt w B bp bf bv u F V U fu le dn) (n:Int):
 Calls Tryz.prog 133 #[.pointer (some ⟨bp,0,none⟩),.int .i64 n] w fun e w'=>e=.returned (.bool (decide (0<=n/\n<V.length)))/\w=w':=by
 have c1:=h.c1
 by_cases h0:0<=n
 · go_enter Tryz.func133,Tryz.ntmps133
   go_wp2
   go_ret
   refine ⟨?_,rfl⟩
   simp[h0]
 · go_enter Tryz.func133,Tryz.ntmps133
   go_wp2
   go_ret
   refine ⟨?_,rfl⟩
   rw[decide_eq_false (by omega)];rfl
theorem dFits_at {w:World}{B bp bf bv:Nat}{u:Value}{F V:List (List Int)}{U:List (Nat × List Int)}{fu dn:Bool}{le:Int} (h:DskAt w B bp bf bv u F V U fu le dn) (n:Int) {v:Value}{l:List Int} (hv:BSl w v l):
 Calls Tryz.prog 85 #[.pointer (some ⟨bp,0,none⟩),.int .i64 n,v] w fun e w'=>e=.returned (.bool (decide ((0<=n/\n<V.length)/\l.length=256)))/\w=w':=by
 obtain ⟨ao,cap,rfl,_⟩:=hv.shape
 by_cases hn:0<=n/\n<V.length
 · go_enter Tryz.func85,Tryz.ntmps85
   go_wp2_with (go_at_call 133;refine (dHas_at h n).mono ?_;rintro e w' ⟨rfl,rfl⟩;rw[decide_eq_true hn])
   go_ret
   refine ⟨?_,rfl⟩
   by_cases hl:l.length=256
   · rw[decide_eq_true ⟨hn,hl⟩];simp[hl]
   · rw[decide_eq_false (fun h=>hl h.2)];simp;omega
 · go_enter Tryz.func85,Tryz.ntmps85
   go_wp2_with (go_at_call 133;refine (dHas_at h n).mono ?_;rintro e w' ⟨rfl,rfl⟩;rw[decide_eq_false hn])
   go_ret
   exact ⟨by rw[decide_eq_false (fun h=>hn h.1)];rfl,rfl⟩
def zb:List Int:=List.replicate 256 0
theorem zb_length:zb.length=256:=List.length_replicate
theorem zb_blk:Blk zb:=⟨zb_length,byt_replicate 256⟩
theorem cB_zb:cB zb=List.replicate 256 (.int .u8 0):=List.map_replicate
theorem zRow_eq (n:Nat):(List.replicate n zb).flatMap cB=List.replicate (n*256) (Value.int .u8 0):=by
 refine List.eq_replicate_iff.2 ⟨?_,fun v hv=>?_⟩
 · rw[flat_length (s:=256) (fun x hx=>by rw[List.eq_of_mem_replicate hx,cB_length,zb_length]),List.length_replicate]
 · obtain ⟨b,hb,hv⟩:=List.mem_flatMap.1 hv
   rw[List.eq_of_mem_replicate hb,cB_zb] at hv
   exact List.eq_of_mem_replicate hv
theorem made_zero (n:Nat):madeCells zB.toArray n=(List.replicate n (Value.int .u8 0)).toArray:=by
 apply Array.ext
 · simp[madeCells]
 · intro i h1 h2
   have hs:zB.toArray.size=256:=by rw[List.size_toArray,zB_length]
   have hlt:i%zB.toArray.size<zB.toArray.size:=Nat.mod_lt _ (by rw[hs];decide)
   simp only[madeCells,Array.getElem_map,Array.getElem_range,List.getElem_toArray,List.getElem_replicate]
   rw[getElem!_pos zB.toArray _ hlt,List.getElem_toArray]
   exact List.eq_of_mem_replicate (List.getElem_mem _)
def zRow (n:Nat):Array Value:=((List.replicate n zb).flatMap cB).toArray
theorem make_blocks (W:World) (n:Nat) (hn:n<=2000):(Instr.makeSlice 128 (.int .i64 n) (.int .i64 n)).run Tryz.prog W=.ok (.slice (some ⟨W.heap.size,0,none⟩) n n) (W.alloc (.cells (zRow n) 151)):=by
 obtain ⟨i,h2,h3,h4,h5⟩:=info_parts infoB
 have hrun:=run_make (P:=Tryz.prog) W 128 151 i (.agg zB.toArray) Tryz.underlying128 h2 h3 .i64 .i64 n n (by omega) (by omega) (by rw[h5];omega) (by omega)
 simp only[Int.toNat_natCast,h4] at hrun
 rw[hrun,show (Value.agg zB.toArray).cells=zB.toArray from rfl,made_zero,zRow,zRow_eq]
theorem newDsk (w:World) (n:Nat) (hn:n<=2000) (bf bv:Nat) (hb:(bf=w.heap.size/\bv=w.heap.size+1)\/(bf=w.heap.size+1/\bv=w.heap.size)):
 Dsk (((w.alloc (.cells (zRow n) 151)).alloc (.cells (zRow n) 151)).alloc (.cells #[.slice (some ⟨bf,0,none⟩) n n,.slice (some ⟨bv,0,none⟩) n n,.slice none 0 0,.bool false,.int .i64 0,.bool false] 131)).drew
  w.heap.size (.pointer (some ⟨w.heap.size+1+1,0,none⟩)) (List.replicate n zb) (List.replicate n zb) []:=by
 have s1:(w.alloc (.cells (zRow n) 151)).heap.size=w.heap.size+1:=by simp
 have s2:((w.alloc (.cells (zRow n) 151)).alloc (.cells (zRow n) 151)).heap.size=w.heap.size+1+1:=by simp
 have row:∀ (o:Obj) g,g=w.heap.size\/g=w.heap.size+1->(((w.alloc (.cells (zRow n) 151)).alloc (.cells (zRow n) 151)).alloc o).heap[g]? =some (.cells (zRow n) 151 (0,0)):=by
  rintro o g (rfl|rfl)
  · rw[@heap_alloc_old _ _ _ (by rw[s2];omega),@heap_alloc_old _ _ _ (by rw[s1];omega)];exact heap_alloc_last _ _
  · rw[@heap_alloc_old _ _ _ (by rw[s2];omega),<- s1];exact heap_alloc_last _ _
 have hlen:(List.replicate n zb).length=n:=List.length_replicate
 refine ⟨w.heap.size+1+1,bf,bv,.slice none 0 0,rfl,?_⟩
 refine ⟨by omega,by omega,?_,row _ bf (by omega),row _ bv (by omega),⟨rfl,.inl ⟨rfl,rfl⟩⟩,⟨by simp[Value.ownBlock],by simp[Value.ownBlock],by simp[Value.ownBlock]⟩,
  fun b hb=>by rw[List.eq_of_mem_replicate hb];exact zb_blk,fun b hb=>by rw[List.eq_of_mem_replicate hb];exact zb_blk,fun x hx=>by simp at hx,rfl,by rw[hlen];exact hn⟩
 rw[hlen,<- s2]
 exact heap_alloc_last _ _
theorem dNew_at (w:World) (n:Nat) (hn:n<=2000):
 Calls Tryz.prog 43 #[.int .i64 n] w fun e w'=>∃ p,e=.returned p/\p≠.pointer none/\Dsk w' w.heap.size p (List.replicate n zb) (List.replicate n zb) []/\Below w.heap.size w w':=by
 have hmk:=fun W=>make_blocks W n hn
 have e1:Max.max (n:Int) 0=n:=by omega
 have e2:Min.min (n:Int) 2000=n:=by omega
 have e3:((n:Int)<0)=False:=by simp
 go_enter Tryz.func43,Tryz.ntmps43
 go_wp2_with fail
 go_region
 · go_wp2
   go_ret
   exact ⟨_,rfl,by simp,newDsk w n hn _ _ (by omega),below_drewN' ((((Below.refl _ _).alloc (Nat.le_refl _) _).alloc (by simp) _).alloc (by simp;omega) _) 1⟩
 · go_wp2
   go_ret
   exact ⟨_,rfl,by simp,newDsk w n hn _ _ (by omega),below_drewN' ((((Below.refl _ _).alloc (Nat.le_refl _) _).alloc (by simp) _).alloc (by simp;omega) _) 1⟩
theorem foldl_set:∀ (l:List Value) (k off:Nat) (cells:List Value),off+k+l.length<=cells.length->
 (l.zipIdx k).foldl (fun (cs:Array Value) (x:Value × Nat)=>cs.setIfInBounds (off+x.2) x.1) cells.toArray=(splice cells (off+k) l).toArray
 |[],k,off,cells,_=>by simp[splice]
 |v :: l,k,off,cells,h=>by
  have hl:off+k+(l.length+1)<=cells.length:=by simpa using h
  rw[List.zipIdx_cons,List.foldl_cons,show cells.toArray.setIfInBounds (off+k) v=(cells.set (off+k) v).toArray by simp,
   foldl_set l (k+1) off _ (by rw[List.length_set];omega)]
  have e:=list_seg_step cells (off+k) v l (by omega)
  simp only[splice,<- Nat.add_assoc]
  simpa [Nat.add_assoc] using congrArg List.toArray e
theorem fill_cons (place:Nat->Option (Nat × Nat)) (cells:List Value) (i off size:Nat) (v:Value) (vs:List Value) (rest:List (Nat × Value)) (hp:place i=some (off,size)) (hv:v.cells=vs.toArray) (hs:vs.length=size) (hl:off+size<=cells.length):
 Instr.fill place cells.toArray ((i,v) :: rest)=Instr.fill place (splice cells off vs).toArray rest:=by
 have hf:=foldl_set vs 0 off cells (by omega)
 rw[Nat.add_zero] at hf
 rw[Instr.fill,hp]
 have c1:¬ (vs.toArray.size≠size\/off+vs.toArray.size > cells.toArray.size):=by simp;omega
 simp only[hv]
 rw[if_neg (by simpa using c1)]
 congr 1
 rw[<- hf]
 simp
theorem build_write (W:World) (n:Int) (b:List Int) (hb:b.length=256):(Instr.build 155 #[(0,.int .i64 n),(1,.agg (cB b).toArray)]).run Tryz.prog W=.ok (.agg (.int .i64 n :: cB b).toArray) W:=by
 refine run_build W 155 _ _ ?_
 have hz:=zB_length
 have hcb:=cB_length b
 obtain ⟨it,h2,h3,h4,h5⟩:=info_parts infoW
 have hu:Tryz.prog.underlying 155=_:=Tryz.underlying155
 unfold Program.built
 rw[h2,hu]
 simp only[h3]
 generalize hm:(List.mapM (m:=Option) _ _:Option (List (Nat × Nat)))=m
 have hm':m=some [(0,1),(1,256)]:=by rw[<- hm];kernel_rfl
 subst hm'
 clear hm
 show Instr.fill _ (Value.int .i64 0 :: zB).toArray _=_
 rw[fill_cons _ _ 0 0 1 (.int .i64 n) [.int .i64 n] _ rfl rfl rfl (by rw[List.length_cons];omega),
  show splice (Value.int .i64 0 :: zB) 0 [.int .i64 n]=.int .i64 n :: zB from rfl,
  fill_cons _ _ 1 1 256 (.agg (cB b).toArray) (cB b) _ rfl rfl (by rw[hcb,hb]) (by rw[List.length_cons];omega),
  show splice (Value.int .i64 n :: zB) 1 (cB b)=.int .i64 n :: splice zB 0 (cB b) by simp only[splice];rw[Nat.add_comm 1];simp,splice_whole _ _ (by rw[hcb,hb,hz])]
 rfl
theorem slice_write (W:World) (cs:List Value) (hc:cs.length=257):(Instr.buildSlice 129 1 #[(0,.agg cs.toArray)]).run Tryz.prog W=.ok (.slice (some ⟨W.heap.size,0,none⟩) 1 1) (W.alloc (.cells cs.toArray 155)):=by
 have hz:=zB_length
 obtain ⟨i,h2,h3,h4,h5⟩:=info_parts infoW
 refine run_buildSlice W 129 155 1 _ cs.toArray i (.agg (Value.int .i64 0 :: zB).toArray) Tryz.underlying129 h2 h3 (by rw[h4];decide) (by rw[h4];decide) ?_
 rw[h4]
 generalize hA:Array.map _ _=A
 have hs:A.toList.length=257:=by rw[<- hA];simp
 obtain ⟨L,rfl⟩:∃ L:List Value,A=L.toArray:=⟨A.toList,by simp⟩
 clear hA
 rw[show (#[((0:Nat),Value.agg cs.toArray)]:Array (Nat × Value)).toList=[(0,.agg cs.toArray)] from rfl,fill_cons _ _ 0 0 257 (.agg cs.toArray) cs _ rfl rfl hc (by simpa using Nat.le_of_eq hs.symm),
  splice_whole _ _ (by rw[hc];exact hs.symm)]
 rfl
section
variable {w:World}{B bp bf bv:Nat}{u:Value}{F V:List (List Int)}{U:List (Nat × List Int)}{fu dn:Bool}{le:Int}
theorem DskAt.setV (h:DskAt w B bp bf bv u F V U fu le dn) {W:World} (hw:Below w.heap.size w W) (n:Nat) (hn:n<V.length) (b:List Int) (hb:Blk b):
 DskAt (W.setCells bv (n*256) (cB b)) B bp bf bv u F (V.set n b) U fu le dn/\Wrote W (W.setCells bv (n*256) (cB b)) bv:=by
 have h':=h.below hw
 have hl:=cB_length b
 have hfl:=flat_length (flatB_len h.okV)
 have e:=setCells_row (vs:=cB b) h'.hv (o:=n*256) (by rw[hl,hb.1,hfl];omega) (cB_one b)
 rw[flat_set (flatB_len h.okV) n hn b (by rw[hl,hb.1])] at e
 rw[e]
 have hwr:=Wrote.setRow W bv ((V.set n b).flatMap cB).toArray
 have key:∀ {g:Nat} {o:Obj},g≠bv->W.heap[g]? =some o->(W.setRow bv ((V.set n b).flatMap cB).toArray).heap[g]? =some o:=fun hg hh=>by
  rw[hwr.2.2.2.2 _ hg];exact hh
 refine ⟨⟨h.bB,h.ne,by rw[List.length_set];exact key h.ne.2.1 h'.hp,key h.ne.2.2 h'.hf,setRow_heap _ _ _ _ _ _ h'.hv,⟨h.hu.1,?_⟩,h.une,h.okF,?_,fun x hx=>by rw[List.length_set];exact h.okU x hx,by rw[List.length_set];exact h.len,by rw[List.length_set];exact h.max⟩,hwr⟩
 · rcases h'.hu.2 with h0| ⟨g,cap,cur,hv,hg,hh,r⟩
   · exact .inl h0
   · exact .inr ⟨g,cap,cur,hv,hg,key (fun e=>h.une.2.2 (by rw[hv,<- e];rfl)) hh,r⟩
 · intro x hx
   rcases List.mem_or_eq_of_mem_set hx with hx|rfl
   · exact h.okV x hx
   · exact hb
end
theorem DskAt.pushU {w:World}{B bp bf bv:Nat}{u:Value}{F V:List (List Int)}{U:List (Nat × List Int)}{fu dn:Bool}{le:Int} (h:DskAt w B bp bf bv u F V U fu le dn) {W w3:World} (hw:Below w.heap.size w W) (hB:B<=w.heap.size)
 (hgrow:W.grownBy w3 u.ownBlock) (g cap:Nat) (x:Nat × List Int) (hx:x.1<V.length/\Blk x.2) (hown:w3.ownsRow B 155 257 (.slice (some ⟨g,0,none⟩) (U.length+1) cap) (U.length+1) (U.flatMap cU ++ cU x)) (hat:u.ownBlock=some g\/g=W.heap.size):
 DskAt (w3.setCell ⟨bp,2,none⟩ (.slice (some ⟨g,0,none⟩) (U.length+1) cap)) B bp bf bv (.slice (some ⟨g,0,none⟩) (U.length+1) cap) F V (U ++ [x]) fu le dn/\Below B w (w3.setCell ⟨bp,2,none⟩ (.slice (some ⟨g,0,none⟩) (U.length+1) cap)):=by
 have h':=h.below hw
 have l1:=(Array.getElem?_eq_some_iff.1 h'.hp).1
 have l2:=(Array.getElem?_eq_some_iff.1 h'.hf).1
 have l3:=(Array.getElem?_eq_some_iff.1 h'.hv).1
 have n1:=h.une
 have key:∀ {k:Nat} {o:Obj},some k≠u.ownBlock->W.heap[k]? =some o->w3.heap[k]? =some o:=fun hk hh=>by
  rw[hgrow.block _ (Array.getElem?_eq_some_iff.1 hh).1 hk];exact hh
 have gne:g≠bp/\g≠bf/\g≠bv:=by
  rcases hat with hat|hat
  · rw[hat] at n1
    exact ⟨fun e=>n1.1 (by rw[e]),fun e=>n1.2.1 (by rw[e]),fun e=>n1.2.2 (by rw[e])⟩
  · omega
 have hne:=h.ne
 have oth:∀ {k:Nat},k≠bp->(w3.setCell ⟨bp,2,none⟩ (.slice (some ⟨g,0,none⟩) (U.length+1) cap)).heap[k]? =w3.heap[k]? :=fun hk=>heap_setCell_other _ _ _ _ hk
 have hfm:(U ++ [x]).flatMap cU=U.flatMap cU ++ cU x:=by simp
 have hln:(U ++ [x]).length=U.length+1:=by simp
 refine ⟨⟨h.bB,h.ne,?_,?_,?_,?_,?_,h.okF,h.okV,?_,h.len,h.max⟩,?_⟩
 · have:=heap_setCell_same w3 bp 2 _ _ (.slice (some ⟨g,0,none⟩) (U.length+1) cap) (key (Ne.symm n1.1) h'.hp)
   simpa using this
 · rw[oth (Ne.symm hne.1)];exact key (Ne.symm n1.2.1) h'.hf
 · rw[oth (Ne.symm hne.2.1)];exact key (Ne.symm n1.2.2) h'.hv
 · rw[hfm,hln]
   refine ⟨hown.1,?_⟩
   rcases hown.2 with ⟨h0,_⟩| ⟨g',cap',cur,hv,hg,hh,r⟩
   · simp at h0
   · simp only[Value.slice.injEq,Option.some.injEq,Addr.mk.injEq,and_true,true_and] at hv
     obtain ⟨rfl,rfl⟩:=hv
     exact .inr ⟨g,cap,cur,rfl,hg,by rw[oth gne.1];exact hh,r⟩
 · refine ⟨fun e=>gne.1 (by simpa [Value.ownBlock] using e),fun e=>gne.2.1 (by simpa [Value.ownBlock] using e),fun e=>gne.2.2 (by simpa [Value.ownBlock] using e)⟩
 · intro y hy
   rcases List.mem_append.1 hy with hy|hy
   · exact h.okU y hy
   · obtain rfl:=List.mem_singleton.1 hy;exact hx
 · refine Below.setCell (((hw.mono hB)).grown hgrow (Nat.le_trans hB hw.size) fun k hk=>(h.hu.lt k hk).1) (by exact h.bB.1) _
attribute [-go_sem] Instr.build Instr.buildSlice loadCellsFrom
def stF (kp:Nat->Bool) (U:List (Nat × List Int)) (F:List (List Int)):Nat->List (List Int)
 |0=>F
 |k+1=>if kp k then (stF kp U F k).set (U.getD k (0,[])).1 (U.getD k (0,[])).2 else stF kp U F k
def stV (U:List (Nat × List Int)) (F1 V:List (List Int)):Nat->List (List Int)
 |0=>V
 |k+1=>(stV U F1 V k).set (U.getD k (0,[])).1 (F1.getD (U.getD k (0,[])).1 [])
theorem stF_length (kp:Nat->Bool) (U:List (Nat × List Int)) (F:List (List Int)):∀ k,(stF kp U F k).length=F.length
 |0=>rfl
 |k+1=>by
  have:=stF_length kp U F k
  unfold stF;split
  · rw[List.length_set,this]
  · exact this
theorem stV_length (U:List (Nat × List Int)) (F1 V:List (List Int)):∀ k,(stV U F1 V k).length=V.length
 |0=>rfl
 |k+1=>by
  have:=stV_length U F1 V k
  unfold stV;rw[List.length_set,this]
structure Frm (w W:World) (g1 g2:Nat):Prop where
 os:W.os=w.os
 tape:W.tape=w.tape
 output:W.output=w.output
 size:w.heap.size<=W.heap.size
 block:∀ k,k<w.heap.size->k≠g1->k≠g2->W.heap[k]? =w.heap[k]?
theorem Frm.refl (w:World) (g1 g2:Nat):Frm w w g1 g2:=⟨rfl,rfl,rfl,Nat.le_refl _,fun _ _ _ _=>rfl⟩
theorem Frm.below {w W:World}{g1 g2 B:Nat} (h:Frm w W g1 g2) (h1:B<=g1) (h2:B<=g2) (hB:B<=w.heap.size):Below B w W:=
 ⟨h.os,h.tape,h.output,h.size,fun k hk=>h.block k (by omega) (by omega) (by omega)⟩
theorem Frm.trans {a b c:World}{g1 g2:Nat} (h:Frm a b g1 g2) (k:Frm b c g1 g2):Frm a c g1 g2:=
 ⟨k.os.trans h.os,k.tape.trans h.tape,k.output.trans h.output,Nat.le_trans h.size k.size,fun i hi h1 h2=>(k.block i (Nat.lt_of_lt_of_le hi h.size) h1 h2).trans (h.block i hi h1 h2)⟩
theorem Frm.of_below {w W:World}{g1 g2:Nat} (h:Below w.heap.size w W):Frm w W g1 g2:=⟨h.os,h.tape,h.output,h.size,fun k hk _ _=>h.block k hk⟩
theorem Frm.of_wrote {w W:World}{g1 g2:Nat} (h:Wrote w W g1):Frm w W g1 g2:=⟨h.1,h.2.1,h.2.2.1,Nat.le_of_eq h.2.2.2.1.symm,fun k _ h1 _=>h.2.2.2.2 k h1⟩
theorem Frm.of_wrote2 {w W:World}{g1 g2:Nat} (h:Wrote w W g2):Frm w W g1 g2:=⟨h.1,h.2.1,h.2.2.1,Nat.le_of_eq h.2.2.2.1.symm,fun k _ _ h2=>h.2.2.2.2 k h2⟩
structure Fr3 (w W:World) (g1 g2 g3:Nat):Prop where
 os:W.os=w.os
 tape:W.tape=w.tape
 output:W.output=w.output
 size:w.heap.size<=W.heap.size
 block:∀ k,k<w.heap.size->k≠g1->k≠g2->k≠g3->W.heap[k]? =w.heap[k]?
theorem Fr3.set {w W:World}{g2 g3:Nat} (h:Frm w W g2 g3) (g1 i:Nat) (x:Value):Fr3 w (W.setCell ⟨g1,i,none⟩ x) g1 g2 g3:=
 ⟨h.os,h.tape,h.output,by simp[World.setCell];exact h.size,fun k hk h1 h2 h3=>by rw[heap_setCell_other _ _ _ _ h1];exact h.block k hk h2 h3⟩
section
variable {w:World}{B bp bf bv:Nat}{u:Value}{F V:List (List Int)}{U:List (Nat × List Int)}{fu dn:Bool}{le:Int}
theorem DskAt.setF (h:DskAt w B bp bf bv u F V U fu le dn) {W:World} (hw:Below w.heap.size w W) (n:Nat) (hn:n<F.length) (b:List Int) (hb:Blk b):
 DskAt (W.setCells bf (n*256) (cB b)) B bp bf bv u (F.set n b) V U fu le dn/\Wrote W (W.setCells bf (n*256) (cB b)) bf:=by
 have h':=h.below hw
 have hl:=cB_length b
 have hfl:=flat_length (flatB_len h.okF)
 have e:=setCells_row (vs:=cB b) h'.hf (o:=n*256) (by rw[hl,hb.1,hfl];omega) (cB_one b)
 rw[flat_set (flatB_len h.okF) n hn b (by rw[hl,hb.1])] at e
 rw[e]
 have hwr:=Wrote.setRow W bf ((F.set n b).flatMap cB).toArray
 have key:∀ {g:Nat} {o:Obj},g≠bf->W.heap[g]? =some o->(W.setRow bf ((F.set n b).flatMap cB).toArray).heap[g]? =some o:=fun hg hh=>by
  rw[hwr.2.2.2.2 _ hg];exact hh
 refine ⟨⟨h.bB,h.ne,by rw[List.length_set];exact key h.ne.1 h'.hp,setRow_heap _ _ _ _ _ _ h'.hf,key (Ne.symm h.ne.2.2) h'.hv,⟨h.hu.1,?_⟩,h.une,?_,h.okV,h.okU,by rw[List.length_set];exact h.len,h.max⟩,hwr⟩
 · rcases h'.hu.2 with h0| ⟨g,cap,cur,hv,hg,hh,r⟩
   · exact .inl h0
   · exact .inr ⟨g,cap,cur,hv,hg,key (fun e=>h.une.2.1 (by rw[hv,<- e];rfl)) hh,r⟩
 · intro x hx
   rcases List.mem_or_eq_of_mem_set hx with hx|rfl
   · exact h.okF x hx
   · exact hb
theorem DskAt.noU (h:DskAt w B bp bf bv u F V U fu le dn):DskAt (w.setCell ⟨bp,2,none⟩ (.slice none 0 0)) B bp bf bv (.slice none 0 0) F V [] fu le dn:=by
 have oth:∀ {k:Nat},k≠bp->(w.setCell ⟨bp,2,none⟩ (.slice none 0 0)).heap[k]? =w.heap[k]? :=fun hk=>heap_setCell_other _ _ _ _ hk
 refine ⟨h.bB,h.ne,?_,?_,?_,⟨rfl,.inl ⟨rfl,rfl⟩⟩,⟨by simp[Value.ownBlock],by simp[Value.ownBlock],by simp[Value.ownBlock]⟩,h.okF,h.okV,fun x hx=>by simp at hx,h.len,h.max⟩
 · have:=heap_setCell_same w bp 2 _ _ (.slice none 0 0) h.hp
   simpa using this
 · rw[oth (Ne.symm h.ne.1)];exact h.hf
 · rw[oth (Ne.symm h.ne.2.1)];exact h.hv
theorem DskAt.rangeU (h:DskAt w B bp bf bv u F V U fu le dn) (i:Nat) (hi:i<U.length):∃ g cap,u=.slice (some ⟨g,0,none⟩) U.length cap/\g<w.heap.size/\w.rangeAt g (i*257) (cU U[i]):=by
 have hfl:=flat_length (flatU_len fun x hx=>(h.okU x hx).2)
 rcases h.hu.2 with ⟨_,h0⟩| ⟨g,cap,cur,hv,hg,hh,h1,h2,h3,h4⟩
 · omega
 · have hc:=cU_length U[i]
   have hb:=(h.okU U[i] (List.getElem_mem _)).2.1
   have hu:=flat_get (flatU_len fun x hx=>(h.okU x hx).2) i hi
   refine ⟨g,cap,hv,(Array.getElem?_eq_some_iff.1 hh).1,range_row (cur:=cur.toList) (by simpa using hh) ?_⟩
   rw[hc,hb,<- h4,List.drop_take,List.take_take] at*
   rw[<- hu]
   congr 1
   have:(i+1)*257<=U.length*257:=Nat.mul_le_mul_right _ hi
   rw[Nat.succ_mul] at this
   omega
end
theorem sizeW:(Tryz.prog.info? 155).map (·.size)=some 257:=by kernel_rfl
theorem wpList_allocW (w:World) {ops:Array Oper}{rest:List Oper}{o:Oper}{a:Act}{Q:Exit->Act->World->Prop} (hg:o.guard=none) (hop:o.op=Op.alloc 155)
 (hK:wpList Tryz.prog ops Q rest (a.put o.dst (.pointer (some ⟨w.heap.size,0,none⟩))) (w.alloc (.cells (Value.int .i64 0 :: zB).toArray 155))):wpList Tryz.prog ops Q (o :: rest) a w:=by
 refine wpList_plain hg fun K hK'=>?_
 have hz:=(zero_of_info (v:=.agg (Value.int .i64 0 :: zB).toArray) (n:=257) (t:=155) (P:=Tryz.prog) (by
  obtain ⟨i,h2,h3,h4,h5⟩:=info_parts infoW
  simp[h2,h3,h4])).1 w
 unfold Oper.wp execOp
 simp only[hop,Instr.alloc,newVar,newRow,Sem.run_bind,hz,Result.andThen_ok,Value.cells]
 exact hK' _ _ hK
theorem wpList_loadW (w:World) {ops:Array Oper}{rest:List Oper}{o:Oper}{a:Act}{Q:Exit->Act->World->Prop} (hg:o.guard=none) (x:Operand) (hop:o.op=Op.load 155 x)
 (g off:Nat) (cells:List Value) (hx:a.eval x=.pointer (some ⟨g,off,none⟩)) (hr:w.rangeAt g off cells) (hc:cells.length=257)
 (hK:wpList Tryz.prog ops Q rest (a.put o.dst (.agg cells.toArray)) w):wpList Tryz.prog ops Q (o :: rest) a w:=
 wpList_load_mid hg 155 x hop g off hx cells _ hr Tryz.underlying155 rfl (by rw[sizeW,hc]) hK
theorem wpList_storeW (w:World) {ops:Array Oper}{rest:List Oper}{o:Oper}{a:Act}{Q:Exit->Act->World->Prop} (hg:o.guard=none) (x y:Operand) (hop:o.op=Op.store 155 x y)
 (g:Nat) (t:TypeId) (old cells:List Value) (hx:a.eval x=.pointer (some ⟨g,0,none⟩)) (hy:a.eval y=.agg cells.toArray) (hh:w.heap[g]? =some (.cells old.toArray t (0,0))) (ho:old.length=257) (hc:cells.length=257) (h1:∀ v∈cells,v.oneCell'=true)
 (hK:wpList Tryz.prog ops Q rest (a.put o.dst undef) (w.setRow g cells.toArray)):wpList Tryz.prog ops Q (o :: rest) a w:=
 wpList_store_row hg 155 x y hop g cells.toArray hx hy t old.toArray hh (by rw[sizeW];simp[hc]) (by simp[ho,hc]) (all_oneCell_toArray h1) hK
def SetWF (w:World) (B bp bf bv:Nat) (F V:List (List Int)) (U:List (Nat × List Int)) (fu:Bool) (le:Int) (dn:Bool) (kp:Nat->Bool) (e:Ending) (w':World):Prop:=
 e=.returned (.tuple #[])/\DskAt w' B bp bf bv (.slice none 0 0) (stF kp U F U.length) (stV U (stF kp U F U.length) V U.length) [] fu le dn/\Below B w w'/\Fr3 w w' bp bf bv
set_option maxRecDepth 100000 in
set_option maxHeartbeats 3000000 in
theorem dSettleFw {w:World}{B bp bf bv:Nat}{u:Value}{F V:List (List Int)}{U:List (Nat × List Int)}{fu dn:Bool}{le:Int} (h:DskAt w B bp bf bv u F V U fu le dn) (hBw:B<=w.heap.size) (hUl:U.length<=1000000) (kp:Nat->Bool)
 (hk:∀ W,Frm w W bf bv->∀ i,i<U.length->Calls Tryz.prog 167 #[.int .i64 i] W fun e w'=>e=.returned (.bool (kp i))/\∃ m,w'=W.drewN m):
 Calls Tryz.prog 166 #[.pointer (some ⟨bp,0,none⟩),.func (.func 167) #[] #[]] w (SetWF w B bp bf bv F V U fu le dn kp):=by
 obtain ⟨ao,cap,rfl⟩:=h.shapeU
 have c2:=h.c2
 have HU:Hid (∀ x∈U,x.1<V.length/\Blk x.2):=h.okU
 have HLen:Hid (F.length=V.length):=h.len
 have HZ:=Lib.hid zB_length
 have HBw:=Lib.hid hBw
 have HbB:Hid (B<=bp/\B<=bf/\B<=bv):=h.bB
 have hdr:∀ (W:World) (m:Nat),Below W.heap.size W (W.drewN m):=fun W m=>below_drewN' (Below.refl _ _) m
 clear hBw
 go_enter Tryz.func166,Tryz.ntmps166
 go_wp2_with fail
 have HD0:Hid (DskAt w B bp bf bv (.slice ao U.length cap) F V U fu le dn):=h
 clear h c2
 go_loopw [13] (fun i wr=>∃ k:Nat,k<=U.length/\i=.int .i64 k/\Hid (DskAt wr B bp bf bv (.slice ao U.length cap) (stF kp U F k) V U fu le dn)/\Hid (Frm w wr bf bv))
  (fun i _=>U.length-(intOf i).toNat)
 case atStart=>exact ⟨0,by omega,rfl,HD0,Frm.refl _ _ _⟩
 case round=>
  obtain ⟨k,hkn,rfl,HD,HF⟩:=hrel
  by_cases hlt:k<U.length
  · have hlt':(k:Int)<(U.length:Int):=by omega
    obtain ⟨g,cap',hu,hgl,hr⟩:=HD.out.rangeU k hlt
    obtain ⟨rfl,rfl⟩:ao=some ⟨g,0,none⟩/\cap'=cap:=⟨(Value.slice.inj hu).1,(Value.slice.inj hu).2.2.symm⟩
    have hx:=HU.out U[k] (List.getElem_mem _)
    have hgd:U.getD k (0,[])=U[k]:=by rw[List.getD_eq_getElem?_getD,List.getElem?_eq_getElem hlt];rfl
    obtain ⟨⟨at_,data⟩,hxe⟩:∃ x,x=U[k]:=⟨_,rfl⟩
    rw[<- hxe] at hx hr hgd
    have HX:Hid (at_<V.length/\Blk data):=hx
    have HR:Hid (wr.rangeAt g (k*257) (Value.int .i64 at_ :: cB data)):=hr
    have HG:=Lib.hid hgd
    have HL:Hid ((cB data).length=256):=by show _=_;rw[cB_length,hx.2.1]
    have HL1:Hid ((Value.int .i64 at_ :: cB data).length=257):=by show _=_;rw[List.length_cons,HL.out]
    have h1c:∀ v∈(Value.int .i64 at_ :: cB data),v.oneCell'=true:=cU_one (at_,data)
    obtain ⟨H1,hH1⟩:∃ H1,H1=wr.heap.size:=⟨_,rfl⟩
    have hba:Below wr.heap.size wr (wr.alloc (.cells (Value.int .i64 at_ :: cB data).toArray 155)):=(Below.refl _ _).alloc (Nat.le_refl _) _
    have hra:(wr.alloc (.cells (Value.int .i64 at_ :: cB data).toArray 155)).heap[H1]? =some (.cells (Value.int .i64 at_ :: cB data).toArray 155 (0,0)):=by rw[hH1];exact heap_alloc_last _ _
    have HK:Hid (∀ m,Frm w ((wr.alloc (.cells (Value.int .i64 at_ :: cB data).toArray 155)).drewN m) bf bv):=fun m=>(HF.out.trans (Frm.of_below hba)).trans (Frm.of_below (hdr _ m))
    have HK0:Hid (Frm w (wr.alloc (.cells (Value.int .i64 at_ :: cB data).toArray 155)) bf bv):=HF.out.trans (Frm.of_below hba)
    have HRA:=Lib.hid hra
    have HBA:=Lib.hid hba
    have HH1:=Lib.hid hH1
    clear hu hr hx hgd hxe hra hba HU hH1
    cases hkp:kp k
    · have HKP:=Lib.hid hkp
      go_wp2_with (first
       |(refine wpList_loadW _ rfl _ (by rfl) g (k*257) (Value.int .i64 at_ :: cB data) (by rfl) HR.out HL1.out ?_)
       |with_reducible refine wpList_allocW _ rfl rfl ?_
       |(refine wpList_storeW _ rfl _ _ (by rfl) _ 155 (Value.int .i64 0 :: zB) (Value.int .i64 at_ :: cB data) (by rfl) (by rfl) (heap_alloc_last _ _) (by rw[List.length_cons,HZ.out]) HL1.out h1c ?_
         rw[World.setRow_alloc_new])
       |(go_at_call 167;refine (hk _ HK0.out k hlt).mono ?_;rintro e w2 ⟨rfl,m,rfl⟩;rw[HKP.out]))
      go_roundw
      case rel=>exact ⟨k+1,by omega,by go_num,(by
       show DskAt _ B bp bf bv _ (stF kp U F (k+1)) V U fu le dn
       rw[stF,if_neg (by rw[HKP.out];decide)]
       exact HD.out.below (HBA.out.trans ((hdr _ m).mono HBA.out.size))),HK.out m⟩
      case measure=>simp[intOf];omega
    · have HKP:=Lib.hid hkp
      go_wp2_with (first
       |(refine wpList_loadW _ rfl _ (by rfl) g (k*257) (Value.int .i64 at_ :: cB data) (by rfl) HR.out HL1.out ?_)
       |with_reducible refine wpList_allocW _ rfl rfl ?_
       |(refine wpList_storeW _ rfl _ _ (by rfl) _ 155 (Value.int .i64 0 :: zB) (Value.int .i64 at_ :: cB data) (by rfl) (by rfl) (heap_alloc_last _ _) (by rw[List.length_cons,HZ.out]) HL1.out h1c ?_
         rw[World.setRow_alloc_new])
       |(go_at_call 167;refine (hk _ HK0.out k hlt).mono ?_;rintro e w2 ⟨rfl,m,rfl⟩;rw[HKP.out]))
      obtain ⟨W1,hW1⟩:∃ W1,W1=(wr.alloc (.cells (Value.int .i64 at_ :: cB data).toArray 155)).drewN m:=⟨_,rfl⟩
      have hb1:Below wr.heap.size wr W1:=by rw[hW1];exact HBA.out.trans ((hdr _ m).mono HBA.out.size)
      have hf1:Frm w W1 bf bv:=by rw[hW1];exact HK.out m
      have hr1:W1.heap[H1]? =some (.cells (Value.int .i64 at_ :: cB data).toArray 155 (0,0)):=by rw[hW1];exact HRA.out
      rw[<- hW1,<- HH1.out]
      clear hW1
      have hD1:=HD.out.below hb1
      have hlt1:bp<H1/\bf<H1/\bv<H1:=by
       have e1:=(Array.getElem?_eq_some_iff.1 HD.out.hp).1
       have e2:=(Array.getElem?_eq_some_iff.1 HD.out.hf).1
       have e3:=(Array.getElem?_eq_some_iff.1 HD.out.hv).1
       have:=HH1.out
       omega
      have hne:=HD.out.ne
      have hln:(stF kp U F k).length=F.length:=stF_length _ _ _ _
      have haF:at_<(stF kp U F k).length:=by rw[hln,HLen.out];exact HX.out.1
      obtain ⟨NF,hNF⟩:∃ NF,NF=(stF kp U F k).length:=⟨_,rfl⟩
      have c0:=hD1.c0
      rw[<- hNF] at c0 haF
      have haF':(at_:Int)<(NF:Int):=by omega
      have r0:W1.cell? ⟨H1,0,none⟩=some (.int .i64 at_):=by rw[cell_of_row _ _ _ _ _ _ hr1];rfl
      have rL:W1.rangeAt H1 1 (cB data):=range_row hr1 (by simp)
      have tF:W1.there bf (at_*256) (cB data).length:=there_row hD1.hf (by rw[HL.out,flat_length (flatB_len hD1.okF)];omega)
      have hone2:=cB_one data
      have hub:=Tryz.underlying151
      have hib:(Tryz.prog.info? 151).map (·.size)=some (cB data).length:=by rw[sizeB,HL.out]
      have hlen:=HL.out
      obtain ⟨hD2,hwr2⟩:=HD.out.setF (W:=W1.drew) (hb1.drew) at_ (by rw[<- hNF];exact haF) data HX.out.2
      have hf2:=(hf1.trans (Frm.of_below (hdr W1 1))).trans (Frm.of_wrote (g2:=bv) hwr2)
      have HD2:=Lib.hid hD2
      have HF2:=Lib.hid hf2
      have HW2:=Lib.hid hwr2
      have hS1:W1.drew.cell? ⟨bp,0,none⟩=some (.slice (some ⟨bf,0,none⟩) NF NF)/\W1.drew.cell? ⟨H1,0,none⟩=some (.int .i64 at_)/\W1.drew.rangeAt H1 1 (cB data)/\W1.drew.there bf (at_*256) (cB data).length:=⟨c0,r0,rL,tF⟩
      have hS2:(W1.drew.setCells bf (at_*256) (cB data)).cell? ⟨bp,0,none⟩=some (.slice (some ⟨bf,0,none⟩) NF NF)/\(W1.drew.setCells bf (at_*256) (cB data)).cell? ⟨H1,0,none⟩=some (.int .i64 at_)/\(W1.drew.setCells bf (at_*256) (cB data)).rangeAt H1 1 (cB data)/\(W1.drew.setCells bf (at_*256) (cB data)).there bf (at_*256) (cB data).length:=
       ⟨by rw[World.cell?_setCells_out _ _ _ _ _ (fun e=>absurd e hne.1)];exact c0,by rw[World.cell?_setCells_out _ _ _ _ _ (fun e=>by have e:H1=bf:=e;omega)];exact r0,World.rangeAt_setCells_apart hS1.2.2.1 _ _ _ (.inl (by omega)),World.there_setCells hS1.2.2.2 _ _ _⟩
      clear hD1 hb1 hf1 hr1 c0 r0 rL tF hD2 hwr2 hf2 hln hNF
      go_region_held (fun W=>W.cell? ⟨bp,0,none⟩=some (.slice (some ⟨bf,0,none⟩) NF NF)/\W.cell? ⟨H1,0,none⟩=some (.int .i64 at_)/\W.rangeAt H1 1 (cB data)/\W.there bf (at_*256) (cB data).length) (first|exact hS1|exact hS2) (fail)
      clear hS1 hS2
      go_wp2_with fail
      go_roundw
      case rel=>exact ⟨k+1,by omega,by go_num,(by
       show DskAt _ B bp bf bv _ (stF kp U F (k+1)) V U fu le dn
       rw[stF,if_pos HKP.out,HG.out]
       exact HD2.out),HF2.out⟩
      case measure=>simp[intOf];omega
  · obtain rfl:k=U.length:=by omega
    have hge:¬ (U.length:Int)<(U.length:Int):=by omega
    have c2:=HD.out.c2
    go_wp2_with fail
    obtain ⟨F1,hF1⟩:∃ F1,F1=stF kp U F U.length:=⟨_,rfl⟩
    have HF1:=Lib.hid hF1
    have HDa:Hid (DskAt wr B bp bf bv (.slice ao U.length cap) F1 V U fu le dn):=by rw[hF1];exact HD
    clear HD HD0 c2 hF1 hk hge hkn hlt
    go_loopw [36] (fun i wq=>∃ k:Nat,k<=U.length/\i=.int .i64 k/\Hid (DskAt wq B bp bf bv (.slice ao U.length cap) F1 (stV U F1 V k) U fu le dn)/\Hid (Frm w wq bf bv))
     (fun i _=>U.length-(intOf i).toNat)
    case atStart=>exact ⟨0,by omega,rfl,HDa,HF⟩
    case round=>
     clear HDa HF
     obtain ⟨k,hkn,rfl,HD,HF⟩:=hrel
     by_cases hlt:k<U.length
     · have hlt':(k:Int)<(U.length:Int):=by omega
       obtain ⟨g,cap',hu,hgl,hr⟩:=HD.out.rangeU k hlt
       obtain ⟨rfl,rfl⟩:ao=some ⟨g,0,none⟩/\cap'=cap:=⟨(Value.slice.inj hu).1,(Value.slice.inj hu).2.2.symm⟩
       have hx:=HU.out U[k] (List.getElem_mem _)
       have hgd:U.getD k (0,[])=U[k]:=by rw[List.getD_eq_getElem?_getD,List.getElem?_eq_getElem hlt];rfl
       obtain ⟨⟨at_,data⟩,hxe⟩:∃ x,x=U[k]:=⟨_,rfl⟩
       rw[<- hxe] at hx hr hgd
       have hlenFV:F1.length=V.length:=by have:=HD.out.len;rw[stV_length] at this;exact this
       have haF:at_<F1.length:=by rw[hlenFV];exact hx.1
       have hb:Blk F1[at_]:=HD.out.okF _ (List.getElem_mem _)
       have hgF:F1.getD at_ []=F1[at_]:=by rw[List.getD_eq_getElem?_getD,List.getElem?_eq_getElem haF];rfl
       have hmem:=range_row HD.out.hf (o:=at_*256) (vs:=cB F1[at_]) (by rw[cB_length,hb.1];exact flat_get (flatB_len HD.out.okF) at_ haF)
       obtain ⟨b,hbe⟩:∃ b,b=F1[at_]:=⟨_,rfl⟩
       rw[<- hbe] at hb hgF hmem
       have HX:Hid (at_<V.length/\Blk data):=hx
       have HR:Hid (wr.rangeAt g (k*257) (Value.int .i64 at_ :: cB data)):=hr
       have HG:=Lib.hid hgd
       have HB:=Lib.hid hb
       have HGF:=Lib.hid hgF
       have HMEM:=Lib.hid hmem
       have HL:Hid ((cB b).length=256):=by show _=_;rw[cB_length,hb.1]
       have HL1:Hid ((Value.int .i64 at_ :: cB data).length=257):=by show _=_;rw[List.length_cons,cB_length,hx.2.1]
       have h1c:∀ v∈(Value.int .i64 at_ :: cB data),v.oneCell'=true:=cU_one (at_,data)
       obtain ⟨H1,hH1⟩:∃ H1,H1=wr.heap.size:=⟨_,rfl⟩
       obtain ⟨W1,hW1⟩:∃ W1,W1=wr.alloc (.cells (Value.int .i64 at_ :: cB data).toArray 155):=⟨_,rfl⟩
       have hb1:Below wr.heap.size wr W1:=by rw[hW1];exact (Below.refl _ _).alloc (Nat.le_refl _) _
       have hr1:W1.heap[H1]? =some (.cells (Value.int .i64 at_ :: cB data).toArray 155 (0,0)):=by rw[hW1,hH1];exact heap_alloc_last _ _
       have hf1:=HF.out.trans (Frm.of_below hb1)
       have HW1:=Lib.hid hW1
       have HH1:=Lib.hid hH1
       clear hu hr hx hgd hxe hH1 hW1 hb hgF hmem hbe
       go_wp2_with (first
        |(refine wpList_loadW _ rfl _ (by rfl) g (k*257) (Value.int .i64 at_ :: cB data) (by rfl) HR.out HL1.out ?_)
        |with_reducible refine wpList_allocW _ rfl rfl ?_
        |(refine wpList_storeW _ rfl _ _ (by rfl) _ 155 (Value.int .i64 0 :: zB) (Value.int .i64 at_ :: cB data) (by rfl) (by rfl) (heap_alloc_last _ _) (by rw[List.length_cons,HZ.out]) HL1.out h1c ?_
          rw[World.setRow_alloc_new]))
       rw[<- HW1.out,<- HH1.out]
       have hD1:=HD.out.below hb1
       have hlt1:bp<H1/\bf<H1/\bv<H1:=by
        have e1:=(Array.getElem?_eq_some_iff.1 HD.out.hp).1
        have e2:=(Array.getElem?_eq_some_iff.1 HD.out.hf).1
        have e3:=(Array.getElem?_eq_some_iff.1 HD.out.hv).1
        have:=HH1.out
        omega
       have hne:=HD.out.ne
       have haV:at_<(stV U F1 V k).length:=by rw[stV_length];exact HX.out.1
       obtain ⟨NF,hNF⟩:∃ NF,NF=F1.length:=⟨_,rfl⟩
       obtain ⟨NV,hNV⟩:∃ NV,NV=(stV U F1 V k).length:=⟨_,rfl⟩
       have c0:=hD1.c0
       have c1:=hD1.c1
       rw[<- hNF] at c0 haF
       rw[<- hNV] at c1 haV
       have haF':(at_:Int)<(NF:Int):=by omega
       have haV':(at_:Int)<(NV:Int):=by omega
       have r0:W1.cell? ⟨H1,0,none⟩=some (.int .i64 at_):=by rw[cell_of_row _ _ _ _ _ _ hr1];rfl
       have rF:W1.rangeAt bf (at_*256) (cB b):=by
        have:=HMEM.out
        intro j v hj
        rw[hb1.cell (p:=⟨bf,at_*256+j,none⟩) (by have:=HH1.out;show bf<_;omega)]
        exact this j v hj
       have tV:W1.there bv (at_*256) (cB b).length:=there_row hD1.hv (by rw[HL.out,flat_length (flatB_len hD1.okV)];omega)
       have hone2:=cB_one b
       have hub:=Tryz.underlying151
       have hib:(Tryz.prog.info? 151).map (·.size)=some (cB b).length:=by rw[sizeB,HL.out]
       have hlen:=HL.out
       obtain ⟨hD2,hwr2⟩:=HD.out.setV (W:=W1.drew) (hb1.drew) at_ (by rw[<- hNV];exact haV) b HB.out
       have hf2:=(hf1.trans (Frm.of_below (hdr W1 1))).trans (Frm.of_wrote2 (g1:=bf) hwr2)
       have HD2:=Lib.hid hD2
       have HF2:=Lib.hid hf2
       have hS1:W1.drew.cell? ⟨bp,0,none⟩=some (.slice (some ⟨bf,0,none⟩) NF NF)/\W1.drew.cell? ⟨bp,1,none⟩=some (.slice (some ⟨bv,0,none⟩) NV NV)/\W1.drew.cell? ⟨H1,0,none⟩=some (.int .i64 at_)/\W1.drew.rangeAt bf (at_*256) (cB b)/\W1.drew.there bv (at_*256) (cB b).length:=⟨c0,c1,r0,rF,tV⟩
       have hS2:(W1.drew.setCells bv (at_*256) (cB b)).cell? ⟨bp,0,none⟩=some (.slice (some ⟨bf,0,none⟩) NF NF)/\(W1.drew.setCells bv (at_*256) (cB b)).cell? ⟨bp,1,none⟩=some (.slice (some ⟨bv,0,none⟩) NV NV)/\(W1.drew.setCells bv (at_*256) (cB b)).cell? ⟨H1,0,none⟩=some (.int .i64 at_)/\(W1.drew.setCells bv (at_*256) (cB b)).rangeAt bf (at_*256) (cB b)/\(W1.drew.setCells bv (at_*256) (cB b)).there bv (at_*256) (cB b).length:=
        ⟨by rw[World.cell?_setCells_out _ _ _ _ _ (fun e=>absurd e hne.2.1)];exact c0,by rw[World.cell?_setCells_out _ _ _ _ _ (fun e=>absurd e hne.2.1)];exact c1,by rw[World.cell?_setCells_out _ _ _ _ _ (fun e=>by have e:H1=bv:=e;omega)];exact r0,World.rangeAt_setCells_apart hS1.2.2.2.1 _ _ _ (.inl hne.2.2),World.there_setCells hS1.2.2.2.2 _ _ _⟩
       clear hD1 hb1 hf1 hr1 c0 c1 r0 rF tV hD2 hwr2 hf2 hNF hNV hlenFV HU
       go_region_held (fun W=>W.cell? ⟨bp,0,none⟩=some (.slice (some ⟨bf,0,none⟩) NF NF)/\W.cell? ⟨bp,1,none⟩=some (.slice (some ⟨bv,0,none⟩) NV NV)/\W.cell? ⟨H1,0,none⟩=some (.int .i64 at_)/\W.rangeAt bf (at_*256) (cB b)/\W.there bv (at_*256) (cB b).length) (first|exact hS1|exact hS2) (fail)
       clear hS1 hS2
       go_wp2_with fail
       go_roundw
       case rel=>exact ⟨k+1,by omega,by go_num,(by
        show DskAt _ B bp bf bv _ F1 (stV U F1 V (k+1)) U fu le dn
        rw[stV,HG.out,HGF.out]
        exact HD2.out),HF2.out⟩
       case measure=>simp[intOf];omega
     · obtain rfl:k=U.length:=by omega
       have hge:¬ (U.length:Int)<(U.length:Int):=by omega
       have c2:=HD.out.c2
       have f2:=HD.out.fr 2
       go_wp2_with fail
       go_end0
       refine ⟨rfl,?_,(HF.out.below HbB.out.2.1 HbB.out.2.2 HBw.out).trans ((Below.refl _ _).setCell HbB.out.1 _),Fr3.set HF.out bp 2 _⟩
       rw[<- HF1.out]
       exact HD.out.noU
def kpOf (k:List Bool) (i:Nat):Bool:=if k.length=0 then false else k.getD (i%k.length) false
theorem dFlush1_any (w:World) (i:Nat):Calls Tryz.prog 167 #[.int .i64 i] w fun e w'=>e=.returned (.bool true)/\∃ m,w'=w.drewN m:=by
 go_enter Tryz.func167,Tryz.ntmps167
 go_wp2
 go_ret
 exact ⟨rfl,0,rfl⟩
section
variable {w:World}{B bp bf bv:Nat}{u:Value}{F V:List (List Int)}{U:List (Nat × List Int)}{fu dn:Bool}{le:Int}
theorem DskAt.flags (h:DskAt w B bp bf bv u F V U fu le dn) (i:Nat) (x:Value) (fu':Bool) (le':Int) (dn':Bool)
 (hs:(#[.slice (some ⟨bf,0,none⟩) F.length F.length,.slice (some ⟨bv,0,none⟩) V.length V.length,u,.bool fu,.int .i64 le,.bool dn]:Array Value).setIfInBounds i x=#[.slice (some ⟨bf,0,none⟩) F.length F.length,.slice (some ⟨bv,0,none⟩) V.length V.length,u,.bool fu',.int .i64 le',.bool dn']):
 DskAt (w.setCell ⟨bp,i,none⟩ x) B bp bf bv u F V U fu' le' dn'/\Below B w (w.setCell ⟨bp,i,none⟩ x):=by
 have oth:∀ {k:Nat},k≠bp->(w.setCell ⟨bp,i,none⟩ x).heap[k]? =w.heap[k]? :=fun hk=>heap_setCell_other _ _ _ _ hk
 refine ⟨⟨h.bB,h.ne,?_,?_,?_,⟨h.hu.1,?_⟩,h.une,h.okF,h.okV,h.okU,h.len,h.max⟩,(Below.refl _ _).setCell h.bB.1 _⟩
 · have:=heap_setCell_same w bp i _ _ x h.hp
   rw[hs] at this;exact this
 · rw[oth (Ne.symm h.ne.1)];exact h.hf
 · rw[oth (Ne.symm h.ne.2.1)];exact h.hv
 · rcases h.hu.2 with h0| ⟨g,cap,cur,hv,hg,hh,r⟩
   · exact .inl h0
   · exact .inr ⟨g,cap,cur,hv,hg,by rw[oth (fun e=>h.une.1 (by rw[hv,<- e];rfl))];exact hh,r⟩
end
def pOk (fu:Bool) (le:Int) (dn:Bool):Bool:=!dn && (!fu || !decide (le=0))
def pLe (fu:Bool) (le:Int) (dn:Bool):Int:=if dn=false/\fu=true/\le≠0 then le-1 else le
def pDn (fu:Bool) (le:Int) (dn:Bool):Bool:=dn || (fu && decide (le=0))
section
variable {w:World}{B bp bf bv:Nat}{u:Value}{F V:List (List Int)}{U:List (Nat × List Int)}{fu dn:Bool}{le:Int}
theorem dPowered_any (h:DskAt w B bp bf bv u F V U fu le dn) (h0:0<=le) (h1:le<=9223372036854775807):
 Calls Tryz.prog 165 #[.pointer (some ⟨bp,0,none⟩)] w fun e w'=>e=.returned (.bool (pOk fu le dn))/\DskAt w' B bp bf bv u F V U fu (pLe fu le dn) (pDn fu le dn)/\Wrote w w' bp:=by
 have c3:=h.c3
 have c4:=h.c4
 have c5:=h.c5
 have f4:=h.fr 4
 have f5:=h.fr 5
 cases dn
 · cases fu
   · have H:=Lib.hid h
     clear h
     go_enter Tryz.func165,Tryz.ntmps165
     go_wp2
     go_ret
     exact ⟨rfl,by simpa [pLe,pDn] using H.out,Wrote.refl _ _⟩
   · by_cases hl:le=0
     · have H:=Lib.hid ((h.flags 5 (.bool true) true le true rfl).1)
       subst hl
       clear h
       go_enter Tryz.func165,Tryz.ntmps165
       go_wp2
       go_ret
       exact ⟨rfl,by simpa [pLe,pDn] using H.out,Wrote.setCell _ _ _ _⟩
     · have H:=Lib.hid ((h.flags 4 (.int .i64 (le-1)) true (le-1) false rfl).1)
       have hlb:(le==0)=false:=by simpa using hl
       have HL:=Lib.hid hl
       clear h
       go_enter Tryz.func165,Tryz.ntmps165
       go_wp2
       go_ret
       have hl:=HL.out
       exact ⟨by simp[pOk,hl],by simpa [pLe,pDn,hl] using H.out,Wrote.setCell _ _ _ _⟩
 · have H:=Lib.hid h
   clear h
   go_enter Tryz.func165,Tryz.ntmps165
   go_wp2
   go_ret
   exact ⟨rfl,by simpa [pLe,pDn] using H.out,Wrote.refl _ _⟩
theorem BSl.apartP (h:DskAt w B bp bf bv u F V U fu le dn) {v:Value}{l:List Int} (hv:BSl w v l) {W:World} (hw:Wrote w W bp):BSl W v l:=by
 refine ⟨hv.1,?_⟩
 rcases hv.2 with h0| ⟨a,cap,hva,hcap,hc⟩
 · exact .inl h0
 · refine .inr ⟨a,cap,hva,hcap,fun j hj=>?_⟩
   obtain ⟨h1,h2,h3⟩:=hc j hj
   refine ⟨by rw[hw.2.2.2.1];exact h1,h2,?_⟩
   have hne:a.block≠bp:=fun e=>by
    rw[e,cell_of_row _ _ _ _ _ _ h.hp] at h3
    obtain ⟨ao,cu,hu⟩:=h.shapeU
    rw[hu] at h3
    have:a.off+j=0\/a.off+j=1\/a.off+j=2\/a.off+j=3\/a.off+j=4\/a.off+j=5\/6<=a.off+j:=by omega
    rcases this with e|e|e|e|e|e|e
    · rw[e] at h3;simp at h3
    · rw[e] at h3;simp at h3
    · rw[e] at h3;simp at h3
    · rw[e] at h3;simp at h3
    · rw[e] at h3;simp at h3
    · rw[e] at h3;simp at h3
    · rw[Array.getElem?_eq_none (by simpa using e)] at h3;cases h3
   rw[World.cell?_of_block (a:=⟨a.block,a.off+j,none⟩) (w:=w) (hw.2.2.2.2 _ hne)]
   exact h3
end
structure FrU (w W:World) (bp bf bv:Nat) (u u':Value):Prop where
 os:W.os=w.os
 tape:W.tape=w.tape
 output:W.output=w.output
 size:w.heap.size<=W.heap.size
 block:∀ k,k<w.heap.size->k≠bp->k≠bf->k≠bv->u.ownBlock≠some k->W.heap[k]? =w.heap[k]?
 own:∀ k,u'.ownBlock=some k->u.ownBlock=some k\/w.heap.size<=k
theorem dWrite_off {w:World}{B bp bf bv:Nat}{u:Value}{F V:List (List Int)}{U:List (Nat × List Int)}{fu dn:Bool}{le:Int} (h:DskAt w B bp bf bv u F V U fu le dn) (h0:0<=le) (h1:le<=9223372036854775807) (n:Int) {v:Value}{l:List Int} (hv:BSl w v l) (hy:(0<=n/\n<V.length)/\l.length=256) (hp:pOk fu le dn=false):
 Calls Tryz.prog 164 #[.pointer (some ⟨bp,0,none⟩),.int .i64 n,v] w fun e w'=>e=.returned (.int .i64 2)/\DskAt w' B bp bf bv u F V U fu (pLe fu le dn) (pDn fu le dn)/\Wrote w w' bp:=by
 have KP:=Lib.hid (dPowered_any h h0 h1)
 have KF:=Lib.hid (dFits_at h n hv)
 rw[hp] at KP
 rw[decide_eq_true hy] at KF
 clear h hv hy
 go_enter Tryz.func164,Tryz.ntmps164
 go_wp2_with (first
  |(go_at_call 85;refine KF.out.mono ?_;rintro e w' ⟨rfl,rfl⟩)
  |(go_at_call 165;refine KP.out.mono ?_;rintro e w2 ⟨rfl,hd2,hw2⟩))
 go_ret
 exact ⟨rfl,hd2,hw2⟩
attribute [-go_sem] Instr.build Instr.buildSlice loadCellsFrom
set_option maxRecDepth 100000 in
set_option maxHeartbeats 3000000 in
theorem dWrite_on {w:World}{B bp bf bv:Nat}{u:Value}{F V:List (List Int)}{U:List (Nat × List Int)}{fu dn:Bool}{le:Int} (h:DskAt w B bp bf bv u F V U fu le dn) (h0:0<=le) (h1:le<=9223372036854775807) (hp:pOk fu le dn=true) (n:Nat) (hn:n<V.length) {v:Value}{l:List Int} (hv:BSl w v l) (hl:l.length=256) (hU:U.length<=1000000):
 Calls Tryz.prog 164 #[.pointer (some ⟨bp,0,none⟩),.int .i64 n,v] w fun e w'=>e=.returned (.int .i64 0)/\∃ u',DskAt w' B bp bf bv u' F (V.set n l) (U ++ [(n,l)]) fu (pLe fu le dn) (pDn fu le dn)/\Below B w w'/\FrU w w' bp bf bv u u':=by
 have KF:=Lib.hid (dFits_at h n hv)
 have KP:=Lib.hid (dPowered_any h h0 h1)
 rw[hp] at KP
 have HOLD:=Lib.hid h
 have HVOLD:=Lib.hid (fun W (hw:Wrote w W bp)=>hv.apartP h hw)
 generalize pLe fu le dn=le' at KP |-
 generalize pDn fu le dn=dn' at KP |-
 have hBw:B<=w.heap.size:=by
  have h1:=(Array.getElem?_eq_some_iff.1 h.hp).1
  have:=h.bB
  omega
 have hd:decide ((0<=(n:Int)/\(n:Int)<V.length)/\l.length=256)=true:=decide_eq_true ⟨by omega,hl⟩
 have hn':(n:Int)<V.length:=by omega
 have HL:Hid ((cB l).length=256):=by show _=_;rw[cB_length,hl]
 have HB:Hid (Blk l):=⟨hl,hv.1⟩
 have HZ:=Lib.hid zB_length
 have hone:∀ v∈zB,v.oneCell'=true:=fun v hv=>by rw[List.eq_of_mem_replicate hv];rfl
 have HH:=Lib.hid hl
 clear hl
 go_enter Tryz.func164,Tryz.ntmps164
 go_wp2_with (first
  |(go_at_call 85;refine KF.out.mono ?_;rintro e w' ⟨rfl,rfl⟩;rw[hd])
  |(go_at_call 165;refine KP.out.mono ?_;rintro e w0 ⟨rfl,hd0,hw0⟩
    have HV0:=Lib.hid (HVOLD.out _ hw0))
  |(go_at_call 86;refine (dBlockOf_any HV0.out HH.out).mono ?_;rintro e w1 ⟨rfl,hb1⟩)
  |with_reducible refine wpList_allocB _ rfl rfl ?_
  |(refine wpList_storeB _ rfl _ _ (by rfl) _ 151 zB (cB l) (by rfl) (by rfl) (heap_alloc_last _ _) HZ.out HL.out (cB_one l) ?_
    rw[World.setRow_alloc_new]))
 have HW0:=Lib.hid hw0
 have HBW:Hid (Below B w w0):=Lib.hid (hw0.below h.bB.1)
 have hBw:B<=w0.heap.size:=Nat.le_trans hBw HBW.out.size
 clear h hv KF KP HOLD HVOLD hw0
 have h:=hd0
 have hv:=HV0.out
 have hb2:Below w0.heap.size w0 (w1.alloc (.cells (cB l).toArray 151)):=hb1.alloc hb1.size _
 obtain ⟨H1,hH1⟩:∃ H1,H1=w1.heap.size:=⟨_,rfl⟩
 have hrow:(w1.alloc (.cells (cB l).toArray 151)).heap[H1]? =some (.cells (cB l).toArray 151 (0,0)):=by rw[hH1];exact heap_alloc_last _ _
 rw[<- hH1]
 have hlt1:bp<H1/\bf<H1/\bv<H1:=by
  have h1:=(Array.getElem?_eq_some_iff.1 h.hp).1
  have h2:=(Array.getElem?_eq_some_iff.1 h.hf).1
  have h3:=(Array.getElem?_eq_some_iff.1 h.hv).1
  have:=hb1.size
  omega
 have HH1:=Lib.hid hH1
 clear hH1
 generalize w1.alloc (.cells (cB l).toArray 151)=W1 at hb2 hrow |-
 have h1:=h.below hb2
 have rL:W1.rangeAt H1 0 (cB l):=range_row hrow (by rw[List.drop_zero,List.take_length])
 have tV:W1.there bv (n*256) (cB l).length:=there_row h1.hv (by rw[HL.out,flat_length (flatB_len h.okV)];omega)
 have c1:=h1.c1
 have hone2:=cB_one l
 have hub:=Tryz.underlying151
 have hib:(Tryz.prog.info? 151).map (·.size)=some (cB l).length:=by rw[sizeB,HL.out]
 have hlen:=HL.out
 have H:=Lib.hid h
 have hS1:W1.drew.cell? ⟨bp,1,none⟩=some (.slice (some ⟨bv,0,none⟩) V.length V.length)/\W1.drew.rangeAt H1 0 (cB l)/\W1.drew.there bv (n*256) (cB l).length:=⟨c1,rL,tV⟩
 have hS2:(W1.drew.setCells bv (n*256) (cB l)).cell? ⟨bp,1,none⟩=some (.slice (some ⟨bv,0,none⟩) V.length V.length)/\(W1.drew.setCells bv (n*256) (cB l)).rangeAt H1 0 (cB l)/\(W1.drew.setCells bv (n*256) (cB l)).there bv (n*256) (cB l).length:=
  ⟨by rw[World.cell?_setCells_out _ _ _ _ _ (fun e=>absurd e h.ne.2.1)];exact c1,World.rangeAt_setCells_apart hS1.2.1 _ _ _ (.inl (by omega)),World.there_setCells hS1.2.2 _ _ _⟩
 clear h1 hrow h hv
 go_region_held (fun W=>W.cell? ⟨bp,1,none⟩=some (.slice (some ⟨bv,0,none⟩) V.length V.length)/\W.rangeAt H1 0 (cB l)/\W.there bv (n*256) (cB l).length) (first|exact hS1|exact hS2) (fail)
 go_wp2_with fail
 obtain ⟨h2,hwr⟩:=H.out.setV (W:=W1.drew) (hb2.drew) n hn l HB.out
 have hrow2:(W1.drew.setCells bv (n*256) (cB l)).rangeAt H1 0 (cB l):=hS2.2.1
 have hb3:Below B w0 (W1.drew.setCells bv (n*256) (cB l)):=((hb2.mono hBw).drew).trans (hwr.below H.out.bB.2.2)
 have hsz2:H1<(W1.drew.setCells bv (n*256) (cB l)).heap.size:=World.block_lt_of_cell? _ _ (hrow2 0 _ (List.getElem?_eq_getElem (by omega)))
 have hfr2:∀ k,k<w0.heap.size->k≠bv->(W1.drew.setCells bv (n*256) (cB l)).heap[k]? =w0.heap[k]? :=fun k hk hne=>(hwr.2.2.2.2 k hne).trans ((hb2.drew).block k hk)
 generalize W1.drew.setCells bv (n*256) (cB l)=W2 at h2 hrow2 hb3 hsz2 hfr2 |-
 clear hS1 hS2 rL tV c1 hwr hb2
 have HFR2:=Lib.hid hfr2
 clear hfr2
 have hB2:B<=W2.heap.size:=Nat.le_trans hBw hb3.size
 obtain ⟨i,hi1,hi2,hi3,hi4⟩:=info_parts infoW
 have c2:=h2.c2
 have fz:=h2.fr 2
 have hbd:=fun W=>build_write W n l HH.out
 have hbs:=fun W=>slice_write W (.int .i64 n :: cB l) (by rw[List.length_cons,HL.out])
 have hown:=h2.hu
 have hcu:(Value.int .i64 n :: cB l).length=257:=by rw[List.length_cons,HL.out]
 have hcu1:∀ v∈(Value.int .i64 n :: cB l),v.oneCell'=true:=cU_one (n,l)
 have hS1:W2.drew.rangeAt H1 0 (cB l):=hrow2
 have hbpH:bp≠H1:=by omega
 have huH:u.ownBlock≠some H1:=fun e=>by have:=(H.out.hu.lt _ e).2;have:=hb1.size;have:=HH1.out;omega
 have hB2':=Lib.hid hB2
 have hzz:(Value.agg (Value.int .i64 0 :: zB).toArray).cells.size=257:=by show (Value.int .i64 0 :: zB).toArray.size=257;simp[zB_length]
 have hc3:∀ w3,((W2.alloc (.cells (Value.int .i64 n :: cB l).toArray 155)).drew).grownBy w3 u.ownBlock->w3.cell? ⟨bp,2,none⟩=some u/\w3.frozen? ⟨bp,2,none⟩=false:=fun w3 hg=>by
  have hlt:bp<W2.heap.size:=(Array.getElem?_eq_some_iff.1 h2.hp).1
  have hlt':bp<((W2.alloc (.cells (Value.int .i64 n :: cB l).toArray 155)).drew).heap.size:=by simp;omega
  rw[hg.cell_far _ hlt' (Ne.symm h2.une.1),hg.frozen_far _ hlt' (Ne.symm h2.une.1)]
  exact ⟨by rw[World.cell?_drew,World.cell?_alloc_lt _ _ _ hlt];exact c2,by rw[World.frozen?_drew,World.frozen?_alloc_past _ _ _ hlt];exact fz⟩
 have hap:=fun w3 hgrow g cap hown3 hat=>h2.pushU (W:=(W2.alloc (.cells (Value.int .i64 n :: cB l).toArray 155)).drew) (w3:=w3) (((Below.refl _ _).alloc (Nat.le_refl _) _).drew) hB2 hgrow g cap (n,l) ⟨by rw[List.length_set];exact hn,HB.out⟩ hown3 hat
 have hcl:(loadCellsFrom ⟨H1,0,none⟩ 0 256 #[]).run Tryz.prog W2.drew=.ok (cB l).toArray W2.drew:=by
  have:=run_loadCells_list (P:=Tryz.prog) W2.drew ⟨H1,0,none⟩ (cB l) (fun j v hv=>by rw[Addr.add_mid];exact hS1 j v hv)
  rw[HL.out] at this;exact this
 have hltbp:bp<W2.heap.size:=(Array.getElem?_eq_some_iff.1 h2.hp).1
 clear hub hib hlen
 go_region_law
  ((refine step_append_lies _ (by rfl) _ _ _ (by rfl) B 155 i _ 257 264 Tryz.underlying129 hi1 hi2 hi3 hi4 hzz (by omega) u U.length (U.flatMap cU) (by rfl) ((hown.alloc _).drew)
     ⟨W2.heap.size,0,none⟩ 1 1 (Value.int .i64 n :: cB l) (by rfl) hcu (World.news_of_block (cs:=(Value.int .i64 n :: cB l).toArray) (t:=155) (fr:=(0,0)) (heap_alloc_new W2 _)) hcu1
     (by omega) (by simp only[maxLen];omega) (by omega) (Nat.le_trans hB2 (by simp)) (W2.heap.size+1) (by simp) ?_;intro gg cap w3 hown3 hgrow hat hlt;obtain ⟨c3,f3⟩:=hc3 w3 hgrow))
 all_goals
  obtain ⟨hd3,hb4⟩:=hap w3 hgrow gg cap hown3 (by simpa using hat)
  clear hap hc3
  go_wp2_with fail
  go_ret
  have hbA:=(HBW.out.trans hb3).trans hb4
  refine ⟨rfl,_,hd3,hbA,hbA.os,hbA.tape,hbA.output,hbA.size,fun k hk k1 k2 k3 k4=>?_,fun k hk=>?_⟩
  · have e0:k<w0.heap.size:=Nat.lt_of_lt_of_le hk HBW.out.size
    have e1:k<W2.heap.size:=Nat.lt_of_lt_of_le e0 hb3.size
    have e2:k<((W2.alloc (.cells (Value.int .i64 n :: cB l).toArray 155)).drew).heap.size:=by simp;omega
    rw[heap_setCell_other _ _ _ _ k1,hgrow.block k e2 (Ne.symm k4)]
    exact (((Below.refl W2.heap.size W2).alloc (Nat.le_refl _) _).block k e1).trans ((HFR2.out k e0 k3).trans (HW0.out.2.2.2.2 k k1))
  · obtain rfl:gg=k:=by simpa [Value.ownBlock] using hk
    rcases hat with hat|hat
    · exact .inl hat
    · right
      have:=hb3.size
      have:=HBW.out.size
      omega
end Go.Proofs.YtedabomlfcghoaaGreat
