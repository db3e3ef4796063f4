/- What the law rests on: part 6. -/
import Derived.Deep.Cut
import Derived.Test.YtedabomlfcghoaaGreatKF5
set_option linter.unusedVariables false
namespace Go.Proofs.YtedabomlfcghoaaGreat
set_option maxRecDepth 100000
open Go.RowKit
def BBSl (w:World) (v:Value) (L:List (List Int)):Prop:=
 (v=.slice none 0 0/\L=[])\/∃ a cap,v=.slice (some a) L.length cap/\L.length<=cap/\∀ j,j<L.length->a.block<w.heap.size/\a.spot=none/\
   ∃ u,w.cell? ⟨a.block,a.off+j,none⟩=some u/\BSl w u (L.getD j [])
theorem BBSl.keep {w w':World}{v:Value}{L:List (List Int)} (h:BBSl w v L) (hs:w.heap.size<=w'.heap.size) (hb:∀ p:Addr,p.block<w.heap.size->w'.cell? p=w.cell? p):BBSl w' v L:=by
 rcases h with h| ⟨a,cap,hv,hcap,hc⟩
 · exact .inl h
 · refine .inr ⟨a,cap,hv,hcap,fun j hj=>?_⟩
   obtain ⟨h1,h2,u,h3,h4⟩:=hc j hj
   exact ⟨Nat.lt_of_lt_of_le h1 hs,h2,u,by rw[hb _ (by exact h1),h3],h4.keep hs hb⟩
theorem BBSl.below {w w':World}{v:Value}{L:List (List Int)} (h:BBSl w v L) (hb:Below w.heap.size w w'):BBSl w' v L:=
 h.keep hb.size fun _ hp=>hb.cell hp
theorem BBSl.open' {w:World}{v:Value}{L:List (List Int)} (h:BBSl w v L):∃ ao cap,v=.slice ao L.length cap/\L.length<=cap/\(0<L.length->∃ b off,ao=some ⟨b,off,none⟩/\b<w.heap.size/\
 ∀ j,j<L.length->∃ u,w.cell? ⟨b,off+j,none⟩=some u/\BSl w u (L.getD j [])):=by
 rcases h with ⟨hv,hk⟩| ⟨⟨b,off,spot⟩,cap,hv,hcap,hc⟩
 · exact ⟨none,0,by rw[hv,hk];rfl,by rw[hk];exact Nat.le_refl _,fun h=>by rw[hk] at h;simp at h⟩
 · refine ⟨_,cap,hv,hcap,fun h0=>?_⟩
   obtain ⟨h1,h2,_⟩:=hc 0 h0
   obtain rfl:spot=none:=h2
   exact ⟨b,off,rfl,h1,fun j hj=>(hc j hj).2.2⟩
theorem BBSl.shape {w:World}{v:Value}{L:List (List Int)} (h:BBSl w v L):∃ ao cap,v=.slice ao L.length cap/\L.length<=cap:=by
 obtain ⟨ao,cap,hv,hc,_⟩:=h.open'
 exact ⟨ao,cap,hv,hc⟩
theorem BSl.one {w:World}{v:Value}{l:List Int} (h:BSl w v l):v.oneCell'=true:=by
 obtain ⟨ao,cap,rfl,_⟩:=h.shape
 rfl
def BElt (w:World) (B:Nat) (x:Value) (l:List Int):Prop:=
 BSl w x l/\(0<l.length->∃ b off cap,x=.slice (some ⟨b,off,none⟩) l.length cap/\b<w.heap.size/\(b<B\/∃ cur,w.heap[b]? =some (.cells cur 5 (0,0))))
theorem BElt.grown {w w':World}{B:Nat}{x:Value}{l:List Int} (h:BElt w B x l) {row:Option Nat} (hrow:∀ g,row=some g->B<=g/\∃ cur,w.heap[g]? =some (.cells cur 30 (0,0))) (hg:w.grownBy w' row):BElt w' B x l:=by
 by_cases h0:0<l.length
 · obtain ⟨b,off,cap,rfl,hb,hor⟩:=h.2 h0
   have hne:some b≠row:=fun e=>by
    obtain ⟨h1,cur,h2⟩:=hrow b e.symm
    rcases hor with h3| ⟨cur',h3⟩
    · omega
    · rw[h3] at h2
      injection h2 with h2
      injection h2 with _ h4
      exact absurd h4 (by decide)
   have hbk:=hg.block b hb hne
   refine ⟨⟨h.1.1,?_⟩,fun _=>⟨b,off,cap,rfl,Nat.lt_of_lt_of_le hb hg.size,hor.elim .inl fun ⟨cur,hc⟩=>.inr ⟨cur,by rw[hbk];exact hc⟩⟩⟩
   rcases h.1.2 with ⟨hv,_⟩| ⟨a,cap',hv,hcap,hc⟩
   · simp at hv
   · obtain ⟨rfl,rfl⟩:a=⟨b,off,none⟩/\cap=cap':=⟨(Option.some.inj (Value.slice.inj hv).1).symm,(Value.slice.inj hv).2.2⟩
     refine .inr ⟨_,cap,rfl,hcap,fun j hj=>?_⟩
     obtain ⟨h1,h2,h3⟩:=hc j hj
     exact ⟨Nat.lt_of_lt_of_le h1 hg.size,rfl,by rw[World.cell?_of_block (a:=⟨b,off+j,none⟩) hbk];exact h3⟩
 · obtain rfl:l=[]:=List.eq_nil_of_length_eq_zero (by omega)
   refine ⟨⟨byt_nil,?_⟩,fun h=>absurd h h0⟩
   rcases h.1.2 with h| ⟨a,cap,hv,hcap,_⟩
   · exact .inl h
   · exact .inr ⟨a,cap,hv,hcap,fun j hj=>absurd hj (Nat.not_lt_zero _)⟩
theorem grown_of_below {w w':World} (h:Below w.heap.size w w'):w.grownBy w' none:=⟨h.os,h.tape,h.output,h.size,fun k hk _=>h.block k hk⟩
theorem BElt.below {w w':World}{B:Nat}{x:Value}{l:List Int} (h:BElt w B x l) (hb:Below w.heap.size w w'):BElt w' B x l:=
 h.grown (row:=none) (fun g e=>by cases e) (grown_of_below hb)
theorem OB.elt {w:World}{B B':Nat}{x:Value}{l:List Int} (h:OB w B' x l):BElt w B x l:=by
 refine ⟨h.bsl,fun h0=>?_⟩
 rcases h.2.2 with ⟨_,hl⟩| ⟨g,cap,cur,hv,_,hh,_⟩
 · omega
 · exact ⟨g,0,cap,hv,(Array.getElem?_eq_some_iff.1 hh).1,.inr ⟨cur,hh⟩⟩
def BBE (w:World) (B:Nat) (v:Value) (L:List (List Int)):Prop:=
 (v=.slice none 0 0/\L=[])\/∃ a cap,v=.slice (some a) L.length cap/\L.length<=cap/\∀ j,j<L.length->a.block<w.heap.size/\a.spot=none/\
   ∃ u,w.cell? ⟨a.block,a.off+j,none⟩=some u/\BElt w B u (L.getD j [])
theorem BBE.below {w w':World}{B:Nat}{v:Value}{L:List (List Int)} (h:BBE w B v L) (hb:Below w.heap.size w w'):BBE w' B v L:=by
 rcases h with h| ⟨a,cap,hv,hcap,hc⟩
 · exact .inl h
 · refine .inr ⟨a,cap,hv,hcap,fun j hj=>?_⟩
   obtain ⟨h1,h2,u,h3,h4⟩:=hc j hj
   exact ⟨Nat.lt_of_lt_of_le h1 hb.size,h2,u,by rw[hb.cell (p:=⟨a.block,a.off+j,none⟩) h1,h3],h4.below hb⟩
theorem BBE.sl {w:World}{B:Nat}{v:Value}{L:List (List Int)} (h:BBE w B v L):BBSl w v L:=by
 rcases h with h| ⟨a,cap,hv,hcap,hc⟩
 · exact .inl h
 · refine .inr ⟨a,cap,hv,hcap,fun j hj=>?_⟩
   obtain ⟨h1,h2,u,h3,h4⟩:=hc j hj
   exact ⟨h1,h2,u,h3,h4.1⟩
def BBR (w:World) (B:Nat) (v:Value) (L:List (List Int)):Prop:=
 ∃ vs:List Value,vs.length=L.length/\(∀ j,j<L.length->BElt w B (vs.getD j undef) (L.getD j []))/\w.ownsRow B 30 1 v L.length vs
theorem BBR.be {w:World}{B:Nat}{v:Value}{L:List (List Int)} (h:BBR w B v L):BBE w B v L:=by
 obtain ⟨vs,hl,hr,ho⟩:=h
 rcases ho.2 with ⟨hv,hl0⟩| ⟨g,cap,cur,hv,hg,hh,hnc,hcm,hcs,ht⟩
 · exact .inl ⟨hv,List.eq_nil_of_length_eq_zero hl0⟩
 · refine .inr ⟨_,cap,hv,hnc,fun j hj=>⟨(Array.getElem?_eq_some_iff.1 hh).1,rfl,vs.getD j undef,?_,hr j hj⟩⟩
   show w.cell? ⟨g,0+j,none⟩=_
   rw[Nat.zero_add,cell_of_row _ _ _ _ _ _ hh]
   have:(cur.toList.take (L.length*1))[j]? =vs[j]? :=by rw[ht]
   rw[List.getElem?_take,if_pos (by omega)] at this
   simpa [List.getD_eq_getElem?_getD,show j<vs.length by omega] using this
theorem BBR.sl {w:World}{B:Nat}{v:Value}{L:List (List Int)} (h:BBR w B v L):BBSl w v L:=h.be.sl
theorem BBR.below {w w':World}{B:Nat}{v:Value}{L:List (List Int)} (h:BBR w B v L) (hb:Below w.heap.size w w'):BBR w' B v L:=by
 obtain ⟨vs,hl,hr,ho⟩:=h
 refine ⟨vs,hl,fun j hj=>(hr j hj).below hb,ho.1,?_⟩
 rcases ho.2 with h| ⟨g,cap,cur,hv,hg,hh,r⟩
 · exact .inl h
 · exact .inr ⟨g,cap,cur,hv,hg,by rw[hb.block g (Array.getElem?_eq_some_iff.1 hh).1];exact hh,r⟩
theorem infoBy:(Tryz.prog.info? 30).map (fun i=>(i.zero,i.size,i.bytes))=some (some (.slice none 0 0),1,24):=by kernel_rfl
theorem bbr_one {w1:World}{B:Nat}{x:Value}{l:List Int} (hx:BElt w1 B x l) (hB:B<=w1.heap.size):
 BBR (w1.alloc (.cells #[x] 30)) B (.slice (some ⟨w1.heap.size,0,none⟩) 1 1) [l]:=by
 refine ⟨[x],rfl,fun j hj=>?_,rfl,.inr ⟨w1.heap.size,1,#[x],rfl,hB,heap_alloc_new w1 _,Nat.le_refl _,by decide,rfl,rfl⟩⟩
 obtain rfl:j=0:=by simpa using hj
 exact hx.below (below_box _ _)
def BB2 (w:World) (B E:Nat) (v:Value) (L:List (List Int)):Prop:=
 ∃ vs:List Value,vs.length=L.length/\(∀ j,j<L.length->BElt w E (vs.getD j undef) (L.getD j []))/\w.ownsRow B 30 1 v L.length vs
theorem BB2.lower {w:World}{B B' E:Nat}{v:Value}{L:List (List Int)} (h:BB2 w B E v L) (hB:B'<=B):BB2 w B' E v L:=by
 obtain ⟨vs,hl,hr,ho⟩:=h
 exact ⟨vs,hl,hr,ho.1,ho.2.imp id fun ⟨g,cap,cur,hv,hg,r⟩=>⟨g,cap,cur,hv,Nat.le_trans hB hg,r⟩⟩
theorem BB2.bbr {w:World}{B:Nat}{v:Value}{L:List (List Int)} (h:BB2 w B B v L):BBR w B v L:=h
theorem BBR.bb2 {w:World}{B:Nat}{v:Value}{L:List (List Int)} (h:BBR w B v L):BB2 w B B v L:=h
theorem BB2.zero {w:World}{B:Nat}{v:Value}{L:List (List Int)} (h:BB2 w B 0 v L):BBR w 0 v L:=h.lower (Nat.zero_le _)
theorem BB2.below {w w':World}{B E:Nat}{v:Value}{L:List (List Int)} (h:BB2 w B E v L) (hb:Below w.heap.size w w'):BB2 w' B E v L:=by
 obtain ⟨vs,hl,hr,ho⟩:=h
 refine ⟨vs,hl,fun j hj=>(hr j hj).below hb,ho.1,?_⟩
 rcases ho.2 with h| ⟨g,cap,cur,hv,hg,hh,r⟩
 · exact .inl h
 · exact .inr ⟨g,cap,cur,hv,hg,by rw[hb.block g (Array.getElem?_eq_some_iff.1 hh).1];exact hh,r⟩
theorem bb2_one {w1:World}{B E:Nat}{x:Value}{l:List Int} (hx:BElt w1 E x l) (hB:B<=w1.heap.size):
 BB2 (w1.alloc (.cells #[x] 30)) B E (.slice (some ⟨w1.heap.size,0,none⟩) 1 1) [l]:=by
 refine ⟨[x],rfl,fun j hj=>?_,rfl,.inr ⟨w1.heap.size,1,#[x],rfl,hB,heap_alloc_new w1 _,Nat.le_refl _,by decide,rfl,rfl⟩⟩
 obtain rfl:j=0:=by simpa using hj
 exact hx.below (below_box _ _)
theorem run_append_bb2 (S:TypeId) (hS:Tryz.prog.underlying S=some (.slice 30)) (w:World) (B E:Nat) (hEB:E<=B) (ty:TypeId) (v:Value) (L:List (List Int)) (hown:BB2 w B E v L) (u:Value) (M:List (List Int)) (hr:BBE w E u M)
 (hlen:L.length+M.length<=1000000) (hB:B<=w.heap.size):
 ∃ v' w',(Builtin.append_ #[S,S] ty #[v,u]).run Tryz.prog w=.ok v' w'/\BB2 w' B E v' (L ++ M)/\Below B w w'/\w.grownBy w' v.ownBlock:=by
 obtain ⟨t,h2,h3,h4,h5⟩:=info_parts infoBy
 obtain ⟨vs,hvl,hve,ho⟩:=hown
 rcases hr with ⟨rfl,rfl⟩| ⟨⟨b,off,spot⟩,cap,rfl,hcap,hc⟩
 · have hrun:=run_append_owned_none (P:=Tryz.prog) (w:=w) B S ty 30 t 1 hS h2 v L.length vs ho
   exact ⟨v,w,hrun,by rw[List.append_nil];exact ⟨vs,hvl,hve,ho⟩,Below.refl _ _,World.grownBy.refl w _⟩
 · have hex:∀ j,j<M.length->∃ x,w.cell? ⟨b,off+j,none⟩=some x/\BElt w E x (M.getD j []):=fun j hj=>(hc j hj).2.2
   obtain ⟨f,hf⟩:∃ f:Nat->Value,∀ j,j<M.length->w.cell? ⟨b,off+j,none⟩=some (f j)/\BElt w E (f j) (M.getD j []):=by
    refine ⟨fun j=>if hj:j<M.length then (hex j hj).choose else undef,fun j hj=>?_⟩
    simp only[hj,dif_pos]
    exact (hex j hj).choose_spec
   have hsp:0<M.length->spot=none:=fun h0=>(hc 0 h0).2.1
   have hcells:∀ j x,((List.range M.length).map f)[j]? =some x->w.cell? (Addr.add ⟨b,off,spot⟩ j)=some x:=fun j x hj=>by
    have hjl:j<M.length:=by simpa using (List.getElem?_eq_some_iff.1 hj).1
    obtain rfl:=hsp (by omega)
    rw[Addr.add_lit,(hf j hjl).1,<- hj]
    simp[hjl]
   obtain ⟨v',w',hrun,h6,h7,_⟩:=run_append_own (P:=Tryz.prog) w B S ty 30 t _ 1 24 hS h2 h3 h4 h5 rfl (by decide) v L.length vs ho ⟨b,off,spot⟩ M.length cap ((List.range M.length).map f) (by simp) hcells (fun x hx=>by
    obtain ⟨j,hj,rfl⟩:=List.mem_map.1 hx
    exact (hf j (List.mem_range.1 hj)).2.1.one) (by simp only[maxLen];omega) (by omega) hB
   have hrow:∀ g,v.ownBlock=some g->E<=g/\∃ cur,w.heap[g]? =some (.cells cur 30 (0,0)):=fun g hg=>by
    rcases ho.2 with ⟨rfl,_⟩| ⟨g',cap',cur,rfl,hg',hh,_⟩
    · simp[Value.ownBlock] at hg
    · obtain rfl:g'=g:=by simpa [Value.ownBlock] using hg
      exact ⟨Nat.le_trans hEB hg',cur,hh⟩
   refine ⟨v',w',hrun,⟨vs ++ (List.range M.length).map f,by simp[hvl],fun j hj=>?_,by rw[List.length_append];exact h6⟩,(Below.refl _ _).grown h7 hB fun k hk=>(World.ownsRow.lt ho k hk).1,h7⟩
   rw[List.length_append] at hj
   by_cases e:j<L.length
   · have:=(hve j e).grown hrow h7
     rw[List.getD_eq_getElem?_getD,List.getD_eq_getElem?_getD,List.getElem?_append_left (by omega),List.getElem?_append_left e,<- List.getD_eq_getElem?_getD,<- List.getD_eq_getElem?_getD]
     exact this
   · have hjm:j-L.length<M.length:=by omega
     have:=(hf (j-L.length) hjm).2.grown hrow h7
     rw[List.getD_eq_getElem?_getD,List.getD_eq_getElem?_getD,List.getElem?_append_right (by omega),List.getElem?_append_right (by omega),hvl]
     rw[List.getD_eq_getElem?_getD] at this
     simpa [hjm] using this
theorem wpList_append_bb2 (S:TypeId) (hS:Tryz.prog.underlying S=some (.slice 30)) (w:World) {ops:Array Oper}{rest:List Oper}{o:Oper}{a:Act}{Q:Exit->Act->World->Prop} (hgd:o.guard=none) (s y:Operand)
 (ho:o.op=.call { callee:=.builtin .append,args:=#[s,y],argTypes:=#[S,S] })
 (B E:Nat) (hEB:E<=B) (v:Value) (L:List (List Int)) (hs:a.eval s=v) (hown:BB2 w B E v L) (u:Value) (M:List (List Int)) (hy:a.eval y=u) (hr:BBE w E u M)
 (hlen:L.length+M.length<=1000000) (hB:B<=w.heap.size)
 (h:∀ v' w',BB2 w' B E v' (L ++ M)->Below B w w'->wpList Tryz.prog ops Q rest (a.put o.dst v') w'):wpList Tryz.prog ops Q (o :: rest) a w:=by
 obtain ⟨v',w',hr,h2,h3,_⟩:=run_append_bb2 S hS w B E hEB o.type v L hown u M hr hlen hB
 refine wpList_plain hgd fun K hK=>?_
 unfold Oper.wp execOp
 simp only[ho,resolve,invoke,builtin,Sem.run_bind,Sem.run_pure,Result.andThen_ok,List.map_toArray,List.map_cons,List.map_nil,hs,hy,hr]
 exact hK _ _ (h v' w' h2 h3)
theorem wpList_append_bb2one (S:TypeId) (hS:Tryz.prog.underlying S=some (.slice 30)) (w1:World) (x:Value) (l:List Int) {ops:Array Oper}{rest:List Oper}{o:Oper}{a:Act}{Q:Exit->Act->World->Prop} (hgd:o.guard=none) (s y:Operand)
 (ho:o.op=.call { callee:=.builtin .append,args:=#[s,y],argTypes:=#[S,S] })
 (B E:Nat) (hEB:E<=B) (v:Value) (L:List (List Int)) (hs:a.eval s=v) (hown:BB2 w1 B E v L) (hx:BElt w1 E x l) (q:Nat) (hy:a.eval y=.slice (some ⟨q,0,none⟩) 1 1) (hq:q=w1.heap.size) (hlen:L.length<=100000) (hB:B<=w1.heap.size)
 (h:∀ v' w',BB2 w' B E v' (L ++ [l])->Below B w1 w'->wpList Tryz.prog ops Q rest (a.put o.dst v') w'):wpList Tryz.prog ops Q (o :: rest) a (w1.alloc (.cells #[x] 30)):=by
 subst hq
 have hbel:Below w1.heap.size w1 (w1.alloc (.cells #[x] 30)):=below_box _ _
 have h1:BBE (w1.alloc (.cells #[x] 30)) E (.slice (some ⟨w1.heap.size,0,none⟩) 1 1) [l]:=(bbr_one hx (B:=E) (Nat.le_trans hEB hB)).be
 refine wpList_append_bb2 S hS _ hgd s y ho B E hEB v L hs (hown.below hbel) _ [l] hy h1 (by simp;omega) (by simp;omega) fun v' w' h1 h2=>?_
 exact h v' w' h1 ((hbel.mono hB).trans h2)
def ISl (w:World) (v:Value) (l:List Int):Prop:=
 (v=.slice none 0 0/\l=[])\/∃ a cap,v=.slice (some a) l.length cap/\∀ j,j<l.length->a.block<w.heap.size/\a.spot=none/\w.cell? ⟨a.block,a.off+j,none⟩=some (.int .i64 (l.getD j 0))
theorem ISl.below {w w':World}{v:Value}{l:List Int} (h:ISl w v l) (hb:Below w.heap.size w w'):ISl w' v l:=by
 rcases h with h| ⟨a,cap,hv,hc⟩
 · exact .inl h
 · refine .inr ⟨a,cap,hv,fun j hj=>?_⟩
   obtain ⟨h1,h2,h3⟩:=hc j hj
   exact ⟨Nat.lt_of_lt_of_le h1 hb.size,h2,by rw[hb.cell (p:=⟨a.block,a.off+j,none⟩) h1,h3]⟩
theorem ISl.open' {w:World}{v:Value}{l:List Int} (h:ISl w v l):∃ ao cap,v=.slice ao l.length cap/\(0<l.length->∃ b off,ao=some ⟨b,off,none⟩/\b<w.heap.size/\
 ∀ j,j<l.length->w.cell? ⟨b,off+j,none⟩=some (.int .i64 (l.getD j 0))):=by
 rcases h with ⟨hv,hk⟩| ⟨⟨b,off,spot⟩,cap,hv,hc⟩
 · exact ⟨none,0,by rw[hv,hk];rfl,fun h=>by rw[hk] at h;simp at h⟩
 · refine ⟨_,cap,hv,fun h0=>?_⟩
   obtain ⟨h1,h2,_⟩:=hc 0 h0
   obtain rfl:spot=none:=h2
   exact ⟨b,off,rfl,h1,fun j hj=>(hc j hj).2.2⟩
theorem ISl.at {w:World}{v:Value}{l:List Int} (h:ISl w v l) (h0:0<l.length):∃ b off cap,v=.slice (some ⟨b,off,none⟩) l.length cap/\b<w.heap.size/\
 ∀ j,j<l.length->w.cell? ⟨b,off+j,none⟩=some (.int .i64 (l.getD j 0)):=by
 obtain ⟨ao,cap,hv,hc⟩:=h.open'
 obtain ⟨b,off,rfl,h1,h2⟩:=hc h0
 exact ⟨b,off,cap,hv,h1,h2⟩
theorem ISl.shape {w:World}{v:Value}{l:List Int} (h:ISl w v l):∃ ao cap,v=.slice ao l.length cap:=by
 obtain ⟨ao,cap,hv,_⟩:=h.open'
 exact ⟨ao,cap,hv⟩
def iC (l:List Int):List Value:=l.map (Value.int .i64)
theorem iC_length (l:List Int):(iC l).length=l.length:=List.length_map _
theorem iC_one (l:List Int):∀ v∈iC l,v.oneCell'=true:=fun v hv=>by
 obtain ⟨x,_,rfl⟩:=List.mem_map.1 hv;rfl
def iO (l:List Int) (T:TypeId):Obj:=.cells (iC l).toArray T (0,0)
theorem io_cell {W:World}{g:Nat}{l:List Int}{T:TypeId} (h:W.heap[g]? =some (iO l T)) (k:Nat) (hk:k<l.length):W.cell? ⟨g,k,none⟩=some (.int .i64 (l.getD k 0)):=by
 rw[cell_of_row _ _ _ _ _ _ h]
 simp[iC,List.getD_eq_getElem?_getD,hk]
theorem io_free {W:World}{g:Nat}{l:List Int}{T:TypeId} (h:W.heap[g]? =some (iO l T)) (k:Nat):W.frozen? ⟨g,k,none⟩=false:=by
 simp[World.frozen?,h,iO]
theorem io_set {W:World}{g:Nat}{l:List Int}{T:TypeId} (h:W.heap[g]? =some (iO l T)) (j:Nat) (y:Int):(W.setCell ⟨g,j,none⟩ (.int .i64 y)).heap[g]? =some (iO (l.set j y) T):=by
 rw[heap_setCell_same W g j _ _ _ h]
 simp[iO,iC]
theorem io_range {W:World}{g:Nat}{l:List Int}{T:TypeId} (h:W.heap[g]? =some (iO l T)):W.rangeAt g 0 (iC l):=
 range_row h (by rw[List.drop_zero,List.take_length])
def IR (w:World) (B:Nat) (v:Value) (l:List Int):Prop:=w.ownsRow B 3 1 v l.length (iC l)
theorem IR.sl {w:World}{B:Nat}{v:Value}{l:List Int} (h:IR w B v l):ISl w v l:=by
 rcases h.2 with ⟨hv,hl⟩| ⟨g,cap,cur,hv,hg,hh,hnc,hcm,hcs,ht⟩
 · exact .inl ⟨hv,List.eq_nil_of_length_eq_zero hl⟩
 · refine .inr ⟨_,cap,hv,fun j hj=>⟨(Array.getElem?_eq_some_iff.1 hh).1,rfl,?_⟩⟩
   show w.cell? ⟨g,0+j,none⟩=_
   rw[Nat.zero_add,cell_of_row _ _ _ _ _ _ hh]
   have:(cur.toList.take (l.length*1))[j]? =(iC l)[j]? :=by rw[ht]
   rw[List.getElem?_take,if_pos (by omega)] at this
   simpa [iC,List.getD_eq_getElem?_getD,hj] using this
theorem IR.below {w w':World}{B:Nat}{v:Value}{l:List Int} (h:IR w B v l) (hb:Below w.heap.size w w'):IR w' B v l:=by
 refine ⟨h.1,?_⟩
 rcases h.2 with h| ⟨g,cap,cur,hv,hg,hh,r⟩
 · exact .inl h
 · exact .inr ⟨g,cap,cur,hv,hg,by rw[hb.block g (Array.getElem?_eq_some_iff.1 hh).1];exact hh,r⟩
theorem IR.of_row {w:World}{B g:Nat}{l:List Int} (hB:B<=g) (hg:w.heap[g]? =some (iO l 3)) (hm:l.length<=maxLen):
 IR w B (.slice (some ⟨g,0,none⟩) l.length l.length) l:=by
 refine ⟨by simp[iC],.inr ⟨g,l.length,_,rfl,hB,hg,Nat.le_refl _,hm,by simp[iC],?_⟩⟩
 rw[List.take_of_length_le (by simp[iC])]
theorem infoI64:(Tryz.prog.info? 3).map (fun i=>(i.zero,i.size,i.bytes))=some (some (.int .i64 0),1,8):=by kernel_rfl
theorem made_int (n:Nat):madeCells (Value.int .i64 0).cells n=(iC (List.replicate n 0)).toArray:=by
 apply Array.ext'
 rw[show (Value.int .i64 0).cells=#[Value.int .i64 0] from rfl,toList_madeCells_one]
 simp[iC]
theorem wpList_make_int (w:World) {ops:Array Oper}{rest:List Oper}{o:Oper}{a:Act}{Q:Exit->Act->World->Prop}
 (hg:o.guard=none) (l c:Operand) (hop:o.op=Op.makeSlice 176 l c) (C:Int) (n:Nat) (hl:a.eval l=.int .i64 C) (hc:a.eval c=.int .i64 C) (hC:C=n) (hn:n<=1000000)
 (hK:wpList Tryz.prog ops Q rest (a.put o.dst (.slice (some ⟨w.heap.size,0,none⟩) n n)) (w.alloc (iO (List.replicate n 0) 3))):
 wpList Tryz.prog ops Q (o :: rest) a w:=by
 refine wpList_plain hg fun K hK'=>?_
 obtain ⟨i,h2,h3,h4,h5⟩:=info_parts infoI64
 subst hC
 have hrun:=run_make (P:=Tryz.prog) w 176 3 i (.int .i64 0) Tryz.underlying176 h2 h3 .i64 .i64 n n (by omega) (by omega) (by rw[h5];omega) (by omega)
 unfold Oper.wp
 simp only[Int.toNat_natCast,h4,Nat.mul_one,made_int] at hrun
 simp[execOp,hop,hl,hc,hrun,Result.andThen]
 exact hK' _ _ hK
section
variable {α:Type}{f:α->List Value}{s:Nat}
theorem flat_range {w:World}{g k:Nat}{t:TypeId}{L:List α} (hg:w.heap[g]? =some (.cells (L.flatMap f).toArray t (0,0))) (hf:∀ x∈L,(f x).length=s) (hk:k<L.length):w.rangeAt g (k*s) (f L[k]):=by
 refine range_row hg ?_
 rw[hf _ (List.getElem_mem hk)]
 exact flat_get hf k hk
theorem wpList_store_flat {ops:Array Oper}{rest:List Oper}{op:Oper}{a:Act}{w:World}{Q:Exit->Act->World->Prop} (hgd:op.guard=none) (T:TypeId) (x y:Operand) (ho:op.op=.store T x y)
 (hs:(Tryz.prog.info? T).map (·.size)=some s) (g k:Nat) (L:List α) (z:α) (t:TypeId) (hx:a.eval x=.pointer (some ⟨g,k*s,none⟩)) (hy:a.eval y=.agg (f z).toArray)
 (hg:w.heap[g]? =some (.cells (L.flatMap f).toArray t (0,0))) (hk:k<L.length) (hf:∀ x∈L,(f x).length=s) (hz:(f z).length=s) (h1:∀ v∈f z,v.oneCell'=true)
 (h:∀ w',Wrote w w' g->w'.heap[g]? =some (.cells ((L.set k z).flatMap f).toArray t (0,0))->wpList Tryz.prog ops Q rest (a.put op.dst undef) w'):wpList Tryz.prog ops Q (op :: rest) a w:=by
 have hle:k*s+s<=L.length*s:=by
  have:=Nat.mul_le_mul_right s (show k+1<=L.length from hk)
  rw[Nat.succ_mul] at this;omega
 have hl:k*s+(f z).length<=(L.flatMap f).length:=by rw[flat_length hf,hz];exact hle
 refine wpList_store_mid hgd T x y ho g (k*s) (f z).toArray hx hy (there_row hg (by simpa using hl)) (by rw[hs];simp[hz]) (all_oneCell_toArray h1) ?_
 have e:=setCells_row hg hl h1
 rw[show (f z).toArray.toList=f z from rfl,e]
 refine h _ (Wrote.setRow _ _ _) ?_
 rw[setRow_heap _ _ _ _ _ _ hg,flat_set hf k hk z hz]
end
theorem wpList_load_nums {ops:Array Oper}{rest:List Oper}{op:Oper}{a:Act}{w:World}{Q:Exit->Act->World->Prop} (hgd:op.guard=none) (T:TypeId) (x:Operand) (ho:op.op=.load T x)
 (b o:Nat) (hx:a.eval x=.pointer (some ⟨b,o,none⟩)) (l:List Int) (d:TypeDesc) (hc:w.rangeAt b o (iC l))
 (hu:Tryz.prog.underlying T=some d) (hd:d.isRow=true) (hi:(Tryz.prog.info? T).map (·.size)=some l.length)
 (h:wpList Tryz.prog ops Q rest (a.put op.dst (.agg (iC l).toArray)) w):wpList Tryz.prog ops Q (op :: rest) a w:=
 wpList_load_mid hgd T x ho b o hx (iC l) d hc hu hd (by rw[hi,iC_length]) h
theorem range_low {w w':World}{b o:Nat}{cs:List Value} (h:w.rangeAt b o cs) (hb:Below w.heap.size w w') (hl:b<w.heap.size):w'.rangeAt b o cs:=fun j v hv=>by
 rw[hb.cell (p:=⟨b,o+j,none⟩) hl];exact h j v hv
def KeptG (w w':World) (g:Nat):Prop:=w'.os=w.os/\w'.tape=w.tape/\w'.output=w.output/\w.heap.size<=w'.heap.size/\∀ k,k<w.heap.size->k≠g->w'.heap[k]? =w.heap[k]?
theorem KeptG.refl (w:World) (g:Nat):KeptG w w g:=⟨rfl,rfl,rfl,Nat.le_refl _,fun _ _ _=>rfl⟩
theorem KeptG.then {w w' w'':World}{g:Nat} (h:KeptG w w' g) (hb:Below w'.heap.size w' w''):KeptG w w'' g:=
 ⟨hb.os.trans h.1,hb.tape.trans h.2.1,hb.output.trans h.2.2.1,Nat.le_trans h.2.2.2.1 hb.size,fun k hk hne=>by rw[hb.block k (Nat.lt_of_lt_of_le hk h.2.2.2.1)];exact h.2.2.2.2 k hk hne⟩
theorem KeptG.wrote {w w' w'':World}{g:Nat} (h:KeptG w w' g) (hb:Wrote w' w'' g):KeptG w w'' g:=
 ⟨hb.1.trans h.1,hb.2.1.trans h.2.1,hb.2.2.1.trans h.2.2.1,by rw[hb.2.2.2.1];exact h.2.2.2.1,fun k hk hne=>by rw[hb.2.2.2.2 k hne];exact h.2.2.2.2 k hk hne⟩
theorem KeptG.below {w w':World}{g B:Nat} (h:KeptG w w' g) (hB:B<=g) (hw:B<=w.heap.size):Below B w w':=
 ⟨h.1,h.2.1,h.2.2.1,h.2.2.2.1,fun k hk=>h.2.2.2.2 k (Nat.lt_of_lt_of_le hk hw) (by omega)⟩
structure Chg (P P':Nat->Prop) (w w':World):Prop where
 os:w'.os=w.os
 tape:w'.tape=w.tape
 output:w'.output=w.output
 size:w.heap.size<=w'.heap.size
 keep:∀ k,k<w.heap.size->¬ P k->w'.heap[k]? =w.heap[k]? /\¬ P' k
theorem Chg.refl (P:Nat->Prop) (w:World):Chg P P w w:=⟨rfl,rfl,rfl,Nat.le_refl _,fun _ _ h=>⟨rfl,h⟩⟩
theorem Chg.trans {P P' P'':Nat->Prop}{a b c:World} (h:Chg P P' a b) (k:Chg P' P'' b c):Chg P P'' a c:=
 ⟨k.os.trans h.os,k.tape.trans h.tape,k.output.trans h.output,Nat.le_trans h.size k.size,fun i hi hn=>by
   obtain ⟨h1,h2⟩:=h.keep i hi hn
   obtain ⟨h3,h4⟩:=k.keep i (Nat.lt_of_lt_of_le hi h.size) h2
   exact ⟨h3.trans h1,h4⟩⟩
theorem Chg.of_below {P:Nat->Prop}{w w':World} (h:Below w.heap.size w w'):Chg P P w w':=⟨h.os,h.tape,h.output,h.size,fun k hk hn=>⟨h.block k hk,hn⟩⟩
theorem Chg.below {P P':Nat->Prop}{w w':World} (h:Chg P P' w w') {B:Nat} (hB:∀ k,k<B->k<w.heap.size/\¬ P k):Below B w w':=
 ⟨h.os,h.tape,h.output,h.size,fun k hk=>(h.keep k (hB k hk).1 (hB k hk).2).1⟩
def Apt (P:Nat->Prop) (v:Value):Prop:=∀ ad n cap,v=.slice (some ad) n cap->0<n->¬ P ad.block
theorem Apt.nil (P:Nat->Prop):Apt P (.slice none 0 0):=fun ad n cap h=>by cases h
theorem Apt.new {P:Nat->Prop}{g off n cap:Nat} (h:¬ P g):Apt P (.slice (some ⟨g,off,none⟩) n cap):=fun ad n' cap' e _=>by
 obtain rfl:=Option.some.inj (Value.slice.inj e).1
 exact h
theorem BSl.chg {P P':Nat->Prop}{w w':World}{v:Value}{l:List Int} (h:BSl w v l) (ha:Apt P v) (hc:Chg P P' w w'):BSl w' v l/\Apt P' v:=by
 rcases h.2 with ⟨hv,hl⟩| ⟨a,cap,hv,hcap,hcells⟩
 · exact ⟨⟨h.1,.inl ⟨hv,hl⟩⟩,by rw[hv];exact Apt.nil _⟩
 · refine ⟨⟨h.1,.inr ⟨a,cap,hv,hcap,fun j hj=>?_⟩⟩,fun ad n cap' e hn=>?_⟩
   · obtain ⟨h1,h2,h3⟩:=hcells j hj
     have hk:=hc.keep a.block h1 (ha _ _ _ hv (by omega))
     exact ⟨Nat.lt_of_lt_of_le h1 hc.size,h2,by rw[World.cell?_of_block (a:=⟨a.block,a.off+j,none⟩) (w:=w) hk.1];exact h3⟩
   · obtain ⟨rfl,rfl⟩:ad=a/\n=l.length:=by
      rw[hv] at e
      exact ⟨(Option.some.inj (Value.slice.inj e).1).symm,(Value.slice.inj e).2.1.symm⟩
     exact (hc.keep ad.block (hcells 0 hn).1 (ha _ _ _ hv hn)).2
theorem ISl.chg {P P':Nat->Prop}{w w':World}{v:Value}{l:List Int} (h:ISl w v l) (ha:Apt P v) (hc:Chg P P' w w'):ISl w' v l/\Apt P' v:=by
 rcases h with ⟨hv,hl⟩| ⟨a,cap,hv,hcells⟩
 · exact ⟨.inl ⟨hv,hl⟩,by rw[hv];exact Apt.nil _⟩
 · refine ⟨.inr ⟨a,cap,hv,fun j hj=>?_⟩,fun ad n cap' e hn=>?_⟩
   · obtain ⟨h1,h2,h3⟩:=hcells j hj
     have hk:=hc.keep a.block h1 (ha _ _ _ hv (by omega))
     exact ⟨Nat.lt_of_lt_of_le h1 hc.size,h2,by rw[World.cell?_of_block (a:=⟨a.block,a.off+j,none⟩) (w:=w) hk.1];exact h3⟩
   · obtain ⟨rfl,rfl⟩:ad=a/\n=l.length:=by
      rw[hv] at e
      exact ⟨(Option.some.inj (Value.slice.inj e).1).symm,(Value.slice.inj e).2.1.symm⟩
     exact (hc.keep ad.block (hcells 0 hn).1 (ha _ _ _ hv hn)).2
def BBa (w:World) (P:Nat->Prop) (v:Value) (L:List (List Int)):Prop:=
 (v=.slice none 0 0/\L=[])\/∃ a cap,v=.slice (some a) L.length cap/\L.length<=cap/\∀ j,j<L.length->(a.block<w.heap.size/\¬ P a.block)/\a.spot=none/\
   ∃ u,w.cell? ⟨a.block,a.off+j,none⟩=some u/\BSl w u (L.getD j [])/\Apt P u
theorem BBa.sl {w:World}{P:Nat->Prop}{v:Value}{L:List (List Int)} (h:BBa w P v L):BBSl w v L:=by
 rcases h with h| ⟨a,cap,hv,hcap,hc⟩
 · exact .inl h
 · refine .inr ⟨a,cap,hv,hcap,fun j hj=>?_⟩
   obtain ⟨h1,h2,u,h3,h4,_⟩:=hc j hj
   exact ⟨h1.1,h2,u,h3,h4⟩
theorem BBa.chg {P P':Nat->Prop}{w w':World}{v:Value}{L:List (List Int)} (h:BBa w P v L) (hc:Chg P P' w w'):BBa w' P' v L:=by
 rcases h with h| ⟨a,cap,hv,hcap,hcells⟩
 · exact .inl h
 · refine .inr ⟨a,cap,hv,hcap,fun j hj=>?_⟩
   obtain ⟨⟨h1,h1'⟩,h2,u,h3,h4,h5⟩:=hcells j hj
   obtain ⟨k1,k2⟩:=hc.keep a.block h1 h1'
   obtain ⟨m1,m2⟩:=h4.chg h5 hc
   exact ⟨⟨Nat.lt_of_lt_of_le h1 hc.size,k2⟩,h2,u,by rw[World.cell?_of_block (a:=⟨a.block,a.off+j,none⟩) (w:=w) k1];exact h3,m1,m2⟩
theorem BBa.nil (w:World) (P:Nat->Prop):BBa w P (.slice none 0 0) []:=.inl ⟨rfl,rfl⟩
theorem Apt.of_lt {w:World}{v:Value}{l:List Int} (h:BSl w v l) {Q:Nat->Prop} (hQ:∀ k,Q k->w.heap.size<=k):Apt Q v:=by
 intro ad n cap e hn hq
 rcases h.2 with ⟨hv,_⟩| ⟨a,c,hv,_,hc⟩
 · rw[hv] at e;cases e
 · rw[hv] at e
   obtain ⟨rfl,rfl⟩:a=ad/\l.length=n:=⟨Option.some.inj (Value.slice.inj e).1,(Value.slice.inj e).2.1⟩
   have:=(hc 0 hn).1
   have:=hQ _ hq
   omega
def appU (U:List (Nat × List Int)) (F:List (List Int)):List (List Int):=U.foldl (fun f x=>f.set x.1 x.2) F
theorem appU_append (U W:List (Nat × List Int)) (F:List (List Int)):appU (U ++ W) F=appU W (appU U F):=List.foldl_append
theorem appU_snoc (U:List (Nat × List Int)) (x:Nat × List Int) (F:List (List Int)):appU (U ++ [x]) F=(appU U F).set x.1 x.2:=appU_append _ _ _
theorem appU_length:∀ (U:List (Nat × List Int)) (F:List (List Int)),(appU U F).length=F.length
 |[],F=>rfl
 |x :: U,F=>by
  show (appU U (F.set x.1 x.2)).length=_
  rw[appU_length U,List.length_set]
theorem appU_other:∀ (U:List (Nat × List Int)) (F:List (List Int)) (i:Nat),(∀ x∈U,x.1≠i)->(appU U F).getD i []=F.getD i []
 |[],F,i,_=>rfl
 |x :: U,F,i,h=>by
  show (appU U (F.set x.1 x.2)).getD i []=_
  rw[appU_other U _ i fun y hy=>h y (List.mem_cons_of_mem _ hy),List.getD_eq_getElem?_getD,List.getElem?_set_ne (h x (List.mem_cons_self ..)),<- List.getD_eq_getElem?_getD]
def keepU (kp:Nat->Bool) (U:List (Nat × List Int)):List (Nat × List Int):=((List.range U.length).filter kp).map fun i=>U.getD i (0,[])
theorem stF_keep (kp:Nat->Bool) (U:List (Nat × List Int)) (F:List (List Int)):∀ k,stF kp U F k=appU (((List.range k).filter kp).map fun i=>U.getD i (0,[])) F
 |0=>rfl
 |k+1=>by
  unfold stF
  rw[List.range_succ,List.filter_append,List.map_append,appU_append,<- stF_keep kp U F k]
  cases hk:kp k
  · simp[hk,appU]
  · simp[hk,appU]
theorem keepU_all (U:List (Nat × List Int)):keepU (fun _=>true) U=U:=by
 unfold keepU
 rw[List.filter_eq_self.2 (fun _ _=>rfl)]
 apply List.ext_getElem
 · simp
 · intro i h1 h2
   simp[List.getD_eq_getElem?_getD,h2]
theorem keepU_mem {kp:Nat->Bool}{U:List (Nat × List Int)}{x:Nat × List Int} (h:x∈keepU kp U):x∈U:=by
 obtain ⟨i,hi,rfl⟩:=List.mem_map.1 h
 have hl:i<U.length:=List.mem_range.1 (List.mem_filter.1 hi).1
 rw[List.getD_eq_getElem?_getD,List.getElem?_eq_getElem hl]
 exact List.getElem_mem hl
theorem stF_all (U:List (Nat × List Int)) (F:List (List Int)):stF (fun _=>true) U F U.length=appU U F:=by
 rw[stF_keep]
 have:=keepU_all U
 unfold keepU at this
 rw[this]
theorem stV_get (U:List (Nat × List Int)) (F1 V:List (List Int)) (hl:F1.length=V.length) (i:Nat):∀ m,(stV U F1 V m).getD i []=if (∃ j,j<m/\(U.getD j (0,[])).1=i) then F1.getD i [] else V.getD i []
 |0=>by
  rw[if_neg (by rintro ⟨j,hj,_⟩;omega)];rfl
 |m+1=>by
  have ih:=stV_get U F1 V hl i m
  have hlen:=stV_length U F1 V m
  unfold stV
  by_cases e:(U.getD m (0,[])).1=i
  · rw[if_pos ⟨m,by omega,e⟩,e]
    by_cases hi:i<V.length
    · simp[List.getD_eq_getElem?_getD,hlen,hi]
    · rw[List.getD_eq_getElem?_getD,List.getElem?_eq_none (by rw[List.length_set];omega),List.getD_eq_getElem?_getD,List.getElem?_eq_none (by omega)]
  · rw[List.getD_eq_getElem?_getD,List.getElem?_set_ne e,<- List.getD_eq_getElem?_getD,ih]
    by_cases h:∃ j,j<m/\(U.getD j (0,[])).1=i
    · obtain ⟨j,hj,hji⟩:=h
      rw[if_pos ⟨j,hj,hji⟩,if_pos ⟨j,by omega,hji⟩]
    · rw[if_neg h,if_neg]
      rintro ⟨j,hj,hji⟩
      by_cases ejm:j=m
      · subst ejm;exact e hji
      · exact h ⟨j,by omega,hji⟩
theorem stV_is (kp:Nat->Bool) (U:List (Nat × List Int)) (F:List (List Int)):stV U (stF kp U F U.length) (appU U F) U.length=appU (keepU kp U) F:=by
 have e1:stF kp U F U.length=appU (keepU kp U) F:=stF_keep kp U F _
 have hl:(appU (keepU kp U) F).length=(appU U F).length:=by rw[appU_length,appU_length]
 rw[e1]
 apply List.ext_getElem
 · rw[stV_length,hl]
 · intro i h1 h2
   have:=stV_get U (appU (keepU kp U) F) (appU U F) hl i U.length
   have g1:(stV U (appU (keepU kp U) F) (appU U F) U.length).getD i []=(stV U (appU (keepU kp U) F) (appU U F) U.length)[i]:=by simp[List.getD_eq_getElem?_getD,h1]
   have g2:(appU (keepU kp U) F).getD i []=(appU (keepU kp U) F)[i]:=by simp[List.getD_eq_getElem?_getD,h2]
   rw[<- g1,this,<- g2]
   split
   · rfl
   · rename_i hno
     have hU:∀ x∈U,x.1≠i:=fun x hx e=>by
      obtain ⟨j,hj,rfl⟩:=List.getElem_of_mem hx
      exact hno ⟨j,hj,by rw[List.getD_eq_getElem?_getD,List.getElem?_eq_getElem hj];exact e⟩
     rw[appU_other U F i hU,appU_other _ F i fun x hx=>hU x (keepU_mem hx)]
structure DS where
 F:List (List Int)
 U:List (Nat × List Int)
 fu:Bool
 le:Int
 dn:Bool
def DS.vis (s:DS):List (List Int):=appU s.U s.F
def DS.ok (s:DS):Bool:=pOk s.fu s.le s.dn
def DS.pay (s:DS):DS:={ s with le:=pLe s.fu s.le s.dn,dn:=pDn s.fu s.le s.dn }
def DS.write (s:DS) (n:Nat) (l:List Int):DS:={ s.pay with U:=s.U ++ [(n,l)] }
def DS.flush (s:DS):DS:={ s.pay with F:=s.vis,U:=[] }
def DS.crash (s:DS) (k:List Bool):DS:=⟨appU (keepU (kpOf k) s.U) s.F,[],false,0,false⟩
def DS.new (n:Nat):DS:=⟨List.replicate n zb,[],false,0,false⟩
theorem DS.vis_length (s:DS):s.vis.length=s.F.length:=appU_length _ _
theorem DS.write_vis (s:DS) (n:Nat) (l:List Int):(s.write n l).vis=s.vis.set n l:=appU_snoc _ _ _
theorem DS.flush_vis (s:DS):s.flush.vis=s.vis:=rfl
theorem pLe_bound {fu dn:Bool}{le:Int} (h:0<=le/\le<=9223372036854775807):0<=pLe fu le dn/\pLe fu le dn<=9223372036854775807:=by
 unfold pLe
 split <;> omega
def DOwn (bp bf bv:Nat) (u:Value) (k:Nat):Prop:=k=bp\/k=bf\/k=bv\/u.ownBlock=some k
def Dk (w:World) (P:Nat->Prop) (p:Value) (s:DS):Prop:=
 ∃ bp bf bv u,p=.pointer (some ⟨bp,0,none⟩)/\DskAt w 0 bp bf bv u s.F s.vis s.U s.fu s.le s.dn/\(0<=s.le/\s.le<=9223372036854775807)/\∀ k,P k ↔ DOwn bp bf bv u k
theorem DskAt.ownlt {w:World}{B bp bf bv:Nat}{u:Value}{F V:List (List Int)}{U:List (Nat × List Int)}{fu dn:Bool}{le:Int} (h:DskAt w B bp bf bv u F V U fu le dn) (k:Nat) (hk:DOwn bp bf bv u k):k<w.heap.size:=by
 rcases hk with rfl|rfl|rfl|hk
 · exact (Array.getElem?_eq_some_iff.1 h.hp).1
 · exact (Array.getElem?_eq_some_iff.1 h.hf).1
 · exact (Array.getElem?_eq_some_iff.1 h.hv).1
 · exact (h.hu.lt k hk).2
theorem Dk.lt {w:World}{P:Nat->Prop}{p:Value}{s:DS} (h:Dk w P p s) (k:Nat) (hk:P k):k<w.heap.size:=by
 obtain ⟨bp,bf,bv,u,_,hd,_,hP⟩:=h
 exact hd.ownlt k ((hP k).1 hk)
theorem Dk.below {w w':World}{P:Nat->Prop}{p:Value}{s:DS} (h:Dk w P p s) (hb:Below w.heap.size w w'):Dk w' P p s:=by
 obtain ⟨bp,bf,bv,u,hp,hd,hl,hP⟩:=h
 exact ⟨bp,bf,bv,u,hp,hd.below hb,hl,hP⟩
theorem Dk.ptr {w:World}{P:Nat->Prop}{p:Value}{s:DS} (h:Dk w P p s):∃ bp,p=.pointer (some ⟨bp,0,none⟩):=by
 obtain ⟨bp,_,_,_,hp,_⟩:=h
 exact ⟨bp,hp⟩
theorem DskAt.lower {w:World}{B bp bf bv:Nat}{u:Value}{F V:List (List Int)}{U:List (Nat × List Int)}{fu dn:Bool}{le:Int} (h:DskAt w B bp bf bv u F V U fu le dn):DskAt w 0 bp bf bv u F V U fu le dn:=
 { h with bB:=⟨Nat.zero_le _,Nat.zero_le _,Nat.zero_le _⟩,hu:=⟨h.hu.1,h.hu.2.imp id fun ⟨g,cap,cur,hv,_,r⟩=>⟨g,cap,cur,hv,Nat.zero_le _,r⟩⟩ }
theorem Chg.of_wrote {bp bf bv:Nat}{u:Value}{P:Nat->Prop} (hP:∀ k,P k ↔ DOwn bp bf bv u k) {w w':World} (h:Wrote w w' bp):Chg P P w w':=
 ⟨h.1,h.2.1,h.2.2.1,Nat.le_of_eq h.2.2.2.1.symm,fun k _ hn=>⟨h.2.2.2.2 k fun e=>hn ((hP k).2 (.inl e)),hn⟩⟩
theorem Chg.of_frU {bp bf bv:Nat}{u u':Value}{P:Nat->Prop} (hP:∀ k,P k ↔ DOwn bp bf bv u k) {w w':World} (h:FrU w w' bp bf bv u u'):Chg P (DOwn bp bf bv u') w w':=
 ⟨h.os,h.tape,h.output,h.size,fun k hk hn=>by
   have h1:k≠bp:=fun e=>hn ((hP k).2 (.inl e))
   have h2:k≠bf:=fun e=>hn ((hP k).2 (.inr (.inl e)))
   have h3:k≠bv:=fun e=>hn ((hP k).2 (.inr (.inr (.inl e))))
   have h4:u.ownBlock≠some k:=fun e=>hn ((hP k).2 (.inr (.inr (.inr e))))
   refine ⟨h.block k hk h1 h2 h3 h4,?_⟩
   rintro (e|e|e|e)
   · exact h1 e
   · exact h2 e
   · exact h3 e
   · rcases h.own k e with e|e
     · exact h4 e
     · omega⟩
theorem Chg.of_fr3 {bp bf bv:Nat}{u:Value}{P:Nat->Prop} (hP:∀ k,P k ↔ DOwn bp bf bv u k) {w w':World} (h:Fr3 w w' bp bf bv):Chg P (DOwn bp bf bv (.slice none 0 0)) w w':=
 Chg.of_frU hP ⟨h.os,h.tape,h.output,h.size,fun k hk h1 h2 h3 _=>h.block k hk h1 h2 h3,fun k hk=>by simp[Value.ownBlock] at hk⟩
def hasI (l:List Int) (n:Int):Bool:=l.any fun x=>x==n
theorem hasI_yes {l:List Int}{n:Int} (k:Nat) (hk:k<l.length) (h:l.getD k 0=n):hasI l n=true:=by
 unfold hasI
 rw[List.any_eq_true]
 refine ⟨l[k],List.getElem_mem hk,?_⟩
 have e:l.getD k 0=l[k]:=by simp[List.getD_eq_getElem?_getD,hk]
 rw[<- e,h];simp
theorem hasI_no {l:List Int}{n:Int} (h:∀ k,k<l.length->l.getD k 0≠n):hasI l n=false:=by
 unfold hasI
 rw[List.any_eq_false]
 intro x hx
 obtain ⟨k,hk,rfl⟩:=List.getElem_of_mem hx
 have e:l.getD k 0=l[k]:=by simp[List.getD_eq_getElem?_getD,hk]
 have:=h k hk
 rw[e] at this
 simpa using this
theorem newT_has (N:List Int) (i:Nat):newT N i=!(hasI (N.take i) (N.getD i 0)):=by
 unfold newT hasI
 rw[List.not_any_eq_all_not]
def okN (N:List Int) (i:Nat):Bool:=inP9 (N.getD i 0) && newT N i
def frmNK (N:List Int) (k:Nat):Bool:=(List.range k).all fun i=>okN N i
def frmNs (N:List Int):Bool:=decide (N.length<=37) && frmNK N N.length
theorem frmNK_iff (N:List Int) (k:Nat):frmNK N k=true ↔ ∀ i,i<k->okN N i=true:=by
 unfold frmNK
 rw[List.all_eq_true]
 exact ⟨fun h i hi=>h i (List.mem_range.2 hi),fun h i hi=>h i (List.mem_range.1 hi)⟩
theorem frmNs_no {N:List Int} (i:Nat) (hi:i<N.length) (h:okN N i=false):frmNs N=false:=by
 cases e:frmNs N
 · rfl
 · unfold frmNs at e
   rw[Bool.and_eq_true] at e
   rw[(frmNK_iff N _).1 e.2 i hi] at h;cases h
theorem frmNs_long {N:List Int} (h:37<N.length):frmNs N=false:=by
 unfold frmNs;rw[decide_eq_false (by omega)];rfl
theorem frmNs_yes {N:List Int} (h1:N.length<=37) (h:∀ i,i<N.length->okN N i=true):frmNs N=true:=by
 unfold frmNs;rw[decide_eq_true h1,(frmNK_iff N _).2 h];rfl
def whole (D:List (List Int)):Bool:=(List.range D.length).all fun i=>decide ((D.getD i []).length=256)
theorem whole_iff (D:List (List Int)):whole D=true ↔ ∀ i,i<D.length->(D.getD i []).length=256:=by
 unfold whole
 rw[List.all_eq_true]
 exact ⟨fun h i hi=>of_decide_eq_true (h i (List.mem_range.2 hi)),fun h i hi=>decide_eq_true (h i (List.mem_range.1 hi))⟩
theorem whole_no {D:List (List Int)} (i:Nat) (hi:i<D.length) (h:(D.getD i []).length≠256):whole D=false:=by
 cases e:whole D
 · rfl
 · exact absurd ((whole_iff D).1 e i hi) h
theorem frmT_parts (N:List Int) (D:List (List Int)):frmT N D=(frmNs N && (decide (D.length=N.length) && whole D)):=by
 by_cases h1:N.length<=37
 · by_cases h2:D.length=N.length
   · unfold frmT frmNs whole
     rw[decide_eq_true h1,decide_eq_true h2,h2,Bool.true_and,Bool.true_and,Bool.true_and]
     have:∀ k,frmTK N D k=(frmNK N k && (List.range k).all fun i=>decide ((D.getD i []).length=256)):=fun k=>by
      rw[Bool.eq_iff_iff,Bool.and_eq_true,frmTK_iff,frmNK_iff,List.all_eq_true]
      constructor
      · intro h
        refine ⟨fun i hi=>?_,fun i hi=>?_⟩
        · have:=h i hi
          unfold okT9 at this
          unfold okN
          rw[Bool.and_eq_true,Bool.and_eq_true] at this
          rw[this.1,this.2.2];rfl
        · have:=h i (List.mem_range.1 hi)
          unfold okT9 at this
          rw[Bool.and_eq_true,Bool.and_eq_true] at this
          exact this.2.1
      · rintro ⟨ha,hb⟩ i hi
        have h3:=ha i hi
        have h4:=hb i (List.mem_range.2 hi)
        unfold okN at h3
        rw[Bool.and_eq_true] at h3
        unfold okT9
        rw[h3.1,h3.2,h4];rfl
     exact this _
   · rw[frmT_len h2,decide_eq_false h2];simp
 · rw[frmT_long (by omega),frmNs_long (by omega)];rfl
theorem frmNs_of {N:List Int} (h:frmNs N=true):N.length<=37/\∀ i,i<N.length->0<=N.getD i 0/\N.getD i 0<=767:=by
 unfold frmNs at h
 rw[Bool.and_eq_true,decide_eq_true_eq,frmNK_iff] at h
 refine ⟨h.1,fun i hi=>?_⟩
 have:=h.2 i hi
 unfold okN inP9 at this
 rw[Bool.and_eq_true,decide_eq_true_eq] at this
 exact this.1
theorem slIndex_of {w:World}{v:Value}{l:List Int} (hs:ISl w v l) (hl:l.length<=1000000) (n:Int):Calls Tryz.prog 234 #[v,.int .i64 n] w fun e w'=>(∃ r:Int,e=.returned (.int .i64 r)/\decide (0<=r)=hasI l n/\ -1<=r/\r<=1000000)/\w=w':=by
 obtain ⟨ao,cap,rfl,hc⟩:=hs.open'
 have hyes:=fun k (hk:k<l.length)=>hasI_yes (l:=l) (n:=n) k hk
 have hno:=hasI_no (l:=l) (n:=n)
 obtain ⟨R,hR⟩:∃ R,R=hasI l n:=⟨_,rfl⟩
 rw[<- hR] at hyes hno |-
 obtain ⟨N,hN⟩:∃ N,N=l.length:=⟨_,rfl⟩
 rw[<- hN] at hc hno hyes hl |-
 have HC:=Lib.hid hc
 have HNO:=Lib.hid hno
 have HYE:=Lib.hid hyes
 clear hc hno hyes hR hs hN
 go_enter Tryz.func234,Tryz.ntmps234
 go_wp2
 go_loop [8] (fun i=>∃ k:Nat,k<=N/\i=.int .i64 k/\Hid (∀ j,j<k->l.getD j 0≠n)) (fun i=>N-(intOf i).toNat)
 case atStart=>exact ⟨0,by omega,rfl,fun j hj=>absurd hj (Nat.not_lt_zero _)⟩
 case round=>
  obtain ⟨k,hk,rfl,HK⟩:=hrel
  by_cases hlt:k<N
  · obtain ⟨b,off,rfl,_,hcc⟩:=HC.out (by omega)
    have hck:=hcc k hlt
    have hy1:=HYE.out k hlt
    obtain ⟨x,hx⟩:∃ x,x=l.getD k 0:=⟨_,rfl⟩
    rw[<- hx] at hck hy1
    have HX:=Lib.hid hx
    have HY1:=Lib.hid hy1
    have ek:(k:Int)<(N:Int):=by omega
    clear hx hcc hy1
    by_cases hf:n=x
    · have hR:=HY1.out hf.symm
      subst hR
      subst hf
      go_wp2
      go_ret
      exact ⟨⟨_,rfl,by simp,by omega,by omega⟩,rfl⟩
    · have HF:=Lib.hid hf
      go_wp2
      go_round
      case rel=>
       refine ⟨k+1,by omega,by go_num,fun j hj=>?_⟩
       by_cases e:j=k
       · subst e;rw[<- HX.out];exact fun h=>HF.out h.symm
       · exact HK.out j (by omega)
      case measure=>simp[intOf];omega
  · obtain rfl:k=N:=by omega
    have hR:=HNO.out HK.out
    subst hR
    go_wp2
    go_ret
    exact ⟨⟨_,rfl,by decide,by decide,by decide⟩,rfl⟩
theorem slCont_is {w:World}{v:Value}{l:List Int} (hs:ISl w v l) (hl:l.length<=1000000) (n:Int) (B:Bool) (hB:hasI l n=B):Calls Tryz.prog 226 #[v,.int .i64 n] w fun e w'=>e=.returned (.bool B)/\w=w':=by
 have K:=Lib.hid (slIndex_of hs hl n)
 rw[hB] at K
 clear hB hs hl
 go_enter Tryz.func226,Tryz.ntmps226
 go_wp2_with (go_at_call 234;(with_reducible refine K.out.mono ?_);rintro e w2 ⟨⟨r,rfl,hr,hr0,hr1⟩,rfl⟩)
 go_ret
 exact ⟨by rw[<- hr];rfl,rfl⟩
def ISc (w:World) (v:Value) (l:List Int):Prop:=ISl w v l/\∃ ao cap,v=.slice ao l.length cap/\l.length<=cap
theorem ISc.below {w w':World}{v:Value}{l:List Int} (h:ISc w v l) (hb:Below w.heap.size w w'):ISc w' v l:=⟨h.1.below hb,h.2⟩
theorem IR.isc {w:World}{B:Nat}{v:Value}{l:List Int} (h:IR w B v l):ISc w v l:=by
 refine ⟨h.sl,?_⟩
 rcases h.2 with ⟨hv,hl⟩| ⟨g,cap,cur,hv,hg,hh,hnc,_⟩
 · exact ⟨none,0,by rw[hv,hl],by omega⟩
 · exact ⟨_,cap,hv,hnc⟩
theorem ISl.take {w:World}{a:Addr}{cap:Nat}{l:List Int} (h:ISl w (.slice (some a) l.length cap) l) (n:Nat) (hn:n<=l.length):ISl w (.slice (some a) n cap) (l.take n):=by
 rcases h with ⟨hv,_⟩| ⟨a',c',hv,hc⟩
 · simp at hv
 · obtain ⟨rfl,rfl⟩:a=a'/\cap=c':=⟨Option.some.inj (Value.slice.inj hv).1,(Value.slice.inj hv).2.2⟩
   have hl:(l.take n).length=n:=by rw[List.length_take];omega
   refine .inr ⟨a,cap,by rw[hl],fun j hj=>?_⟩
   rw[hl] at hj
   obtain ⟨h1,h2,h3⟩:=hc j (by omega)
   refine ⟨h1,h2,?_⟩
   rw[h3]
   simp[List.getD_eq_getElem?_getD,hj]
theorem tFormN_of {w:World}{v:Value}{l:List Int} (hs:ISc w v l):Calls Tryz.prog 211 #[v] w fun e w'=>e=.returned (.bool (frmNs l))/\w=w':=by
 obtain ⟨h1,ao,cap,rfl,hcap⟩:=hs
 obtain ⟨ao',cap',hv,hc⟩:=h1.open'
 obtain ⟨rfl,rfl⟩:ao=ao'/\cap=cap':=⟨(Value.slice.inj hv).1,(Value.slice.inj hv).2.2⟩
 by_cases h37:l.length<=37
 · have hno:=fun k hk h=>frmNs_no (N:=l) k hk h
   have hyes:=frmNs_yes h37
   obtain ⟨R,hR⟩:∃ R,R=frmNs l:=⟨_,rfl⟩
   have htk:=fun (a:Addr) (h:ao=some a) n hn=>ISl.take (w:=w) (a:=a) (cap:=cap) (l:=l) (by rw[<- h];exact h1) n hn
   have hnt:=fun i=>newT_has l i
   have HTL:=Lib.hid (fun n:Nat=>(List.length_take (i:=n) (l:=l)))
   rw[<- hR] at hno hyes |-
   obtain ⟨N,hN⟩:∃ N,N=l.length:=⟨_,rfl⟩
   rw[<- hN] at hc hno hyes h37 hcap htk HTL |-
   have HC:=Lib.hid hc
   have HNO:=Lib.hid hno
   have HYE:=Lib.hid hyes
   have HTK:=Lib.hid htk
   have HNT:=Lib.hid hnt
   have hle:¬ 37<(N:Int):=by omega
   clear hc hno hyes hR h1 hN hv htk hnt
   go_enter Tryz.func211,Tryz.ntmps211
   go_wp2
   go_loop [10] (fun i=>∃ k:Nat,k<=N/\i=.int .i64 k/\Hid (∀ j,j<k->okN l j=true)) (fun i=>N-(intOf i).toNat)
   case atStart=>exact ⟨0,by omega,rfl,fun j hj=>absurd hj (Nat.not_lt_zero _)⟩
   case round=>
    obtain ⟨k,hk,rfl,HK⟩:=hrel
    by_cases hlt:k<N
    · obtain ⟨b,off,rfl,_,hcc⟩:=HC.out (by omega)
      have hck:=hcc k hlt
      have hn1:=HNO.out k hlt
      have hok:okN l k=(inP9 (l.getD k 0) && !(hasI (l.take k) (l.getD k 0))):=by unfold okN;rw[HNT.out]
      have htk:=HTK.out _ rfl k (by omega)
      have htl:(l.take k).length<=1000000:=by rw[HTL.out];omega
      obtain ⟨x,hx⟩:∃ x,x=l.getD k 0:=⟨_,rfl⟩
      rw[<- hx] at hck hok
      have KH:=Lib.hid (fun B hB=>slCont_is htk htl x B hB)
      have HOK:=Lib.hid hok
      have HN1:=Lib.hid hn1
      have ek:(k:Int)<(N:Int):=by omega
      have ek2:(k:Int)<=(cap:Int):=by omega
      have ek3:k<=cap:=by omega
      clear hx hcc hn1 hok htk htl
      by_cases hlo:x<0
      · have hR:=HN1.out (by rw[HOK.out];unfold inP9;rw[decide_eq_false (by omega)];rfl)
        subst hR
        go_wp2
        go_ret
        exact ⟨rfl,rfl⟩
      · by_cases hhi:767<x
        · have hR:=HN1.out (by rw[HOK.out];unfold inP9;rw[decide_eq_false (by omega)];rfl)
          subst hR
          go_wp2
          go_ret
          exact ⟨rfl,rfl⟩
        · have hin:inP9 x=true:=decide_eq_true (by omega)
          rw[hin,Bool.true_and] at HOK
          obtain ⟨B,hB⟩:∃ B,hasI (l.take k) x=B:=⟨_,rfl⟩
          have KB:=Lib.hid (KH.out B hB)
          rw[hB] at HOK
          have h01:¬ x > 767:=by omega
          clear hB hin KH
          cases B
          · go_wp2_with (go_at_call 226;(with_reducible refine KB.out.mono ?_);rintro e w2 ⟨rfl,rfl⟩)
            go_round
            case rel=>
             refine ⟨k+1,by omega,by go_num,fun j hj=>?_⟩
             by_cases e:j=k
             · subst e;exact HOK.out
             · exact HK.out j (by omega)
            case measure=>simp[intOf];omega
          · have hR:=HN1.out HOK.out
            subst hR
            go_wp2_with (go_at_call 226;(with_reducible refine KB.out.mono ?_);rintro e w2 ⟨rfl,rfl⟩)
            go_ret
            exact ⟨rfl,rfl⟩
    · obtain rfl:k=N:=by omega
      have hR:=HYE.out HK.out
      subst hR
      go_wp2
      go_ret
      exact ⟨rfl,rfl⟩
 · rw[frmNs_long (by omega)]
   obtain ⟨N,hN⟩:∃ N,N=l.length:=⟨_,rfl⟩
   rw[<- hN] at h37 |-
   have hle:37<(N:Int):=by omega
   clear hc h1 hv hN
   go_enter Tryz.func211,Tryz.ntmps211
   go_wp2
   go_ret
   exact ⟨rfl,rfl⟩
theorem tWhole_of {w:World}{v:Value}{L:List (List Int)} (hs:BBSl w v L) (hL:L.length<=1000000):Calls Tryz.prog 201 #[v] w fun e w'=>e=.returned (.bool (whole L))/\w=w':=by
 obtain ⟨ao,cap,rfl,_,hc⟩:=hs.open'
 have hno:=fun k hk h=>whole_no (D:=L) k hk h
 have hyes:=(whole_iff L).2
 obtain ⟨R,hR⟩:∃ R,R=whole L:=⟨_,rfl⟩
 rw[<- hR] at hno hyes |-
 obtain ⟨N,hN⟩:∃ N,N=L.length:=⟨_,rfl⟩
 rw[<- hN] at hc hno hyes hL |-
 have HC:=Lib.hid hc
 have HNO:=Lib.hid hno
 have HYE:=Lib.hid hyes
 clear hc hno hyes hR hs hN
 go_enter Tryz.func201,Tryz.ntmps201
 go_wp2
 go_loop [7] (fun i=>∃ k:Nat,k<=N/\i=.int .i64 k/\Hid (∀ j,j<k->(L.getD j []).length=256)) (fun i=>N-(intOf i).toNat)
 case atStart=>exact ⟨0,by omega,rfl,fun j hj=>absurd hj (Nat.not_lt_zero _)⟩
 case round=>
  obtain ⟨k,hk,rfl,HK⟩:=hrel
  by_cases hlt:k<N
  · obtain ⟨b,off,rfl,_,hcc⟩:=HC.out (by omega)
    obtain ⟨u,hck,hu⟩:=hcc k hlt
    have hn1:=HNO.out k hlt
    obtain ⟨uo,uc,rfl,_⟩:=hu.shape
    obtain ⟨x,hx⟩:∃ x,x=(L.getD k []).length:=⟨_,rfl⟩
    rw[<- hx] at hck hn1
    have HX:=Lib.hid hx
    have HN1:=Lib.hid hn1
    have ek:(k:Int)<(N:Int):=by omega
    clear hx hcc hn1 hu
    by_cases hf:x=256
    · subst hf
      go_wp2
      go_round
      case rel=>
       refine ⟨k+1,by omega,by go_num,fun j hj=>?_⟩
       by_cases e:j=k
       · subst e;exact HX.out.symm
       · exact HK.out j (by omega)
      case measure=>simp[intOf];omega
    · have hR:=HN1.out hf
      subst hR
      have hfi:¬ (x:Int)=256:=by omega
      have hne:((x:Int) != 256)=true:=by simp;omega
      go_wp2
      go_ret
      exact ⟨rfl,rfl⟩
  · obtain rfl:k=N:=by omega
    have hR:=HYE.out HK.out
    subst hR
    go_wp2
    go_ret
    exact ⟨rfl,rfl⟩
def TxV (w:World) (v:Value) (q:Int) (N:List Int) (D:List (List Int)):Prop:=
 ∃ no nc ao dc,v=.agg #[.int .u32 q,.slice no N.length nc,.slice ao D.length dc]/\ISc w (.slice no N.length nc) N/\BBSl w (.slice ao D.length dc) D
theorem TxV.below {w w':World}{v:Value}{q:Int}{N:List Int}{D:List (List Int)} (h:TxV w v q N D) (hb:Below w.heap.size w w'):TxV w' v q N D:=by
 obtain ⟨no,nc,ao,dc,h1,h2,h3⟩:=h
 exact ⟨no,nc,ao,dc,h1,h2.below hb,h3.below hb⟩
theorem tForm_is {w:World}{v:Value}{q:Int}{N:List Int}{D:List (List Int)} (h:TxV w v q N D) (B:Bool) (hB:frmT N D=B):Calls Tryz.prog 197 #[v] w fun e w'=>e=.returned (.bool B)/\Below w.heap.size w w':=by
 obtain ⟨no,nc,ao,dc,rfl,hN,hD⟩:=h
 obtain ⟨n,hn⟩:∃ n,n=N.length:=⟨_,rfl⟩
 obtain ⟨m,hm⟩:∃ m,m=D.length:=⟨_,rfl⟩
 rw[frmT_parts,<- hn,<- hm] at hB
 have KN:=Lib.hid (fun W (hb:Below w.heap.size w W)=>tFormN_of (hN.below hb))
 have KD:=Lib.hid (fun W (hb:Below w.heap.size w W) (hl:D.length<=1000000)=>tWhole_of (hD.below hb) hl)
 have HL:=Lib.hid (fun (h:frmNs N=true)=>(frmNs_of h).1)
 rw[<- hn] at KN HL |-
 rw[<- hm] at KD |-
 have hbx:=below_box w (.cells #[.int .u32 q,.slice no n nc,.slice ao m dc] 183)
 have hnx:=heap_alloc_new w (.cells #[.int .u32 q,.slice no n nc,.slice ao m dc] 183)
 clear hN hD hn hm
 go_enter Tryz.func197,Tryz.ntmps197
 go_upto_region 1 with (fail)
 generalize w.alloc (.cells #[.int .u32 q,.slice no n nc,.slice ao m dc] 183)=u at hbx hnx |-
 have KN1:=Lib.hid (KN.out _ hbx)
 have KD1:=Lib.hid (KD.out _ hbx)
 have HBX:=Lib.hid hbx
 clear KN KD hbx
 have d1:u.cell? ⟨w.heap.size,1,none⟩=some (.slice no n nc):=by rw[cell_of_row _ _ _ _ _ _ hnx];rfl
 have d2:u.cell? ⟨w.heap.size,2,none⟩=some (.slice ao m dc):=by rw[cell_of_row _ _ _ _ _ _ hnx];rfl
 clear hnx
 obtain ⟨F,hF⟩:∃ F,frmNs N=F:=⟨_,rfl⟩
 obtain ⟨G,hG⟩:∃ G,whole D=G:=⟨_,rfl⟩
 rw[hF,hG] at hB
 rw[hF] at KN1 HL
 rw[hG] at KD1
 have HLE:=Lib.hid (fun (h:F=true) (h2:m=n)=>show m<=1000000 by have:=HL.out h;omega)
 clear hF hG HL
 cases F
 · rw[Bool.false_and] at hB
   subst hB
   go_wp2_with (go_at_call 211;(with_reducible refine KN1.out.mono ?_);rintro e w2 ⟨rfl,rfl⟩)
   go_ret
   exact ⟨rfl,HBX.out⟩
 · by_cases hmn:m=n
   · have hle:=HLE.out rfl hmn
     rw[decide_eq_true hmn,Bool.true_and,Bool.true_and] at hB
     subst hB
     subst hmn
     have KD2:=Lib.hid (KD1.out hle)
     clear hle HLE KD1
     go_wp2_with (first
      |(go_at_call 211;(with_reducible refine KN1.out.mono ?_);rintro e w2 ⟨rfl,rfl⟩)
      |(go_at_call 201;(with_reducible refine KD2.out.mono ?_);rintro e w3 ⟨rfl,rfl⟩))
     go_ret
     exact ⟨rfl,HBX.out⟩
   · rw[decide_eq_false hmn,Bool.false_and,Bool.and_false] at hB
     subst hB
     have hne:¬ (m:Int)=(n:Int):=by omega
     have hne2:((m:Int)==(n:Int))=false:=by simpa using hne
     have hne3:decide ((m:Int)=(n:Int))=false:=decide_eq_false hne
     clear HLE KD1 hmn
     go_wp2_with (go_at_call 211;(with_reducible refine KN1.out.mono ?_);rintro e w2 ⟨rfl,rfl⟩)
     go_ret
     exact ⟨rfl,HBX.out⟩
theorem ob_nil9 (w:World) (B:Nat):OB w B (.slice none 0 0) []:=⟨byt_nil,World.ownsRow_nil w B _ _⟩
set_option maxRecDepth 100000 in
theorem bClone_of {w:World}{v:Value}{l:List Int} (hs:BSl w v l) (hl:l.length<=1000000):Calls Tryz.prog 106 #[v] w (NewB w l):=by
 have hs':=hs
 rcases hs.2 with ⟨rfl,rfl⟩| ⟨a,cap,rfl,hcap,hc⟩
 · clear hs hs' hl
   have he:∀ w:World,(binOp .eql 30 (.slice none 0 0) (.slice none 0 0)).run Tryz.prog w=.ok (.bool true) w:=fun _=>rfl
   go_enter Tryz.func106,Tryz.ntmps106
   go_wp2
   go_ret
   exact ⟨_,rfl,ob_nil9 _ _,Below.refl _ _⟩
 · have HS:=Lib.hid hs'
   have HL:Hid (0+l.length<=140737488355328):=Lib.hid (by omega)
   have H0:=Lib.hid (ob_empty w)
   have hb0:=below_box w (.cells #[] 5)
   have HK:=Lib.hid (fun (p:Addr) (hp:p.block<w.heap.size)=>World.cell?_alloc_lt w (.cells #[] 5) p hp)
   have hsz:w.heap.size<=(w.alloc (.cells #[] 5)).heap.size:=by simp
   clear hs hs' hc hl
   have he:∀ w:World,(binOp .eql 30 (.slice (some a) l.length cap) (.slice none 0 0)).run Tryz.prog w=.ok (.bool false) w:=fun _=>rfl
   go_enter Tryz.func106,Tryz.ntmps106
   go_wp2_with (at_builtin;refine wpList_append_bytes _ rfl (.tmp 5) (.tmp 6) rfl w.heap.size _ [] rfl H0.out w _ l rfl HS.out HK.out HL.out hsz ?_
                intro v3 w3 hob3 hb3 _)
   go_ret
   exact ⟨_,rfl,hob3,hb0.trans hb3⟩
end Go.Proofs.YtedabomlfcghoaaGreat
