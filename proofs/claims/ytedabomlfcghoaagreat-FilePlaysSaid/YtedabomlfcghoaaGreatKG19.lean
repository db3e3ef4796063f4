/- What the law rests on: part 19. -/
import Derived.Test.YtedabomlfcghoaaGreatKG18
set_option linter.unusedVariables false
namespace Go.Proofs.YtedabomlfcghoaaGreat
set_option maxRecDepth 100000
open Go.RowKit Go.Maps
def newK(ek pk:List Int)(left:Lit->Bool):Nat:=(pk.filter fun x=>!left (.int .i64 x) && decide (x ∉ ek)).length
theorem newK_start{ek pk:List Int}{left:Lit->Bool}(h:∀ x,left (.int .i64 x)=decide (x∈pk)):newK ek pk left=0:=by
 unfold newK;rw[List.length_eq_zero_iff,List.filter_eq_nil_iff];intro x hx;rw[h x,decide_eq_true hx];simp
theorem newK_end{ek pk:List Int}{left:Lit->Bool}(h:∀ k,left k=false):ek.length+newK ek pk left=(uniN ek pk).length:=by
 unfold newK uniN;rw[List.length_append];congr 3;funext x;rw[h];simp
theorem newK_le(ek pk:List Int)(left:Lit->Bool):newK ek pk left<=pk.length:=List.length_filter_le _ _
theorem key_same(x y:Int):(Lit.int .i64 y).sameKey (.int .i64 x)=decide (y=x):=by
 by_cases h:y=x
 . subst h;simp[Lit.sameKey]
 . rw[decide_eq_false h];exact Maps.sameKey_ne (fun e=>h (by cases e;rfl))
theorem filter_step{ek:List Int}{f:Int->Bool}{x:Int}:∀ {pk:List Int},pk.Nodup->x∈pk->f x=true->
 (pk.filter fun z=>!(f z && !decide (z=x)) && decide (z ∉ ek)).length=(pk.filter fun z=>!f z && decide (z ∉ ek)).length+if x∈ek then 0 else 1
 |[],_,hx,_=>absurd hx List.not_mem_nil
 |a :: r,hn,hx,hl=>by
  obtain⟨h1,h2⟩:=List.nodup_cons.1 hn;by_cases e:a=x
  . subst e
    have hr:(r.filter fun z=>!(f z && !decide (z=a)) && decide (z ∉ ek))=r.filter fun z=>!f z && decide (z ∉ ek):=by
     refine List.filter_congr fun y hy=>?_
     have:y≠a:=fun e=>h1 (e ▸ hy)
     rw[decide_eq_false this];simp
    rw[List.filter_cons,List.filter_cons,hl,hr];by_cases hk:a∈ek <;> simp[hk]
  . have ih:=filter_step (ek:=ek) (f:=f) h2 ((List.mem_cons.1 hx).resolve_left fun e'=>e e'.symm) hl
    rw[List.filter_cons,List.filter_cons,decide_eq_false e];cases hfa:f a <;> by_cases hk:a∈ek <;> simp only[hk,Bool.not_true,Bool.not_false,Bool.and_true,Bool.and_false,decide_true,decide_false,not_true_eq_false,not_false_eq_true,if_true,if_false,List.length_cons,Bool.false_eq_true,ih] <;> omega
theorem newK_step{ek:List Int}{left:Lit->Bool}{x:Int}{pk:List Int}(hn:pk.Nodup)(hx:x∈pk)(hl:left (.int .i64 x)=true):
 newK ek pk (fun z=>left z && !z.sameKey (.int .i64 x))=newK ek pk left+if x∈ek then 0 else 1:=by
 have h:=filter_step (ek:=ek) (f:=fun z=>left (.int .i64 z)) hn hx hl;unfold newK;rw[<- h];congr 2;funext z;show(!(left (.int .i64 z) && !(Lit.int .i64 z).sameKey (.int .i64 x)) && decide (z ∉ ek))=_
 rw[key_same]
section
variable {w:World}{Pd:Nat->Prop}{b be bp:Nat}{d:Value}{q:Int}{ek:List Int}{eg:Int->Value}{ev:Int->List Int}{pk:List Int}{pg:Int->Value}{pv:Int->List Int}{wi:Bool}{ds:DS}
set_option maxHeartbeats 1000000 in
theorem sTogether_is(h:SMem w Pd b be bp d q ek eg ev pk pg pv wi ds)(hel:ek.length<=1000)(hpl:pk.length<=1000):Calls Tryz.prog 72 #[.pointer (some ⟨b,0,none⟩)] w fun e w'=>e=.returned (.int .i64 (uniN ek pk).length)/\Below w.heap.size w w':=by
 have c2:=h.c2;have c3:=h.c3;have hlen:=fun ty=>h.me.len ty
 have HB:=hid (fun W (hb:Below w.heap.size w W)=>h.below hb);obtain⟨D,p1,p2,p3,p4,p5⟩:=h.mp;have HN:=hid p2;have HH:=hid p4;have HS:=hid (newK_start (ek:=ek) p4);have HE:=hid (fun(left:Lit->Bool) h=>newK_end (ek:=ek) (pk:=pk) (left:=left) h);have HL:=hid (fun(left:Lit->Bool)=>newK_le ek pk left);have HEL:=hid hel;have HPL:=hid hpl;obtain⟨m,hm⟩:∃ m,m=pk.length:=⟨_,rfl⟩;rw[<- hm] at p1 HL HPL;obtain⟨c,hc⟩:∃ c,c=ek.length:=⟨_,rfl⟩;rw[<- hc] at hlen HE HEL;obtain⟨R,hR⟩:∃ R,R=(uniN ek pk).length:=⟨_,rfl⟩;rw[<- hR] at HE |-
 clear h p2 p3 p4 p5 hel hpl hm hc hR;go_enter Tryz.func72,Tryz.ntmps72
 go_wp2_with (first
  |(at_range;refine wpList_range_own _ rfl _ 90 rfl 3 30 iKeyed Tryz.underlying90 hdr bp m D rfl p1 ?_;intro w0 hrg0 hg0 hs0)
  |go_in)
 go_frame
 have HB0:=hid ((Below.refl w.heap.size w).grown hg0 (Nat.le_refl _) (fun k hk=>by cases hk))
 go_loopw [3] (fun i wr=>∃ (left:Lit->Bool) (cnt k:Nat),Hid (wr.ranges Tryz.prog 3 hdr bp w.heap.size m D left cnt)/\Hid (c+newK ek pk left=k)/\i=.int .i64 k/\Below w.heap.size w wr)
  (fun _ wr=>wr.rangeLeft bp w.heap.size)
 case atStart=>
  exact⟨_,_,c,hid hrg0,hid (by rw[HS.out];rfl),rfl,HB0.out⟩
 case round=>
  obtain⟨left,cnt,k,HRG,HK,rfl,hbr⟩:=hrel;have HBR:=hid hbr;have hrg:=HRG.out;have h2k:k<=2000:=by have:=HL.out left;have:=HK.out;have:=HEL.out;have:=HPL.out;omega
  clear hrg0 hg0 hs0 p1 c2 c3 hlen hbr
  go_wp2_with (first
   |(at_next;refine wpList_next_ranges _ rfl _ rfl 3 iKeyed hdr (Value.int .i64) id (fun key kl hk=>by obtain⟨x,e,_⟩:=Maps.keyOf_i64 Tryz.underlying3 hk;exact⟨x,e⟩) (fun v _ _=>⟨v,rfl⟩) bp w.heap.size m _ _ _ rfl hrg ?_ ?_)
   |go_in)
  . intro hc0 hl0
    have he:k=R:=HK.out.symm.trans (HE.out left hl0);subst he;clear hrg;go_wp2;go_ret;exact⟨rfl,HBR.out⟩
  . intro x u kl y1 y2 w1 cnt1 hkey hlk hRv hat hrg1 hlt hg1 hs1 hen
    obtain⟨x',e1,rfl,hwf⟩:=Maps.keyOf_i64 Tryz.underlying3 hkey;cases e1
    have hb1:Below w.heap.size w w1:=HBR.out.grown hg1 HBR.out.size (fun j hj=>by cases hj;exact Nat.le_refl _);have hm1:=HB.out w1 hb1;have hin:x∈pk:=by
     have:=Maps.has_true_of_atKey hat;rw[HH.out x] at this;exact of_decide_eq_true this
    have hk1:=newK_step HN.out hin hlk (ek:=ek);have c2:=hm1.c2;have hlo:=hm1.me.look_ok hwf;obtain⟨uu,huu⟩:∃ uu,uu=(if x∈ek then eg x else .slice none 0 0):=⟨_,rfl⟩;rw[<- huu] at hlo;have HRG1:=hid hrg1;have HLT:=hid hlt;have HB1:=hid hb1;have hwr:IntKind.i64.wrap ((k:Int)+1)=(k:Int)+1:=IntWalk.i64_in _ (by omega);by_cases hxe:x∈ek
    . rw[decide_eq_true hxe] at hlo
      rw[if_pos hxe] at hk1;have HK1:=hid hk1;clear hk1 hrg hrg1 hlt hb1 hm1 hkey hlk hRv hat hg1 hs1 huu hin hxe hwf;go_wp2;go_roundw
      case rel=>exact⟨_,cnt1,k,HRG1,hid (by rw[HK1.out];exact HK.out),rfl,HB1.out⟩
      case measure=>rw[HRG1.out.left_eq,HRG.out.left_eq];exact HLT.out
    . rw[decide_eq_false hxe] at hlo
      rw[if_neg hxe] at hk1;have HK1:=hid hk1;clear hk1 hrg hrg1 hlt hb1 hm1 hkey hlk hRv hat hg1 hs1 huu hin hxe hwf;go_wp2;go_roundw
      case rel=>exact⟨_,cnt1,k+1,HRG1,hid (by rw[HK1.out,<- HK.out];omega),rfl,HB1.out⟩
      case measure=>rw[HRG1.out.left_eq,HRG.out.left_eq];exact HLT.out
end
def zTx:Obj:=.cells #[.int .u32 0,.slice none 0 0,.slice none 0 0] 183
theorem rowT{w:World}{g:Nat}{a b c:Value}(h:w.heap[g]? =some (.cells #[a,b,c] 183 (0,0))):
 (w.cell? ⟨g,0,none⟩=some a/\w.cell? ⟨g,1,none⟩=some b/\w.cell? ⟨g,2,none⟩=some c)/\w.frozen? ⟨g,0,none⟩=false/\w.frozen? ⟨g,1,none⟩=false/\w.frozen? ⟨g,2,none⟩=false:=by
 refine⟨⟨?_,?_,?_⟩,?_,?_,?_⟩
 . rw[cell_of_row _ _ _ _ _ _ h];rfl
 . rw[cell_of_row _ _ _ _ _ _ h];rfl
 . rw[cell_of_row _ _ _ _ _ _ h];rfl
 all_goals simp[World.frozen?,h]
theorem keep3{W:World}{b g:Nat}{x y u0 u1 u2:Value}(h:W.cell? ⟨b,1,none⟩=some x/\W.cell? ⟨b,2,none⟩=some y)(hne:b≠g):
 (((W.setCell ⟨g,0,none⟩ u0).setCell ⟨g,1,none⟩ u1).setCell ⟨g,2,none⟩ u2).cell? ⟨b,1,none⟩=some x/\(((W.setCell ⟨g,0,none⟩ u0).setCell ⟨g,1,none⟩ u1).setCell ⟨g,2,none⟩ u2).cell? ⟨b,2,none⟩=some y:=by
 have e:(((W.setCell ⟨g,0,none⟩ u0).setCell ⟨g,1,none⟩ u1).setCell ⟨g,2,none⟩ u2).heap[b]? =W.heap[b]? :=by
  rw[heap_setCell_other _ ⟨g,2,none⟩ _ _ hne,heap_setCell_other _ ⟨g,1,none⟩ _ _ hne,heap_setCell_other _ ⟨g,0,none⟩ _ _ hne]
 exact⟨(World.cell?_of_block e).trans h.1,(World.cell?_of_block e).trans h.2⟩
theorem Wrote.and{a b c:World}{g:Nat}(h:Wrote a b g)(k:Wrote b c g):Wrote a c g:=⟨k.1.trans h.1,k.2.1.trans h.2.1,k.2.2.1.trans h.2.2.1,k.2.2.2.1.trans h.2.2.2.1,fun i hi=>(k.2.2.2.2 i hi).trans (h.2.2.2.2 i hi)⟩
theorem wrote3(W:World)(g:Nat)(u0 u1 u2:Value):Wrote W (((W.setCell ⟨g,0,none⟩ u0).setCell ⟨g,1,none⟩ u1).setCell ⟨g,2,none⟩ u2) g:=((Wrote.setCell W g 0 u0).and (Wrote.setCell _ g 1 u1)).and (Wrote.setCell _ g 2 u2)
theorem fin3{n1:Nat}{w1 W:World}{g:Nat}{q:Int}{no:Option Addr}{L nc:Nat}{l:List Int}{a0 a1 a2:Value}(HS1:n1=w1.heap.size)(hb:Below n1 w1 W)(hg:W.heap[g]? =some (.cells #[a0,a1,a2] 183 (0,0)))(hi:IR W n1 (.slice no L nc) l)(hn:n1<=g):
 ∃ g' no' nc',Value.pointer (some ⟨g,0,none⟩)=.pointer (some ⟨g',0,none⟩)/\n1<=g'/\Below n1 w1 (((W.setCell ⟨g,0,none⟩ (.int .u32 q)).setCell ⟨g,1,none⟩ (.slice no L nc)).setCell ⟨g,2,none⟩ (.slice none 0 0))/\
   (((W.setCell ⟨g,0,none⟩ (.int .u32 q)).setCell ⟨g,1,none⟩ (.slice no L nc)).setCell ⟨g,2,none⟩ (.slice none 0 0)).heap[g']? =some (.cells #[.int .u32 q,.slice no' L nc',.slice none 0 0] 183 (0,0))/\
   IR (((W.setCell ⟨g,0,none⟩ (.int .u32 q)).setCell ⟨g,1,none⟩ (.slice no L nc)).setCell ⟨g,2,none⟩ (.slice none 0 0)) n1 (.slice no' L nc') l:=by
 have hw:=wrote3 W g (.int .u32 q) (.slice no L nc) (.slice none 0 0);refine⟨g,no,nc,rfl,hn,hb.trans (hw.below hn),?_,hi.wrote hw hg (by decide)⟩;have e1:=heap_setCell_same W g 0 _ _ (.int .u32 q) hg;have e2:=heap_setCell_same _ g 1 _ _ (.slice no L nc) e1;exact heap_setCell_same _ g 2 _ _ (.slice none 0 0) e2
theorem step_append_run{ops:Array Oper}{o:Oper}{a:Act}{w:World}{K:Act->World->Prop}{Q:Exit->Act->World->Prop}{E:Prop}(hgd:o.guard=none)(s y:Operand)(T ty:TypeId)
 (ho:o.op=.call { callee:=.builtin .append,args:=#[s,y],argTypes:=#[T,T] }) (hty:o.type=ty) (u v v5:Value) (w5:World) (hs:a.eval s=u) (hy:a.eval y=v) (hrun:(Builtin.append_ #[T,T] ty #[u,v]).run Tryz.prog w=.ok v5 w5)
 (h:K (a.put o.dst v5) w5):if Region.wanted o (yielded ops a.tmps)=true then Oper.wp Tryz.prog o a w K Q else E:=by
 rw[if_pos (by simp[Region.wanted,hgd])];unfold Oper.wp execOp;simp only[ho,hty,resolve,invoke,builtin,Sem.run_bind,Sem.run_pure,Result.andThen_ok,List.map_toArray,List.map_cons,List.map_nil,hs,hy,hrun];exact h
theorem bb2_wrote{w w':World}{B g:Nat}{v:Value}{L:List (List Int)}(h:BB2 w B 0 v L)(hw:Wrote w w' g){cur:Array Value}(hg:w.heap[g]? =some (.cells cur 183 (0,0))):BB2 w' B 0 v L:=by
 obtain⟨vs,hl,hr,ho⟩:=h;refine⟨vs,hl,fun j hj=>(hr j hj).wrote hw (Nat.zero_le _) hg (by decide),Zcx ho fun r hr=>hw.2.2.2.2 r fun e=>?_⟩;rcases ho.2 with⟨hv,_⟩| ⟨g',cap,cur',hv,_,hh,_⟩
 . rw[hv] at hr;simp[Value.ownBlock] at hr
 . rw[hv] at hr
   obtain rfl:g'=r:=by simpa [Value.ownBlock] using hr
   rw[e,hg] at hh
   injection hh with hh
   injection hh with _ e2
   exact absurd e2 (by decide)
theorem ir_lower{w:World}{B:Nat}{v:Value}{l:List Int}(h:IR w B v l):IR w 0 v l:=⟨h.1,h.2.imp id fun⟨g,cap,cur,hv,_,r⟩=>⟨g,cap,cur,hv,Nat.zero_le _,r⟩⟩
theorem hold_alloc{w:World}{p:Nat}{o:Obj}(h:w.heap[p]? =some o)(o':Obj):(w.alloc o').heap[p]? =some o:=(Below.block (Zaa w o') p (Array.getElem?_eq_some_iff.1 h).1).trans h
theorem ir_at{w:World}{B:Nat}{v:Value}{l:List Int}(h:IR w B v l){r:Nat}(hr:v.ownBlock=some r):r<w.heap.size/\∃ cur,w.heap[r]? =some (.cells cur 3 (0,0)):=by
 rcases h.2 with⟨hv,_⟩| ⟨g,cap,cur,hv,_,hh,_⟩
 . rw[hv] at hr;simp[Value.ownBlock] at hr
 . rw[hv] at hr
   obtain rfl:g=r:=by simpa [Value.ownBlock] using hr
   exact⟨(Array.getElem?_eq_some_iff.1 hh).1,cur,hh⟩
section
variable {w:World}{Pd:Nat->Prop}{b be bp:Nat}{d:Value}{q:Int}{ek:List Int}{eg:Int->Value}{ev:Int->List Int}{pk:List Int}{pg:Int->Value}{pv:Int->List Int}{wi:Bool}{ds:DS}
set_option maxHeartbeats 400000 in
theorem sTrans_of(h:SMem w Pd b be bp d q ek eg ev pk pg pv wi ds)(hel:ek.length<=37):Calls Tryz.prog 121 #[.pointer (some ⟨b,0,none⟩)] w fun e w'=>
 ∃ vN vD,e=.returned (.agg #[.int .u32 q,vN,vD])/\IR w' 0 vN (Zak ek)/\BBR w' 0 vD ((Zak ek).map ev)/\Below w.heap.size w w':=by
 obtain⟨w1,hw1⟩:∃ w1,w1=w.alloc zTx:=⟨_,rfl⟩;have hb1:Below w.heap.size w w1:=by rw[hw1];exact Zaa w _
 have h1:=h.below hb1;have HS:=hid (fun(W:World) (hb:Below w1.heap.size w1 W)=>show W.cell? ⟨b,1,none⟩=some (.int .u32 q)/\W.cell? ⟨b,2,none⟩=some (.map (some be)) from⟨(h1.below hb).c1,(h1.below hb).c2⟩);have KK:=hid (fun(W:World) (hb:Below w1.heap.size w1 W)=>(mKeys_of be W).mono (R':=fun e wk=>∃ p,e=.returned (.func (.func 196) #[] #[.pointer (some ⟨p,0,none⟩)])/\wk.heap[p]? =some (.cells #[.map (some be)] 90 (0,0))/\Below w1.heap.size w1 wk/\Below W.heap.size W wk) (fun e wk ⟨he,hk⟩=>by
  subst hk;exact⟨_,he,heap_alloc_new W _,hb.trans ((Zaa W _).mono hb.size),Zaa W _⟩))
 have KS:=hid (fun(W:World) (p:Nat) (hb:Below w1.heap.size w1 W) (hp:W.heap[p]? =some (.cells #[.map (some be)] 90 (0,0)))=>(slSorted_of (h1.below hb).me hp (by omega)).mono (R':=fun e wk=>∃ no nc,e=.returned (.slice no (Zak ek).length nc)/\IR wk w1.heap.size (.slice no (Zak ek).length nc) (Zak ek)/\Below w1.heap.size w1 wk/\Below W.heap.size W wk) (fun e wk ⟨v,he,hi,hk⟩=>by
  obtain⟨_,no,nc,rfl,_⟩:=hi.isc;exact⟨no,nc,he,⟨hi.1,hi.2.imp id fun⟨g,cap,cur,hv,hg,r⟩=>⟨g,cap,cur,hv,Nat.le_trans hb.size hg,r⟩⟩,hb.trans (hk.mono hb.size),hk⟩))
 have HAL:=hid (fun(W:World) (o:Obj) (hb:Below w1.heap.size w1 W)=>show Below w1.heap.size w1 (W.alloc o) from hb.trans ((Zaa W _).mono hb.size));have b0:Below w1.heap.size w1 w1.drew:=Zab (Below.refl _ _) 1;have HW1:=hid hw1;have HB1:=hid hb1;clear h hw1 hb1;go_enter Tryz.func121,Tryz.ntmps121;go_upto_region 1 with(fail)
 rw[show w.alloc (.cells #[.int .u32 0,.slice none 0 0,.slice none 0 0] 183)=w1 from HW1.out.symm];obtain⟨n1,hn1⟩:∃ n1,n1=w1.heap.size:=⟨_,rfl⟩;rw[<- hn1] at HS KK KS HAL b0;obtain⟨L,hL⟩:∃ L,L=(Zak ek).length:=⟨_,rfl⟩;rw[<- hL] at KS;have s0:=HS.out _ b0;have bA:Below n1 w1 (w1.alloc (.cells #[.int .u32 0,.slice none 0 0,.slice none 0 0] 183)).drew:=Zab (HAL.out _ _ (by rw[hn1];exact Below.refl _ _)) 1;have sA:=HS.out _ bA;have hA:(w1.alloc (.cells #[.int .u32 0,.slice none 0 0,.slice none 0 0] 183)).drew.heap[w1.heap.size]? =some (.cells #[.int .u32 0,.slice none 0 0,.slice none 0 0] 183 (0,0)):=heap_alloc_new w1 _;have HN1:=hid hn1;have HL:=hid hL;have HBL:=hid h1.bl;have HMEM:=hid (fun(W:World) (hb:Below w1.heap.size w1 W)=>h1.below hb);clear hn1 hL h1
 go_cut [3] from 6 (fun t3 wc=>∃ g no nc,t3=.pointer (some ⟨g,0,none⟩)/\n1<=g/\Below n1 w1 wc/\wc.heap[g]? =some (.cells #[.int .u32 q,.slice no L nc,.slice none 0 0] 183 (0,0))/\IR wc n1 (.slice no L nc) (Zak ek))
 case first=>
  go_region_held3 (fun W=>W.cell? ⟨b,1,none⟩=some (.int .u32 q)/\W.cell? ⟨b,2,none⟩=some (.map (some be))) (first|with_reducible exact keep3 (HS.out _ bS) hg1|with_reducible exact keep3 (HS.out _ bS) hg2|with_reducible exact keep3 (HS.out _ (HAL.out _ _ bS)) hg3|with_reducible exact HS.out _ bS|with_reducible exact HS.out _ (HAL.out _ _ bS)|with_reducible exact HS.out _ bK|with_reducible exact HS.out _ (HAL.out _ _ bK)|with_reducible exact sA|with_reducible exact s0) (first
   |(go_at_call 160;(with_reducible refine(KK.out _ (by first|with_reducible exact b0|with_reducible exact bA)).mono ?_);rintro e wk ⟨p,rfl,hp,bK,bKW⟩
     try have yK:=(by with_reducible exact hold9 hA bKW))
   |(go_at_call 159;(with_reducible refine(KS.out _ _ (by first|with_reducible exact bK|with_reducible exact HAL.out _ _ bK) (by first|with_reducible exact hp|with_reducible exact hold_alloc hp _)).mono ?_);rintro e ws ⟨no,nc,rfl,hir,bS,bSW⟩
     first
      |(have xS:=(by with_reducible exact hold9 yK bSW);obtain⟨⟨x0,x1,x2⟩,y0,y1,y2⟩:=rowT xS)
      |(have xS:ws.heap[wk.heap.size]? =some (.cells #[.int .u32 0,.slice none 0 0,.slice none 0 0] 183):=(by with_reducible exact hold9 (heap_alloc_new wk _) bSW)
        obtain⟨⟨x0,x1,x2⟩,y0,y1,y2⟩:=rowT xS)
      |skip
     have hg1:b≠w1.heap.size:=by have:=HBL.out;omega
     have hg2:b≠wk.heap.size:=by have:=HBL.out;have:=bK.size;omega
     have hg3:b≠ws.heap.size:=by have:=HBL.out;have:=bS.size;omega))
  . go_wp2_with fail
    go_meet
    exact⟨ws.heap.size,no,nc,rfl,by have:=HN1.out;have:=bS.size;omega,HAL.out _ _ bS,heap_alloc_new ws _,hir.below (Zaa ws _)⟩
  . go_wp2_with fail
    go_meet
    exact fin3 (HS1:=HN1.out) bS xS hir (by have:=HN1.out;have:=bK.size;omega)
  . go_wp2_with fail
    go_meet
    exact fin3 (HS1:=HN1.out) bS xS hir (by have:=HN1.out;omega)
 case rest=>
  obtain⟨g,no,nc,rfl,hgn,hbc,hgc,hir⟩:=hcut;clear s0 bA sA hA b0;obtain⟨m1,hm1⟩:∃ m1,m1=wc.heap.size:=⟨_,rfl⟩;have hgm:g<m1:=by rw[hm1];exact(Array.getElem?_eq_some_iff.1 hgc).1
  obtain⟨⟨y0,y1,y2⟩,_⟩:=rowT hgc;have HSM:=hid (fun(W:World) (hb:Below n1 w1 W)=>HMEM.out W (HN1.out ▸ hb));have HCN:=hid (fun(W:World) (hk:∀ j,j<m1->j≠g->W.heap[j]? =wc.heap[j]?)=>show IR W n1 (.slice no L nc) (Zak ek) from Zcx hir fun r hr=>hk r (by rw[hm1];exact(ir_at hir hr).1) (fun e=>by
   obtain⟨cur,hh⟩:=(ir_at hir hr).2;rw[e,hgc] at hh
   injection hh with hh
   injection hh with _ e2
   exact absurd e2 (by decide)))
  have HGM:=hid hgm;have HGN:=hid hgn;have HW0:Hid (∀ W,Below n1 w1 W->W.heap[w.heap.size]? =some (.cells #[.int .u32 0,.slice none 0 0,.slice none 0 0] 183 (0,0))):=hid (fun W hb=>by
   have e1:w1.heap[w.heap.size]? =some zTx:=by rw[HW1.out];exact heap_alloc_new w zTx
   rw[hb.block _ (by rw[HN1.out,HW1.out];simp),e1];rfl)
  have HST:Hid (wc.heap[g]? =some (.cells #[.int .u32 q,.slice no L nc,.slice none 0 0] 183 (0,0))):=hid hgc;have HSB:Hid (BB2 wc m1 0 (.slice none 0 0) []):=hid ⟨[],rfl,fun j hj=>absurd hj (Nat.not_lt_zero _),World.ownsRow_nil _ _ _ _⟩;have HSE:=hid hbc;have HSZ:Hid (m1<=wc.heap.size):=hid (by omega);have HELS:=hid (fun k (hk:k<L)=>show(Zak ek).getD k 0∈ek/\(Zak ek).take (k+1)=(Zak ek).take k ++ [(Zak ek).getD k 0] from by
   rw[HL.out] at hk;refine⟨?_,?_⟩
   . rw[List.getD_eq_getElem?_getD,List.getElem?_eq_getElem hk];exact mem_sortN.1 (List.getElem_mem hk)
   . rw[List.take_add_one,List.getD_eq_getElem?_getD,List.getElem?_eq_getElem hk];rfl)
  have HL37:Hid (L<=37):=hid (by rw[HL.out,Zff];exact hel);clear hgn hbc hgc hir hgm hm1 hel HS KK KS HAL;go_wp2;go_loopw [20] (fun i wr=>∃ (k:Nat) (vD:Value),k<=L/\i=.int .i64 k/\Hid (wr.heap[g]? =some (.cells #[.int .u32 q,.slice no L nc,vD] 183 (0,0)))/\Hid (BB2 wr m1 0 vD (((Zak ek).take k).map ev))/\Hid (Below n1 w1 wr)/\Hid (m1<=wr.heap.size/\∀ j,j<m1->j≠g->wr.heap[j]? =wc.heap[j]?)) (fun i _=>L-(intOf i).toNat)
  case atStart=>exact⟨0,.slice none 0 0,by omega,rfl,HST,HSB,HSE,hid ⟨HSZ.out,fun _ _ _=>rfl⟩⟩
  case round=>
   obtain⟨k,vD,hk,rfl,HG,HB,HE,HZ⟩:=hrel;clear HST HSB HSE HSZ y0 y1 y2;obtain⟨⟨y0,y1,y2⟩,f0,f1,f2⟩:=rowT HG.out;obtain⟨vo,vc,rfl,_⟩:=(HB.out.lower (Nat.zero_le _)).bbr.sl.shape;by_cases hlt:k<L
   . obtain⟨hx,htk⟩:=HELS.out k hlt
     have hm:=HSM.out wr HE.out;obtain⟨no',nc',e1,q1⟩:=(HCN.out wr HZ.out.2).sl.open';obtain⟨rfl,rfl⟩:=And.intro (Value.slice.inj e1).1 (Value.slice.inj e1).2.2;rw[<- HL.out] at q1;obtain⟨b1,o1,rfl,_,c1⟩:=q1 (by omega);have z1:=c1 k hlt;have c2:=hm.c2;have hlo:=hm.me.look hx;obtain⟨gx,cx,cur,hv,_⟩:=(hm.re _ hx).row;have HBE:Hid (BElt wr.drew 0 (eg ((Zak ek).getD k 0)) (ev ((Zak ek).getD k 0))):=hid ((hm.re _ hx).1.elt.below (Zab (Below.refl _ _) 1));rw[hv] at hlo HBE;obtain⟨x,hxx⟩:∃ x,x=(Zak ek).getD k 0:=⟨_,rfl⟩;rw[<- hxx] at z1 hlo HBE htk;have HTK:=hid htk;have HRD:=hid (HB.out.below (Below.refl _ wr).drew);have HLN:Hid ((((Zak ek).take k).map ev).length<=100000):=hid (by rw[List.length_map,List.length_take];have:=HL37.out;omega);have HM1:Hid (m1<=wr.drew.heap.size):=hid HZ.out.1;have ek':(k:Int)<(L:Int):=by omega
     obtain⟨W1,hW1⟩:∃ W1,W1=(wr.alloc (.cells #[.slice (some ⟨gx,0,none⟩) 256 cx] 30)).drew:=⟨_,rfl⟩;have hbW:Below wr.heap.size wr W1:=by rw[hW1];exact Zab (Zaa wr _) 1
     have hone:BB2 W1 m1 0 (.slice (some ⟨wr.heap.size,0,none⟩) 1 1) [ev x]:=by rw[hW1];exact bb2_one (B:=m1) HBE.out HM1.out
     obtain⟨v5,w5,hrun5,hv5,hb5,_⟩:=Zfp 96 Tryz.underlying96 W1 m1 0 (Nat.zero_le _) 96 _ _ (HB.out.below hbW) (.slice (some ⟨wr.heap.size,0,none⟩) 1 1) [ev x] (BBR.be (BB2.bbr (hone.lower (Nat.zero_le _)))) (by have:=HLN.out;simp only[List.length_singleton];omega) (Nat.le_trans HZ.out.1 hbW.size);have HG5:=(hb5.block g HGM.out).trans ((hbW.block g (Nat.lt_of_lt_of_le HGM.out HZ.out.1)).trans HG.out);obtain⟨⟨z0,z1',z2⟩,g0,g1,g2⟩:=rowT HG5;obtain⟨vo5,vc5,rfl,_⟩:=(hv5.lower (Nat.zero_le _)).bbr.sl.shape;have HV5:=hid hv5;have HB5:=hid (show Below m1 wr w5 from(hbW.mono HZ.out.1).trans hb5);have HG5':=hid HG5;have a2:=(hbW.cell (p:=⟨g,2,none⟩) (Nat.lt_of_lt_of_le HGM.out HZ.out.1)).trans y2;have d2:=(show wr.drew.cell? ⟨g,2,none⟩=wr.cell? ⟨g,2,none⟩ from rfl).trans y2;have d3:wr.drew.cell? ⟨b,2,none⟩=some (.map (some be)):=c2;have hlo':=(HSM.out wr.drew (Zab HE.out 1)).me.look hx;rw[hv,<- hxx] at hlo';rw[hW1] at hrun5 a2;clear hv5 hb5 hbW hone hW1 HG5 HLN hx htk hm e1 q1 c1 hv hxx hlo;generalize ((((Zak ek).take k).map ev) ++ [ev x]).length=K2 at HV5 hrun5;generalize (((Zak ek).take k).map ev).length=K1 at HB HRD hrun5 a2 d2 y2 HG z2 HG5';have hwr6:=Wrote.setCell w5 g 2 (.slice vo5 K2 vc5);have HR1:=hid (heap_setCell_same w5 g 2 _ _ (.slice vo5 K2 vc5) HG5'.out);have HR2:Hid (BB2 (w5.setCell ⟨g,2,none⟩ (.slice vo5 K2 vc5)) m1 0 (.slice vo5 K2 vc5) (((Zak ek).take (k+1)).map ev)):=hid (by
      rw[HTK.out,List.map_append];exact bb2_wrote HV5.out hwr6 HG5'.out)
     have HR3:Hid (Below n1 w1 (w5.setCell ⟨g,2,none⟩ (.slice vo5 K2 vc5))):=hid ((HE.out.trans (HB5.out.mono (by have:=HGN.out;have:=HGM.out;omega))).trans (hwr6.below HGN.out));have HR4:Hid (m1<=(w5.setCell ⟨g,2,none⟩ (.slice vo5 K2 vc5)).heap.size/\∀ j,j<m1->j≠g->(w5.setCell ⟨g,2,none⟩ (.slice vo5 K2 vc5)).heap[j]? =wc.heap[j]?):=hid ⟨by rw[hwr6.2.2.2.1];exact Nat.le_trans HZ.out.1 HB5.out.size,fun j hj hn=>(hwr6.2.2.2.2 j hn).trans ((HB5.out.block j hj).trans (HZ.out.2 j hj hn))⟩;clear hwr6;go_wp2
     go_region_law (refine step_append_run (by rfl) (.tmp 25) (.tmp 32) 96 96 (by rfl) (by rfl) _ _ _ _ (by rfl) (by rfl) hrun5 ?_)
     all_goals
      have hk37:L<=37:=HL37.out;go_wp2;go_roundw
      case rel=>exact⟨k+1,_,by omega,by go_num,HR1,HR2,HR3,HR4⟩
      case measure=>simp[intOf];omega
   . obtain rfl:k=L:=by omega
     have hw0:=HW0.out wr HE.out;generalize (((Zak ek).take k).map ev).length=K1 at HB y2 HG;go_wp2_with (with_reducible refine Zag rfl 183 Zeb (.tmp 2) (.tmp 36) rfl w.heap.size rfl _ _ _ _ _ _ rfl rfl rfl rfl _ hw0 ?_;intro w9 hw9 hr9)
     refine bodyPost_ret (v:=.agg #[.int .u32 q,.slice no k nc,.slice vo K1 vc]) (results_cell_row rfl _ _ w.heap.size _ _ (0,0) _ rfl hr9 Tryz.underlying183 rfl (by rw[Zeb];rfl)) rfl ⟨_,_,rfl,?_,?_,?_⟩
     . exact ir_lower ((HCN.out wr HZ.out.2).wrote hw9 hw0 (by decide))
     . have e1:(Zak ek).take k=Zak ek:=List.take_of_length_le (by rw[HL.out];exact Nat.le_refl _)
       have h9:=bb2_wrote HB.out hw9 hw0;rw[e1] at h9;exact(h9.lower (Nat.zero_le _)).bbr
     . exact HB1.out.trans (((HE.out.mono (by rw[HN1.out];exact HB1.out.size))).trans (hw9.below (Nat.le_refl _)))
end
end Go.Proofs.YtedabomlfcghoaaGreat
namespace Go.Proofs.YtedabomlfcghoaaGreat
set_option maxRecDepth 100000
open Go.RowKit
theorem ok_dn{t:DS}(hok:t.ok=true)(hdn:t.dn=false):t.pay.dn=false:=by
 have:pDn t.fu t.le t.dn=false:=by
  unfold DS.ok pOk at hok;unfold pDn
  revert hok
  rw[hdn];cases t.fu <;> simp
 exact this
theorem runA_dn:∀ (A:List PA) (t:DS),(runA A t).1=0->t.dn=false->(runA A t).2.dn=false
 |[],_,_,h=>h
 |a :: A,t,h0,hdn=>by
  rw[Zby] at h0 |-
  cases hok:t.ok
  . rw[hok,if_neg Bool.false_ne_true] at h0
    exact absurd (show(2:Int)=0 from h0) (by decide)
  . rw[hok,if_pos rfl] at h0
    rw[if_pos rfl];refine runA_dn A _ h0 ?_;have:=ok_dn hok hdn;cases a <;> exact this
theorem Lst.flush{n:Nat}{s:DS}{G:List (List Int)}(h:Lst n s G)(h43:43<=n):Lst n s.flush G:=by
 obtain⟨h1,h2,h3⟩:=h;have hz:s.flush.F.length=n:=by show s.vis.length=n;rw[DS.vis_length];exact h1
 refine⟨hz,?_,?_⟩
 . rw[DS.flush_vis];exact h2
 . rcases h3 with⟨q,N,D,Z,a,b,c,e⟩| ⟨a,b⟩
   . have hzz:Z.length=n:=b.1.symm.trans h1
     exact .inl ⟨q,N,D,Z,a,b.home a.1 (by rw[hzz];exact a.far) (by omega) c,fun x hx=>(by cases hx),e⟩
   . refine .inr ⟨?_,rfl⟩
     show InvN s.vis G
     rw[Zjn b];exact a
def setA(q:Int)(N:List Int)(D:List (List Int)):List PA:=layA q (Zdn q N D) ++ (Zap N D ++ [.f])
theorem set_len{n:Nat}{N:List Int}{D:List (List Int)}(hT:okT n N D)(q:Int):(setA q N D).length<=100:=by
 obtain⟨h1,h2,_⟩:=Zct hT.1;unfold setA layA Zdn Zap Zat;simp only[List.length_append,List.length_map,List.length_range,List.length_cons,List.length_nil];omega
theorem set_plain{n:Nat}{s:DS}{G:List (List Int)}(h:Lst n s G)(h43:43<=n)(hU:s.U=[])(hd:s.dn=false){q:Int}{N:List Int}{D:List (List Int)}(hT:okT n N D)(hq:0<=q/\q<4294967296):
 let r:=runA (setA q N D) s
 (r.1=0->r.2.dn=false/\r.2.U=[]/\Lst n r.2 (appU (Zat N D) G))/\(r.1=2->s.fu=true/\DeadOk n r.2 [G,appU (Zat N D) G]):=by
 intro r;have hlen:=Zdw (setA q N D) s;have hsl:=set_len hT q;have hF:r.2.F.length=n:=hlen.1.trans h.1;have hU1:r.2.U.length<=1000:=by
  have h2:r.2.U.length<=s.U.length+(setA q N D).length:=hlen.2;rw[hU] at h2;simp at h2;omega
 have hfu:r.1=2->s.fu=true:=fun h2=>by
  cases hf:s.fu
  . have:=(Zjq (setA q N D) s hf hd).1
    have h2':(runA (setA q N D) s).1=2:=h2;rw[this] at h2';cases h2'
  . rfl
 have hw:=h.write h43 hT hq;have er:r=if (runA (layA q (Zdn q N D)) s).1=0 then runA (Zap N D ++ [.f]) (runA (layA q (Zdn q N D)) s).2 else runA (layA q (Zdn q N D)) s:=Zbz _ _ _
 by_cases h1:(runA (layA q (Zdn q N D)) s).1=0
 . rw[if_pos h1] at er
   have hm:=hw.2 h1;have hd1:=runA_dn _ _ h1 hd;generalize (runA (layA q (Zdn q N D)) s).2=s1 at er hm hd1;obtain⟨k1,k2⟩:=hm.home h43 hT;have er2:=Zbz (Zap N D) [.f] s1;by_cases h2:(runA (Zap N D) s1).1=0
   . rw[if_pos h2] at er2
     have hl:=k2 h2;have hd2:=runA_dn _ _ h2 hd1;generalize (runA (Zap N D) s1).2=s2 at er2 hl hd2;rw[er2] at er;cases hok:s2.ok
     . have e3:runA [.f] s2=(2,s2.pay):=by rw[Zby,hok,if_neg (by decide)]
       rw[e3] at er;rw[er];refine⟨fun e=>absurd (show(2:Int)=0 from e) (by decide),fun e=>⟨hfu (by rw[er]),by rw[er] at hU1;exact hU1,by rw[er] at hF;exact hF,fun kp=>⟨_,by simp,hl.pay.crash h43 (kpOf kp)⟩⟩⟩
     . have e3:runA [.f] s2=(0,s2.flush):=by rw[Zby,hok,if_pos rfl];rfl
       rw[e3] at er;rw[er];exact⟨fun _=>⟨ok_dn hok hd2,rfl,hl.flush h43⟩,fun e=>absurd (show(0:Int)=2 from e) (by decide)⟩
   . rw[if_neg h2] at er2
     rw[er2] at er;have h2':=(Zdv (Zap N D) s1).resolve_left h2;refine⟨fun e=>absurd (by rw[er] at e;exact e) h2,fun e=>⟨hfu e,hU1,hF,fun kp=>⟨appU (Zat N D) G,by simp,?_⟩⟩⟩;rw[er];exact k1 (kpOf kp)
 . rw[if_neg h1] at er
   have h1':=(Zdv (layA q (Zdn q N D)) s).resolve_left h1;refine⟨fun e=>absurd (by rw[er] at e;exact e) h1,fun e=>⟨hfu e,hU1,hF,fun kp=>?_⟩⟩;rw[er];rcases hw.1 (kpOf kp) h1' with k|k
   . exact⟨_,by simp,k⟩
   . exact⟨_,by simp,k⟩
theorem set_get{l:List Int}(j:Nat)(hj:j<l.length):l.getD j 0∈l:=by
 rw[List.getD_eq_getElem?_getD,List.getElem?_eq_getElem hj];exact List.getElem_mem hj
theorem set_ok{n:Nat}{ek:List Int}{ev:Int->List Int}(hn:ek.Nodup)(hl:ek.length<=37)(hk:∀ x∈ek,inK n x)(h768:n<=768)(hv:∀ x∈ek,(ev x).length=256):okT n (Zak ek) ((Zak ek).map ev):=by
 have hmem:∀ j,j<(Zak ek).length->(Zak ek).getD j 0∈ek:=fun j hj=>mem_sortN.1 (set_get j hj)
 have hD:∀ j,j<(Zak ek).length->((Zak ek).map ev).getD j []=ev ((Zak ek).getD j 0):=fun j hj=>by
  simp[List.getD_eq_getElem?_getD,hj]
 refine⟨?_,?_,?_⟩
 . unfold frmT
   rw[decide_eq_true (by rw[Zff];exact hl),decide_eq_true (by rw[List.length_map]),Bool.true_and,Bool.true_and];refine(frmTK_iff _ _ _).2 fun i hi=>?_
   have hm:=hmem i hi;obtain⟨h0,h1,_⟩:=hk _ hm;unfold okT9 inP9;rw[decide_eq_true (by omega),hD i hi,decide_eq_true (hv _ hm),Bool.true_and,Bool.true_and];refine(newT_iff _ i hi).2 fun j hj e=>?_
   have hnd:=sortN_nodup hn;have hj':j<(Zak ek).length:=by omega
   rw[List.getD_eq_getElem?_getD,List.getD_eq_getElem?_getD,List.getElem?_eq_getElem hi,List.getElem?_eq_getElem hj'] at e;exact(List.pairwise_iff_getElem.1 hnd) j i hj' hi hj e
 . exact(Zkf _ _).2 fun k hk'=>(hk _ (hmem k hk')).2.1
 . refine(inJS_no _).2 fun k hk' e=>?_
   have:=(hk _ (hmem k hk')).2.2;unfold OutJ at this;omega
theorem set_is{n:Nat}{ek:List Int}{ev:Int->List Int}{B I:List (List Int)}(hk:∀ x∈ek,inK n x)(hB:B.length=n)(hI:I.length=n)(hv:∀ i,OutJ i->i<n->I.getD i []=if (i:Int)∈ek then ev i else B.getD i []):
 eqO (appU (Zat (Zak ek) ((Zak ek).map ev)) B) I:=by
 have hD:∀ j,j<(Zak ek).length->((Zak ek).map ev).getD j []=ev ((Zak ek).getD j 0):=fun j hj=>by
  simp[List.getD_eq_getElem?_getD,hj]
 refine⟨by rw[Zaj];omega,fun i ho hi=>?_⟩;rw[hv i ho (by omega)];by_cases hin:(i:Int)∈ek
 . rw[if_pos hin]
   refine Zip _ B i _ (by omega) (fun x hx hxi=>?_) ?_
   . unfold Zat at hx
     obtain⟨j,hj,rfl⟩:=List.mem_map.1 hx;have hj':=List.mem_range.1 hj;have h0:=(hk _ (mem_sortN.1 (set_get j hj'))).1;have:(Zak ek).getD j 0=(i:Int):=by
      have h2:((Zak ek).getD j 0).toNat=i:=hxi;omega
     show((Zak ek).map ev).getD j []=ev i
     rw[hD j hj',this]
   . obtain⟨j,hj,e⟩:=List.getElem_of_mem (mem_sortN.2 hin)
     refine⟨(((Zak ek).getD j 0).toNat,((Zak ek).map ev).getD j []),?_,?_⟩
     . unfold Zat
       exact List.mem_map.2 ⟨j,List.mem_range.2 hj,rfl⟩
     . show((Zak ek).getD j 0).toNat=i
       rw[List.getD_eq_getElem?_getD,List.getElem?_eq_getElem hj];show((Zak ek)[j]).toNat=i
       rw[e];rfl
 . rw[if_neg hin]
   refine Zbd _ B i fun x hx hxi=>?_
   unfold Zat at hx;obtain⟨j,hj,rfl⟩:=List.mem_map.1 hx;have hj':=List.mem_range.1 hj;have hm:=mem_sortN.1 (set_get j hj');have h0:=(hk _ hm).1;have h2:((Zak ek).getD j 0).toNat=i:=hxi;exact hin (by rw[show(i:Int)=(Zak ek).getD j 0 by omega];exact hm)
structure Stg (w:World) (Pd:Nat->Prop) (b be bp:Nat) (d:Value) (q:Int) (ek:List Int) (eg:Int->Value) (ev:Int->List Int) (pk:List Int) (pg:Int->Value) (pv:Int->List Int) (wi:Bool) (g:Nat) (vN vD:Value) (N:List Int) (D:List (List Int)) (W:World) (P':Nat->Prop) (s:DS):Prop where
 sm:SMem W P' b be bp d q ek eg ev pk pg pv wi s
 tx:TxVa W P' (.agg #[.int .u32 q,vN,vD]) q N D
 box:W.heap[g]? =some (.cells #[.int .u32 q,vN,vD] 183 (0,0))
 chg:Chg Pd P' w W
def deadRow:Obj:=.cells #[.pointer none,.int .u32 0,.map none,.map none,.bool false,.bool true] 92 (0,0)
section
variable {w:World}{Pd:Nat->Prop}{b be bp:Nat}{d:Value}{q:Int}{ek:List Int}{eg:Int->Value}{ev:Int->List Int}{pk:List Int}{pg:Int->Value}{pv:Int->List Int}{wi:Bool}{g:Nat}{vN vD:Value}{N:List Int}{D:List (List Int)}{W:World}{P':Nat->Prop}{s:DS}
theorem Stg.below(h:Stg w Pd b be bp d q ek eg ev pk pg pv wi g vN vD N D W P' s){W':World}(hb:Below W.heap.size W W'):Stg w Pd b be bp d q ek eg ev pk pg pv wi g vN vD N D W' P' s:=
 ⟨h.sm.below hb,h.tx.chg (Chg.of_below hb),(hb.block g (Array.getElem?_eq_some_iff.1 h.box).1).trans h.box,h.chg.trans (Chg.of_below hb)⟩
theorem Stg.step(h:Stg w Pd b be bp d q ek eg ev pk pg pv wi g vN vD N D W P' s){W':World}{P'':Nat->Prop}{s':DS}(hd:Dk W' P'' d s')(hc:Chg P' P'' W W'):Stg w Pd b be bp d q ek eg ev pk pg pv wi g vN vD N D W' P'' s':=
 ⟨h.sm.disk hd hc,h.tx.chg hc,(hc.keep g (Array.getElem?_eq_some_iff.1 h.box).1 (h.sm.dk.not h.box (by decide) (by decide) (by decide))).1.trans h.box,h.chg.trans hc⟩
theorem Stg.facts(h:Stg w Pd b be bp d q ek eg ev pk pg pv wi g vN vD N D W P' s):W.cell? ⟨b,0,none⟩=some d/\W.cell? ⟨g,0,none⟩=some (.int .u32 q)/\W.cell? ⟨g,1,none⟩=some vN/\W.cell? ⟨g,2,none⟩=some vD:=⟨h.sm.c0,(rowT h.box).1.1,(rowT h.box).1.2.1,(rowT h.box).1.2.2⟩
theorem Stg.write(h:Stg w Pd b be bp d q ek eg ev pk pg pv wi g vN vD N D W P' s)(hB:Zfe s.F.length N D=true)(hU:s.U.length<=900000):
 Calls Tryz.prog 122 #[d,.agg #[.int .u32 q,vN,vD]] W fun e W'=>e=.returned (.int .i64 (runA (layA q (Zdn q N D)) s).1)/\∃ P'',Stg w Pd b be bp d q ek eg ev pk pg pv wi g vN vD N D W' P'' (runA (layA q (Zdn q N D)) s).2:=
 (gWrite_yes h.sm.dk h.tx.v h.sm.q0.1 h.sm.q0.2 hB hU).mono fun e W' ⟨he,P'',hd,hc⟩=>⟨he,P'',h.step hd hc⟩
theorem Stg.home(h:Stg w Pd b be bp d q ek eg ev pk pg pv wi g vN vD N D W P' s)(hB:Zfe s.F.length N D=true)(hU:s.U.length<=900000):
 Calls Tryz.prog 123 #[d,.agg #[.int .u32 q,vN,vD]] W fun e W'=>e=.returned (.int .i64 (runA (Zap N D) s).1)/\∃ P'',Stg w Pd b be bp d q ek eg ev pk pg pv wi g vN vD N D W' P'' (runA (Zap N D) s).2:=
 (gHome_yes h.sm.dk h.tx hB hU).mono fun e W' ⟨he,P'',hd,hc⟩=>⟨he,P'',h.step hd hc⟩
theorem Stg.flush(h:Stg w Pd b be bp d q ek eg ev pk pg pv wi g vN vD N D W P' s)(hU:s.U.length<=900000):
 Calls Tryz.prog 124 #[d] W fun e W'=>e=.returned (.int .i64 (runA [.f] s).1)/\∃ P'',Stg w Pd b be bp d q ek eg ev pk pg pv wi g vN vD N D W' P'' (runA [.f] s).2:=
 (kFlush h.sm.dk (by omega)).mono fun e W' ⟨he,P'',hd,hc⟩=>by
   rw[Zby];cases hok:s.ok
   . rw[hok] at he hd
     exact⟨he,P'',h.step hd hc⟩
   . rw[hok] at he hd
     exact⟨he,P'',h.step hd hc⟩
theorem Stg.over(h:Stg w Pd b be bp d q ek eg ev pk pg pv wi g vN vD N D W P' s):Calls Tryz.prog 108 #[.pointer (some ⟨b,0,none⟩),.int .i64 2] W fun e w'=>e=.returned (.int .i64 2)/\
 ∃ Pd',w'.heap[b]? =some deadRow/\Dk w' Pd' d s/\(∀ k,Pd' k->Pd k\/w.heap.size<=k)/\Ext (fun k=>Pd k\/k=b) w w':=
 (sMet_io h.sm).mono fun e w' ⟨he,hw,hb⟩=>⟨he,P',hb,h.sm.dk.same fun k hk=>hw.2.2.2.2 k fun e=>h.sm.nd (e ▸ hk),fun k hk=>chg_new h.chg hk,
   ((Ext.of_chg h.chg fun k hk=>.inl hk).trans (P2:=fun k=>k=b) (Ext.of_wrote hw rfl) fun k _ e=>.inr e)⟩
theorem Stg.fresh(h:Stg w Pd b be bp d q ek eg ev pk pg pv wi g vN vD N D W P' s){q':Int}(hq:0<=q'/\q'<4294967296):
 let w':=((W.setCell ⟨b,1,none⟩ (.int .u32 q')).setCell ⟨b,2,none⟩ (.map (some W.heap.size))).alloc (.map #[] 0)
 ∃ be' Pd' q'',SMem w' Pd' b be' bp d q'' [] eg ev pk pg pv wi s/\(w.heap.size<=be'/\be'<w'.heap.size)/\(∀ k,Pd' k->Pd k\/w.heap.size<=k)/\Ext (fun k=>Pd k\/k=b) w w':=by
 intro w';obtain⟨w2,hw2⟩:∃ w2,w2=(W.setCell ⟨b,1,none⟩ (.int .u32 q')).setCell ⟨b,2,none⟩ (.map (some W.heap.size)):=⟨_,rfl⟩;have hw':w'=w2.alloc (.map #[] 0):=by rw[hw2]
 have hs2:w2.heap.size=W.heap.size:=by rw[hw2];simp[World.setCell]
 have hwr:Wrote W w2 b:=by rw[hw2];exact(Wrote.setCell W b 1 _).and (Wrote.setCell _ b 2 _)
 have hbb:Below w2.heap.size w2 w':=by rw[hw'];exact Zaa w2 _
 have hbW:=h.sm.bl;have e1:=heap_setCell_same W b 1 _ _ (.int .u32 q') h.sm.hb;have e2:=heap_setCell_same _ b 2 _ _ (.map (some W.heap.size)) e1;rw[<- hw2] at e2;have e3:=(hbb.block b (by rw[hs2];exact hbW)).trans e2;have hsz:w'.heap.size=W.heap.size+1:=by rw[hw'];simp[hs2]
 have hk:∀ k,k<W.heap.size->k≠b->w'.heap[k]? =W.heap[k]? :=fun k hl hn=>(hbb.block k (by rw[hs2];exact hl)).trans (hwr.2.2.2.2 k hn)
 have hM:Mp w' W.heap.size [] eg:=by
  have h0:=Mp.made w2 eg;rw[hs2,<- hw'] at h0;exact h0
 have hbp:=h.sm.mp.lt;have hext:Ext (fun k=>Pd k\/k=b) w w':=((Ext.of_chg h.chg fun k hk=>.inl hk).trans (P2:=fun k=>k=b) ⟨hbb.os.trans hwr.1,hbb.tape.trans hwr.2.1,hbb.output.trans hwr.2.2.1,by rw[hsz];omega,fun k hl hn=>hk k hl hn⟩ fun k _ e=>.inr e);refine⟨W.heap.size,P',q',⟨e3,?_,hq,hM,?_,?_,fun x hx=>absurd hx List.not_mem_nil,?_⟩,⟨h.chg.size,by rw[hsz];omega⟩,fun k hk=>chg_new h.chg hk,hext⟩
 . exact h.sm.dk.same fun k hp=>hk k (h.sm.dk.lt k hp) fun e=>h.sm.nd (e ▸ hp)
 . exact h.sm.mp.keep (hk bp hbp h.sm.nb.2)
 . exact fun e=>by rw[<- e] at hbp;exact Nat.lt_irrefl _ hbp
 . exact fun x hx=>(h.sm.rp x hx).keep fun r hr=>hk r ((h.sm.rp x hx).lt hr) ((h.sm.rp x hx).ne hr h.sm.hb (by decide))
end
section
variable {w:World}{Pd:Nat->Prop}{b be bp:Nat}{d:Value}{q:Int}{ek:List Int}{eg:Int->Value}{ev:Int->List Int}{pk:List Int}{pg:Int->Value}{pv:Int->List Int}{wi:Bool}{s:DS}
end
def SetQ(w:World)(Pd:Nat->Prop)(b bp:Nat)(d:Value)(eg:Int->Value)(ev:Int->List Int)(pk:List Int)(pg:Int->Value)(pv:Int->List Int)(wi:Bool)(r:Int × DS)(e:Ending)(w':World):Prop:=
 (r.1=0/\e=.returned (.int .i64 0)/\∃ be' Pd' q',SMem w' Pd' b be' bp d q' [] eg ev pk pg pv wi r.2/\(w.heap.size<=be'/\be'<w'.heap.size)/\(∀ k,Pd' k->Pd k\/w.heap.size<=k)/\Ext (fun k=>Pd k\/k=b) w w')\/
 (r.1=2/\e=.returned (.int .i64 2)/\∃ Pd',w'.heap[b]? =some deadRow/\Dk w' Pd' d r.2/\(∀ k,Pd' k->Pd k\/w.heap.size<=k)/\Ext (fun k=>Pd k\/k=b) w w')
section
variable {w:World}{Pd:Nat->Prop}{b be bp:Nat}{d:Value}{q:Int}{ek:List Int}{eg:Int->Value}{ev:Int->List Int}{pk:List Int}{pg:Int->Value}{pv:Int->List Int}{wi:Bool}{s:DS}
set_option maxHeartbeats 2000000 in
theorem sSettle_of(h:SMem w Pd b be bp d q ek eg ev pk pg pv wi s)(hne:0<ek.length)(hel:ek.length<=37)(hB:Zfe s.F.length (Zak ek) ((Zak ek).map ev)=true)(hU:s.U.length<=800000):
 Calls Tryz.prog 73 #[.pointer (some ⟨b,0,none⟩)] w (SetQ w Pd b bp d eg ev pk pg pv wi (runA (setA q (Zak ek) ((Zak ek).map ev)) s)):=by
 have KT:=hid (sTrans_of h hel);obtain⟨N,hN⟩:∃ N,N=Zak ek:=⟨_,rfl⟩;obtain⟨D,hD⟩:∃ D,D=N.map ev:=⟨_,rfl⟩;rw[<- hN,<- hD] at KT hB |-
 have h37:N.length<=37/\D.length<=37:=by rw[hD,List.length_map,hN,Zff];exact⟨hel,hel⟩
 have c2:=h.c2;have hlen:=fun ty=>h.me.len ty
 have hp:0<(ek.length:Int):=by omega
 obtain⟨m,hm⟩:∃ m,m=ek.length:=⟨_,rfl⟩;rw[<- hm] at hlen hp;have h0:=h.dk.ptr;obtain⟨bd,rfl⟩:=h0;have HST:=hid (fun(w1:World) (vN vD:Value) (hi:IR w1 0 vN N) (hd:BBR w1 0 vD D) (hb:Below w.heap.size w w1)=>
  show Stg w Pd b be bp (.pointer (some ⟨bd,0,none⟩)) q ek eg ev pk pg pv wi w1.heap.size vN vD N D (w1.alloc (.cells #[.int .u32 q,vN,vD] 183)) Pd s from
   ⟨(h.below hb).below (Zaa w1 _),(TxVa.own (h.below hb).dk hi hd).chg (Chg.of_below (Zaa w1 _)),heap_alloc_new w1 _,(Chg.of_below hb).trans (Chg.of_below (Zaa w1 _))⟩)
 have HSH:=hid (fun(w1:World) (vN vD:Value) (hi:IR w1 0 vN N) (hd:BBR w1 0 vD D)=>And.intro hi.isc.2 hd.sl.shape);have hl1:=Zdw (layA q (Zdn q N D)) s;have hlw:(layA q (Zdn q N D)).length<=50:=by
  unfold layA Zdn;simp only[List.length_append,List.length_map,List.length_range,List.length_cons,List.length_nil];omega
 have hlh:(Zap N D).length<=40:=by
  rw[Zcy];omega
 have HW:=hid (fun(g:Nat) (vN vD:Value) (W:World) (P':Nat->Prop) (hs:Stg w Pd b be bp (.pointer (some ⟨bd,0,none⟩)) q ek eg ev pk pg pv wi g vN vD N D W P' s)=>hs.write hB (by omega));have er:=Zbz (layA q (Zdn q N D)) (Zap N D ++ [.f]) s;have HQ:=hid h.q0;obtain⟨R,hR⟩:∃ R,R=runA (setA q N D) s:=⟨_,rfl⟩;have hR':=hR;unfold setA at hR';rw[er] at hR';rw[<- hR];have hr1:=Zdv (layA q (Zdn q N D)) s;obtain⟨r1,s1,h1⟩:∃ r1 s1,runA (layA q (Zdn q N D)) s=(r1,s1):=⟨_,_,rfl⟩;rw[h1] at HW hl1 hR' hr1;simp only at hl1;have HH:=hid (fun(g:Nat) (vN vD:Value) (W:World) (P':Nat->Prop) (hs:Stg w Pd b be bp (.pointer (some ⟨bd,0,none⟩)) q ek eg ev pk pg pv wi g vN vD N D W P' s1)=>hs.home (by rw[hl1.1];exact hB) (by omega));have er2:=Zbz (Zap N D) [.f] s1;rw[er2] at hR';have hl2:=Zdw (Zap N D) s1;have hr2:=Zdv (Zap N D) s1;obtain⟨r2,s2,h2⟩:∃ r2 s2,runA (Zap N D) s1=(r2,s2):=⟨_,_,rfl⟩;rw[h2] at HH hl2 hR' hr2;simp only at hl2;have HF:=hid (fun(g:Nat) (vN vD:Value) (W:World) (P':Nat->Prop) (hs:Stg w Pd b be bp (.pointer (some ⟨bd,0,none⟩)) q ek eg ev pk pg pv wi g vN vD N D W P' s2)=>hs.flush (by omega));have hr3:=Zdv [.f] s2;obtain⟨r3,s3,h3⟩:∃ r3 s3,runA [.f] s2=(r3,s3):=⟨_,_,rfl⟩;rw[h3] at HF hR' hr3;have hwq:∃ q',IntKind.u32.wrap (q+1)=q'/\0<=q'/\q'<4294967296:=⟨(q+1)%4294967296,by simp[IntKind.wrap,IntKind.signed,IntKind.bits],by omega,by omega⟩;obtain⟨q',hq',hq0⟩:=hwq;have HQ':=hid hq0;clear h hel hB hU hN hD h37 hm hl1 hl2 hlw hlh er er2 h1 h2 h3 hne hq0 hR;simp only at hr1 hr2 hr3 HW HH HF hR';rcases hr1 with rfl|rfl
 . rcases hr2 with rfl|rfl
   . rcases hr3 with rfl|rfl
     . -- all is done
       rw[if_pos rfl,if_pos rfl] at hR';subst hR';go_enter Tryz.func73,Tryz.ntmps73
       go_wp2_with (go_at_call 121;(with_reducible refine KT.out.mono ?_);rintro e w1 ⟨vN,vD,rfl,hi,hd,hb⟩
                    have HS:=hid (HST.out w1 vN vD hi hd hb);obtain⟨⟨no,nc,rfl,_⟩,ao,dc,rfl,_⟩:=HSH.out w1 vN vD hi hd;clear hi hd hb)
       generalize hgg:w1.heap.size=g at HS;generalize w1.alloc (.cells #[.int .u32 q,.slice no N.length nc,.slice ao D.length dc] 183)=W2 at HS |-
       obtain⟨k0,k1,k2,k3⟩:=HS.out.facts;generalize N.length=ln at HS k2 |-
       generalize D.length=ld at HS k3 |-
       have KW:=hid (HW.out g _ _ W2.drew _ (HS.out.below (Below.refl _ W2).drew));go_still_tail 5,(by kernel_rfl)
       go_wp2_with (first
                    |(go_at_call 122;(with_reducible refine KW.out.mono ?_);rintro e W3 ⟨rfl,P3,hs3⟩
                      have HS3:=hid hs3;obtain⟨l0,l1,l2,l3⟩:=hs3.facts;clear hs3))
       have hmm:=@run_makeMap Tryz.prog;have KH:=hid (HH.out g _ _ W3.drew _ (HS3.out.below (Below.refl _ W3).drew));go_still_tail 5,(by kernel_rfl)
       go_wp2_with (first
                    |(go_at_call 123;(with_reducible refine KH.out.mono ?_);rintro e W4 ⟨rfl,P4,hs4⟩
                      have HS4:=hid hs4;obtain⟨m0,m1,m2,m3⟩:=hs4.facts;clear hs4)
                    |(go_at_call 124;(with_reducible refine(HF.out g _ _ W4 _ HS4.out).mono ?_);rintro e W5 ⟨rfl,P5,hs5⟩
                      have HS5:=hid hs5;have n1:=hs5.sm.c1;have n2:=hs5.sm.c2;have f1:=hs5.sm.fr 1;have f2:=hs5.sm.fr 2;have hbl:=hs5.sm.bl;have hbn:b≠W5.heap.size:=Nat.ne_of_lt hs5.sm.bl;have hbn':W5.heap.size≠b:=fun e=>hbn e.symm
                      clear hs5))
       go_ret;exact .inl ⟨rfl,rfl,HS5.out.fresh HQ'.out⟩
     . rw[if_pos rfl,if_pos rfl] at hR'
       subst hR';go_enter Tryz.func73,Tryz.ntmps73
       go_wp2_with (go_at_call 121;(with_reducible refine KT.out.mono ?_);rintro e w1 ⟨vN,vD,rfl,hi,hd,hb⟩
                    have HS:=hid (HST.out w1 vN vD hi hd hb);obtain⟨⟨no,nc,rfl,_⟩,ao,dc,rfl,_⟩:=HSH.out w1 vN vD hi hd;clear hi hd hb)
       generalize hgg:w1.heap.size=g at HS;generalize w1.alloc (.cells #[.int .u32 q,.slice no N.length nc,.slice ao D.length dc] 183)=W2 at HS |-
       obtain⟨k0,k1,k2,k3⟩:=HS.out.facts;generalize N.length=ln at HS k2 |-
       generalize D.length=ld at HS k3 |-
       have KW:=hid (HW.out g _ _ W2.drew _ (HS.out.below (Below.refl _ W2).drew));go_still_tail 5,(by kernel_rfl)
       go_wp2_with (first
                    |(go_at_call 122;(with_reducible refine KW.out.mono ?_);rintro e W3 ⟨rfl,P3,hs3⟩
                      have HS3:=hid hs3;obtain⟨l0,l1,l2,l3⟩:=hs3.facts;clear hs3))
       have KH:=hid (HH.out g _ _ W3.drew _ (HS3.out.below (Below.refl _ W3).drew));go_still_tail 5,(by kernel_rfl)
       go_wp2_with (first
                    |(go_at_call 123;(with_reducible refine KH.out.mono ?_);rintro e W4 ⟨rfl,P4,hs4⟩
                      have HS4:=hid hs4;obtain⟨m0,m1,m2,m3⟩:=hs4.facts;clear hs4)
                    |(go_at_call 124;(with_reducible refine(HF.out g _ _ W4 _ HS4.out).mono ?_);rintro e W5 ⟨rfl,P5,hs5⟩
                      have HS5:=hid hs5;have n1:=hs5.sm.c1;have n2:=hs5.sm.c2;have f1:=hs5.sm.fr 1;have f2:=hs5.sm.fr 2;have hbl:=hs5.sm.bl;have hbn:b≠W5.heap.size:=Nat.ne_of_lt hs5.sm.bl;have hbn':W5.heap.size≠b:=fun e=>hbn e.symm
                      clear hs5)
                    |(go_at_call 108;(with_reducible refine HS5.out.over.mono ?_);rintro e w9 ⟨rfl,hx9⟩))
       go_ret;exact .inr ⟨rfl,rfl,hx9⟩
   . rw[if_pos rfl,if_neg (by decide)] at hR'
     subst hR';go_enter Tryz.func73,Tryz.ntmps73
     go_wp2_with (go_at_call 121;(with_reducible refine KT.out.mono ?_);rintro e w1 ⟨vN,vD,rfl,hi,hd,hb⟩
                  have HS:=hid (HST.out w1 vN vD hi hd hb);obtain⟨⟨no,nc,rfl,_⟩,ao,dc,rfl,_⟩:=HSH.out w1 vN vD hi hd;clear hi hd hb)
     generalize hgg:w1.heap.size=g at HS;generalize w1.alloc (.cells #[.int .u32 q,.slice no N.length nc,.slice ao D.length dc] 183)=W2 at HS |-
     obtain⟨k0,k1,k2,k3⟩:=HS.out.facts;generalize N.length=ln at HS k2 |-
     generalize D.length=ld at HS k3 |-
     have KW:=hid (HW.out g _ _ W2.drew _ (HS.out.below (Below.refl _ W2).drew));go_still_tail 5,(by kernel_rfl)
     go_wp2_with (first
                  |(go_at_call 122;(with_reducible refine KW.out.mono ?_);rintro e W3 ⟨rfl,P3,hs3⟩
                    have HS3:=hid hs3;obtain⟨l0,l1,l2,l3⟩:=hs3.facts;clear hs3))
     have KH:=hid (HH.out g _ _ W3.drew _ (HS3.out.below (Below.refl _ W3).drew));go_still_tail 5,(by kernel_rfl)
     go_wp2_with (first
                  |(go_at_call 123;(with_reducible refine KH.out.mono ?_);rintro e W4 ⟨rfl,P4,hs4⟩
                    have HS4:=hid hs4;obtain⟨m0,m1,m2,m3⟩:=hs4.facts;clear hs4)
                  |(go_at_call 108;(with_reducible refine HS4.out.over.mono ?_);rintro e w9 ⟨rfl,hx9⟩))
     go_ret;exact .inr ⟨rfl,rfl,hx9⟩
 . rw[if_neg (by decide)] at hR'
   subst hR';clear HH HF;go_enter Tryz.func73,Tryz.ntmps73
   go_wp2_with (go_at_call 121;(with_reducible refine KT.out.mono ?_);rintro e w1 ⟨vN,vD,rfl,hi,hd,hb⟩
                have HS:=hid (HST.out w1 vN vD hi hd hb);obtain⟨⟨no,nc,rfl,_⟩,ao,dc,rfl,_⟩:=HSH.out w1 vN vD hi hd;clear hi hd hb)
   generalize hgg:w1.heap.size=g at HS;generalize w1.alloc (.cells #[.int .u32 q,.slice no N.length nc,.slice ao D.length dc] 183)=W2 at HS |-
   obtain⟨k0,k1,k2,k3⟩:=HS.out.facts;generalize N.length=ln at HS k2 |-
   generalize D.length=ld at HS k3 |-
   have KW:=hid (HW.out g _ _ W2.drew _ (HS.out.below (Below.refl _ W2).drew));go_still_tail 5,(by kernel_rfl)
   go_wp2_with (first
                |(go_at_call 122;(with_reducible refine KW.out.mono ?_);rintro e W3 ⟨rfl,P3,hs3⟩
                  have HS3:=hid hs3;obtain⟨l0,l1,l2,l3⟩:=hs3.facts;clear hs3)
                |(go_at_call 108;(with_reducible refine HS3.out.over.mono ?_);rintro e w9 ⟨rfl,hx9⟩))
   go_ret;exact .inr ⟨rfl,rfl,hx9⟩
end
def Zet{α:Type}(pk:List Int)(p e:Int->α)(x:Int):α:=if x∈pk then p x else e x
section
variable {w:World}{Pd:Nat->Prop}{b be bp:Nat}{d:Value}{q:Int}{ek:List Int}{eg:Int->Value}{ev:Int->List Int}{pk:List Int}{pg:Int->Value}{pv:Int->List Int}{wi:Bool}{s:DS}
theorem SMem.copied(h:SMem w Pd b be bp d q ek eg ev pk pg pv wi s){w':World}(hm:Mp w' be (uniN ek pk) (Zet pk pg eg))(hp:Mp w' bp pk pg)(hg:w.grownBy w' (some be)):SMem w' Pd b be bp d q (uniN ek pk) (Zet pk pg eg) (Zet pk pv ev) pk pg pv wi s:=by
 have hk:∀ k,k<w.heap.size->k≠be->w'.heap[k]? =w.heap[k]? :=fun k hl hn=>hg.block k hl fun e=>hn (Option.some.inj e)
 refine⟨by rw[hk b h.bl fun e=>h.nb.1 e.symm];exact h.hb,h.dk.same fun k hpd=>hk k (h.dk.lt k hpd) fun e=>Mp.nd h.dk h.me (e ▸ hpd),h.q0,hm,hp,h.ne,fun x hx=>?_,fun x hx=>(h.rp x hx).keep fun g hg'=>hk g ((h.rp x hx).lt hg') ((h.rp x hx).nm hg' h.me)⟩;unfold Zet;by_cases hin:x∈pk
 . rw[if_pos hin,if_pos hin]
   exact(h.rp x hin).keep fun g hg'=>hk g ((h.rp x hin).lt hg') ((h.rp x hin).nm hg' h.me)
 . rw[if_neg hin,if_neg hin]
   have hx':=(mem_uniN.1 hx).resolve_right hin;exact(h.re x hx').keep fun g hg'=>hk g ((h.re x hx').lt hg') ((h.re x hx').nm hg' h.me)
theorem SMem.copy(h:SMem w Pd b be bp d q ek eg ev pk pg pv wi s)(hel:ek.length<=1000)(hpl:pk.length<=1000):Calls Tryz.prog 74 #[.map (some be),.map (some bp)] w fun e w'=>e=.returned (.tuple #[])/\SMem w' Pd b be bp d q (uniN ek pk) (Zet pk pg eg) (Zet pk pv ev) pk pg pv wi s/\Ext (fun k=>k=be) w w':=
 (mCopy_of h.me h.mp h.ne (by omega)).mono fun e w' ⟨he,hm,hp,hg⟩=>⟨he,h.copied hm hp hg,Ext.of_grown hg rfl⟩
theorem SMem.cleared(h:SMem w Pd b be bp d q ek eg ev pk pg pv wi s)(pg':Int->Value)(pv':Int->List Int):
 let w':=((w.setCell ⟨b,3,none⟩ (.map (some w.heap.size))).setCell ⟨b,4,none⟩ (.bool false)).alloc (.map #[] 0)
 SMem w' Pd b be w.heap.size d q ek eg ev [] pg' pv' false s/\w'.heap.size=w.heap.size+1/\Ext (fun k=>k=b) w w':=by
 intro w';obtain⟨w2,hw2⟩:∃ w2,w2=(w.setCell ⟨b,3,none⟩ (.map (some w.heap.size))).setCell ⟨b,4,none⟩ (.bool false):=⟨_,rfl⟩;have hw':w'=w2.alloc (.map #[] 0):=by rw[hw2]
 have hs2:w2.heap.size=w.heap.size:=by rw[hw2];simp[World.setCell]
 have hwr:Wrote w w2 b:=by rw[hw2];exact(Wrote.setCell w b 3 _).and (Wrote.setCell _ b 4 _)
 have hbb:Below w2.heap.size w2 w':=by rw[hw'];exact Zaa w2 _
 have e1:=heap_setCell_same w b 3 _ _ (.map (some w.heap.size)) h.hb;have e2:=heap_setCell_same _ b 4 _ _ (.bool false) e1;rw[<- hw2] at e2;have e3:=(hbb.block b (by rw[hs2];exact h.bl)).trans e2;have hsz:w'.heap.size=w.heap.size+1:=by rw[hw'];simp[hs2]
 have hk:∀ k,k<w.heap.size->k≠b->w'.heap[k]? =w.heap[k]? :=fun k hl hn=>(hbb.block k (by rw[hs2];exact hl)).trans (hwr.2.2.2.2 k hn)
 have hM:Mp w' w.heap.size [] pg':=by
  have h0:=Mp.made w2 pg';rw[hs2,<- hw'] at h0;exact h0
 have hbe:=h.me.lt
 refine⟨⟨e3,h.dk.same fun k hp=>hk k (h.dk.lt k hp) fun e=>h.nd (e ▸ hp),h.q0,h.me.keep (hk be hbe h.nb.1),hM,fun e=>by rw[e] at hbe;exact Nat.lt_irrefl _ hbe,
  fun x hx=>(h.re x hx).keep fun r hr=>hk r ((h.re x hx).lt hr) ((h.re x hx).ne hr h.hb (by decide)),fun x hx=>absurd hx List.not_mem_nil⟩,hsz,
  ⟨hbb.os.trans hwr.1,hbb.tape.trans hwr.2.1,hbb.output.trans hwr.2.2.1,by rw[hsz];omega,fun k hl hn=>hk k hl hn⟩⟩
theorem sJoin_small(h:SMem w Pd b be bp d q ek eg ev pk pg pv wi s)(hel:ek.length<=37)(hpl:pk.length<=37)(hu:(uniN ek pk).length<=37):
 Calls Tryz.prog 42 #[.pointer (some ⟨b,0,none⟩)] w fun e w'=>e=.returned (.int .i64 0)/\SMem w' Pd b be bp d q (uniN ek pk) (Zet pk pg eg) (Zet pk pv ev) pk pg pv wi s/\Ext (fun k=>k=be) w w':=by
 have KT:=hid (sTogether_is h (by omega) (by omega));have HB:=hid (fun(W:World) (hb:Below w.heap.size w W)=>h.below hb);have KC:=hid (fun(W:World) (hb:Below w.heap.size w W)=>(h.below hb).copy (by omega) (by omega));have hle:((uniN ek pk).length:Int)<=37:=by omega
 obtain⟨R,hR⟩:∃ R,R=(uniN ek pk).length:=⟨_,rfl⟩;rw[<- hR] at KT hle;clear h hel hpl hu hR;go_enter Tryz.func42,Tryz.ntmps42
 go_wp2_with (go_at_call 72;(with_reducible refine KT.out.mono ?_);rintro e w1 ⟨rfl,hb1⟩
              have HB1:=hid hb1;have c2:=(HB.out w1 hb1).c2;have c3:=(HB.out w1 hb1).c3;clear hb1)
 have KC1:=hid (KC.out w1.drew HB1.out.drew);go_still_tail 8,(by kernel_rfl)
 go_wp2_with (go_at_call 74;(with_reducible refine KC1.out.mono ?_);rintro e w2 ⟨rfl,hm,hx⟩
              have HM:=hid hm;have HX:=hid hx;clear hm hx)
 go_ret;exact⟨rfl,HM.out,(Ext.of_below HB1.out.drew).trans (P2:=fun k=>k=be) HX.out fun k _ e=>e⟩
set_option maxHeartbeats 1000000 in
theorem sJoin_great(h:SMem w Pd b be bp d q ek eg ev pk pg pv wi s)(hel:ek.length<=37)(hpl:pk.length<=37)(hu:37<(uniN ek pk).length)(hB:Zfe s.F.length (Zak ek) ((Zak ek).map ev)=true)(hU:s.U.length<=800000):
 Calls Tryz.prog 42 #[.pointer (some ⟨b,0,none⟩)] w fun e w'=>
  ((runA (setA q (Zak ek) ((Zak ek).map ev)) s).1=0/\e=.returned (.int .i64 0)/\∃ be' Pd' q',SMem w' Pd' b be' bp d q' (uniN [] pk) (Zet pk pg eg) (Zet pk pv ev) pk pg pv wi (runA (setA q (Zak ek) ((Zak ek).map ev)) s).2/\(w.heap.size<=be'/\be'<w'.heap.size)/\(∀ k,Pd' k->Pd k\/w.heap.size<=k)/\Ext (fun k=>Pd k\/k=b) w w')\/
  ((runA (setA q (Zak ek) ((Zak ek).map ev)) s).1=2/\e=.returned (.int .i64 2)/\∃ Pd',w'.heap[b]? =some deadRow/\Dk w' Pd' d (runA (setA q (Zak ek) ((Zak ek).map ev)) s).2/\(∀ k,Pd' k->Pd k\/w.heap.size<=k)/\Ext (fun k=>Pd k\/k=b) w w'):=by
 have hne:0<ek.length:=by
  rcases Nat.eq_zero_or_pos ek.length with e|e
  . have:ek=[]:=List.eq_nil_of_length_eq_zero e
    rw[this] at hu;have h2:(uniN [] pk).length<=pk.length:=by
     unfold uniN;rw[List.nil_append];exact List.length_filter_le _ _
    omega
  . exact e
 have KT:=hid (sTogether_is h (by omega) (by omega));have KS:=hid (fun(W:World) (hb:Below w.heap.size w W)=>sSettle_of (h.below hb) hne hel hB hU);have HPL:=hid hpl;have hgt:37<((uniN ek pk).length:Int):=by omega
 obtain⟨R,hR⟩:∃ R,R=(uniN ek pk).length:=⟨_,rfl⟩;rw[<- hR] at KT hgt;obtain⟨T,hT⟩:∃ T,T=runA (setA q (Zak ek) ((Zak ek).map ev)) s:=⟨_,rfl⟩;have hT2:T.1=0\/T.1=2:=by rw[hT];exact Zdv _ _
 rw[<- hT] at KS |-
 obtain⟨r,s'⟩:=T;clear h hel hpl hu hR hT hB hU hne;rcases hT2 with h0|h0
 . simp only at h0
   subst h0;have KS':=hid (fun(W:World) (hb:Below w.heap.size w W)=>(KS.out W hb).mono (R':=fun e w'=>e=.returned (.int .i64 0)/\∃ be' Pd' q',SMem w' Pd' b be' bp d q' [] eg ev pk pg pv wi s'/\(W.heap.size<=be'/\be'<w'.heap.size)/\(∀ k,Pd' k->Pd k\/W.heap.size<=k)/\Ext (fun k=>Pd k\/k=b) W w') (fun e w' hq=>by
    rcases hq with⟨_,he,hx⟩| ⟨h2,_⟩
    . exact⟨he,hx⟩
    . exact absurd (show(0:Int)=2 from h2) (by decide)))
   clear KS;go_enter Tryz.func42,Tryz.ntmps42
   go_wp2_with (first
    |(go_at_call 72;(with_reducible refine KT.out.mono ?_);rintro e w1 ⟨rfl,hb1⟩
      have HB1:=hid hb1;clear hb1)
    |(go_at_call 73;(with_reducible refine(KS'.out _ HB1.out).mono ?_);rintro e w2 ⟨rfl,be',Pd',q',hm,hbe,hpd,hx⟩
      have HM:=hid hm;have HBE:=hid hbe;have HPD:=hid hpd;have HX:=hid hx;have c2:=hm.c2;have c3:=hm.c3;clear hm hbe hpd hx))
   have KC1:=hid (SMem.copy (HM.out.below (Below.refl _ w2).drew) (Nat.zero_le _) (by have:=HPL.out;omega));go_still_tail 8,(by kernel_rfl)
   go_wp2_with (go_at_call 74;(with_reducible refine KC1.out.mono ?_);rintro e w3 ⟨rfl,hm,hx⟩
                have HM3:=hid hm;have HX3:=hid hx;clear hm hx)
   go_ret;refine .inl ⟨by first|rfl|trivial,rfl,be',Pd',q',HM3.out,⟨Nat.le_trans HB1.out.size HBE.out.1,Nat.lt_of_lt_of_le HBE.out.2 HX3.out.size⟩,fun k hk=>(HPD.out k hk).imp id fun e=>Nat.le_trans HB1.out.size e,?_⟩;have e1:Ext (fun k=>Pd k\/k=b) w w2:=(Ext.of_below HB1.out).trans (P2:=fun k=>Pd k\/k=b) HX.out fun k _ e=>e
   have e2:Ext (fun k=>k=be') w2 w3:=⟨HX3.out.os,HX3.out.tape,HX3.out.output,HX3.out.size,HX3.out.keep⟩;exact e1.trans e2 fun k hk e=>absurd (e ▸ hk) (by have:=HBE.out.1;have:=HB1.out.size;omega)
 . simp only at h0
   subst h0;have KS':=hid (fun(W:World) (hb:Below w.heap.size w W)=>(KS.out W hb).mono (R':=fun e w'=>e=.returned (.int .i64 2)/\∃ Pd',w'.heap[b]? =some deadRow/\Dk w' Pd' d s'/\(∀ k,Pd' k->Pd k\/W.heap.size<=k)/\Ext (fun k=>Pd k\/k=b) W w') (fun e w' hq=>by
    rcases hq with⟨h2,_⟩| ⟨_,he,hx⟩
    . exact absurd (show(2:Int)=0 from h2) (by decide)
    . exact⟨he,hx⟩))
   clear KS;go_enter Tryz.func42,Tryz.ntmps42
   go_wp2_with (first
    |(go_at_call 72;(with_reducible refine KT.out.mono ?_);rintro e w1 ⟨rfl,hb1⟩
      have HB1:=hid hb1;clear hb1)
    |(go_at_call 73;(with_reducible refine(KS'.out _ HB1.out).mono ?_);rintro e w2 ⟨rfl,Pd',hbr,hdk,hpd,hx⟩
      have HBR:=hid hbr;have HDK:=hid hdk;have HPD:=hid hpd;have HX:=hid hx;clear hbr hdk hpd hx))
   go_ret;exact .inr ⟨by first|rfl|trivial,rfl,Pd',HBR.out,HDK.out,fun k hk=>(HPD.out k hk).imp id fun e=>Nat.le_trans HB1.out.size e,(Ext.of_below HB1.out).trans (P2:=fun k=>Pd k\/k=b) HX.out fun k _ e=>e⟩
end
theorem sinv_of{w w':World}{P Pd:Nat->Prop}{b be bp:Nat}{d:Value}{q:Int}{ek:List Int}{eg:Int->Value}{ev:Int->List Int}{pk:List Int}{pg:Int->Value}{pv:Int->List Int}{X:XSt}(hm:SMem w' Pd b be bp d q ek eg ev pk pg pv X.wi X.ds)(hpl:SPl X ek ev pk pv)
 (hl:∀ k,P k->k<w.heap.size) (hs:w.heap.size<=w'.heap.size) (hown:∀ k,SOwn Pd b be bp ek eg pk pg k->P k\/w.heap.size<=k):SInv w' (grP P w w') d (.pointer (some ⟨b,0,none⟩)) X:=
 ⟨b,be,bp,Pd,q,ek,eg,ev,pk,pg,pv,rfl,hm,hpl,fun k hk=>(hown k hk).imp id fun e=>⟨e,hm.lt k hk⟩,fun k hk=>hk.elim (fun h=>Nat.lt_of_lt_of_le (hl k h) hs) fun h=>h.2⟩
section
variable {w:World}{Pd:Nat->Prop}{b be bp:Nat}{d:Value}{q:Int}{ek:List Int}{eg:Int->Value}{ev:Int->List Int}{pk:List Int}{pg:Int->Value}{pv:Int->List Int}{wi:Bool}{s:DS}
theorem sEnd_undo(h:SMem w Pd b be bp d q ek eg ev pk pg pv true s):Calls Tryz.prog 21 #[.pointer (some ⟨b,0,none⟩),.bool false] w fun e w'=>e=.returned (.int .i64 0)/\w'=((w.setCell ⟨b,3,none⟩ (.map (some w.heap.size))).setCell ⟨b,4,none⟩ (.bool false)).alloc (.map #[] 0):=by
 have KA:=hid (Zcv h true);have c3:=h.c3;have c4:=h.c4;have f3:=h.fr 3;have f4:=h.fr 4;have hbl:=h.bl;have hbn:b≠w.heap.size:=Nat.ne_of_lt h.bl;have hbn':w.heap.size≠b:=fun e=>hbn e.symm
 have hmm:=@run_makeMap Tryz.prog;clear h;go_enter Tryz.func21,Tryz.ntmps21;go_wp2_with (go_at_call 37;(with_reducible refine KA.out.mono ?_);rintro e w1 ⟨rfl,rfl⟩)
 go_ret;exact⟨rfl,rfl⟩
theorem sEnd_keep{Q:World->Prop}(h:SMem w Pd b be bp d q ek eg ev pk pg pv true s)
 (KJ:Calls Tryz.prog 42 #[.pointer (some ⟨b,0,none⟩)] w fun e w1=>e=.returned (.int .i64 0)/\Q w1/\∃ Pd1 be1 q1 ek1 eg1 ev1 s1,SMem w1 Pd1 b be1 bp d q1 ek1 eg1 ev1 pk pg pv true s1):
 Calls Tryz.prog 21 #[.pointer (some ⟨b,0,none⟩),.bool true] w fun e w'=>e=.returned (.int .i64 0)/\∃ w1,Q w1/\w'=((w1.setCell ⟨b,3,none⟩ (.map (some w1.heap.size))).setCell ⟨b,4,none⟩ (.bool false)).alloc (.map #[] 0):=by
 have KA:=hid (Zcv h true);have KJ':=hid KJ;have hmm:=@run_makeMap Tryz.prog;clear h KJ;go_enter Tryz.func21,Tryz.ntmps21
 go_wp2_with (first
  |(go_at_call 37;(with_reducible refine KA.out.mono ?_);rintro e w1 ⟨rfl,rfl⟩)
  |(go_at_call 42;(with_reducible refine KJ'.out.mono ?_);rintro e w1 ⟨rfl,hq,Pd1,be1,q1,ek1,eg1,ev1,s1,h⟩
    have HQ:=hid hq;have c3:=h.c3;have c4:=h.c4;have f3:=h.fr 3;have f4:=h.fr 4;have hbl:=h.bl;have hbn:b≠w1.heap.size:=Nat.ne_of_lt h.bl;have hbn':w1.heap.size≠b:=fun e=>hbn e.symm
    clear h hq))
 go_ret;exact⟨rfl,w1,HQ.out,rfl⟩
theorem sEnd_dead{Q:World->Prop}(h:SMem w Pd b be bp d q ek eg ev pk pg pv true s)
 (KJ:Calls Tryz.prog 42 #[.pointer (some ⟨b,0,none⟩)] w fun e w1=>e=.returned (.int .i64 2)/\Q w1):
 Calls Tryz.prog 21 #[.pointer (some ⟨b,0,none⟩),.bool true] w fun e w'=>e=.returned (.int .i64 2)/\Q w':=by
 have KA:=hid (Zcv h true);have KJ':=hid KJ;clear h KJ;go_enter Tryz.func21,Tryz.ntmps21
 go_wp2_with (first
  |(go_at_call 37;(with_reducible refine KA.out.mono ?_);rintro e w1 ⟨rfl,rfl⟩)
  |(go_at_call 42;(with_reducible refine KJ'.out.mono ?_);rintro e w1 ⟨rfl,hq⟩
    have HQ:=hid hq;clear hq))
 go_ret;exact⟨rfl,HQ.out⟩
theorem sEnd_no(h:SMem w Pd b be bp d q ek eg ev pk pg pv false s)(k:Bool):Calls Tryz.prog 21 #[.pointer (some ⟨b,0,none⟩),.bool k] w fun e w'=>e=.returned (.int .i64 17)/\w=w':=by
 have KA:=hid (Zcv h true);clear h;go_enter Tryz.func21,Tryz.ntmps21;go_wp2_with (go_at_call 37;(with_reducible refine KA.out.mono ?_);rintro e w1 ⟨rfl,rfl⟩)
 go_ret;exact⟨rfl,rfl⟩
end
end Go.Proofs.YtedabomlfcghoaaGreat
