/- What the law rests on: part 4. -/
import Derived.Laws.ResultCell
import Derived.Laws.Tables
import Derived.Laws.Rows
import Derived.Deep.Slices
import Derived.Deep.Fields
import Derived.ProofKit
import Derived.Deep.RegionLaw
import Derived.Deep.AppendLies
import Derived.Deep.RegionHeld
import Derived.Lib.SlBytesConst
import Derived.StillTailTactics
import Derived.Test.YtedabomlfcghoaaGreatKF3
set_option linter.unusedVariables false
namespace Go.Proofs.YtedabomlfcghoaaGreat
set_option maxRecDepth 100000
open Go.RowKit BM
theorem sizeD:(Tryz.prog.info? 212).map (·.size)=some 2:=by kernel_rfl
theorem sizeRD:(Tryz.prog.info? 139).map (·.size)=some 2:=by kernel_rfl
theorem one2 {p q:Value} (hp:p.oneCell'=true) (hq:q.oneCell'=true):(#[p,q]:Array Value).all (·.oneCell')=true:=by simp[hp,hq]
theorem wpList_store2 {ops:Array Oper}{rest:List Oper}{o:Oper}{a:Act}{w:World}{Q:Exit->Act->World->Prop} (hgd:o.guard=none) (ty:TypeId) (hi:(Tryz.prog.info? ty).map (·.size)=some 2) (x y:Operand) (ho:o.op=.store ty x y)
 (g:Nat) (hx:a.eval x=.pointer (some ⟨g,0,none⟩)) (p q p' q':Value) (hy:a.eval y=.agg #[p,q]) (hp:p.oneCell'=true) (hq:q.oneCell'=true) (T:TypeId) (hg:w.heap[g]? =some (.cells #[p',q'] T (0,0)))
 (h:∀ w',Wrote w w' g->w'.heap[g]? =some (.cells #[p,q] T (0,0))->wpList Tryz.prog ops Q rest (a.put o.dst undef) w'):wpList Tryz.prog ops Q (o :: rest) a w:=
 wpList_store_row hgd ty x y ho g #[p,q] hx hy T _ hg hi rfl (one2 hp hq) (h _ (Wrote.setRow _ _ _) (setRow_heap _ _ _ _ _ _ hg))
theorem ret_cell2 {fn:Func}{p u:Tmp}{ty:TypeId}{fs} (h:fn.results=#[.cell p ty,.tmp u]) (hu:Tryz.prog.underlying ty=some (.struct fs)) (hi:(Tryz.prog.info? ty).map (·.size)=some 2)
 (tmps:Array Value) (w:World) (g:Nat) (T:TypeId) (a b x:Value) (hp:tmps.getD p undef=.pointer (some ⟨g,0,none⟩)) (hg:w.heap[g]? =some (.cells #[a,b] T (0,0))) (hx:tmps.getD u undef=x):
 (results fn tmps).run Tryz.prog w=.ok (.tuple #[.agg #[a,b],x]) w:=by
 rw[results_cell_tmp h,hp,hx]
 simp only[asAddr,Sem.run_pure,Result.andThen_ok]
 rw[run_loadVar_row w g T ty _ (0,0) _ hg hu rfl (by rw[hi];rfl)]
 rfl
theorem below_hold {w w1:World}{g:Nat}{o:Obj} (h:w.heap[g]? =some o) (hb:Below w.heap.size w w1):w1.heap[g]? =some o:=(hb.block _ (Array.getElem?_eq_some_iff.1 h).1).trans h
def preB (f:Nat->Bool) (k:Nat):List Bool:=(List.range 64).map fun i=>if i<k then f i else false
theorem preB_length (f:Nat->Bool) (k:Nat):(preB f k).length=64:=by simp[preB]
theorem preB_set (f:Nat->Bool) (k:Nat):(preB f k).set k (f k)=preB f (k+1):=by
 apply List.ext_getElem (by simp[preB])
 intro i h1 h2
 simp only[preB,List.getElem_set,List.getElem_map,List.getElem_range]
 by_cases e:k=i
 · subst e;rw[if_pos rfl,if_pos (by omega)]
 · rw[if_neg e]
   by_cases h:i<k
   · rw[if_pos h,if_pos (by omega)]
   · rw[if_neg h,if_neg (by omega)]
theorem preB_zero (f:Nat->Bool):preB f 0=List.replicate 64 false:=by
 rw[List.eq_replicate_iff]
 refine ⟨preB_length f 0,fun b hb=>?_⟩
 obtain ⟨i,_,rfl⟩:=List.mem_map.1 hb
 rw[if_neg (by omega)]
theorem preB_full (f:Nat->Bool):preB f 64=(List.range 64).map f:=by
 unfold preB
 apply List.map_congr_left
 intro i hi
 rw[if_pos (List.mem_range.1 hi)]
theorem bNew_64 (w:World):Calls Tryz.prog 53 #[.int .i64 64] w fun e w'=>e=.returned (.pointer (some ⟨w.heap.size+1,0,none⟩))/\BRow w' (w.heap.size+1) w.heap.size (List.replicate 64 false)/\Below w.heap.size w w':=
 (bNew_at 64 64 (by decide) w (by decide)).mono fun _ _ ⟨h1,h2,h3,_⟩=>⟨h1,h2,h3⟩
theorem bSet_nat {w:World}{p g:Nat}{L:List Bool} (h:BRow w p g L) (i:Nat) (hi:i<L.length) (on:Bool):
 Calls Tryz.prog 56 #[.pointer (some ⟨p,0,none⟩),.int .i64 i,.bool on] w fun e w'=>e=.returned (.int .i64 0)/\BRow w' p g (L.set i on)/\Wrote w w' g:=
 (bSet_any h i on).mono fun e w' he=>by rw[if_pos (by omega),if_pos (by omega)] at he;exact he
theorem frm_zero {y:Int} (h:frmO 0 y=true):y=0:=by
 unfold frmO at h
 rw[if_pos (.inl rfl)] at h
 exact of_decide_eq_true h
theorem grOf_good {w:World}{v:Value}{O:List (Int × Int)} (hs:OwSl w v O) (g:Int) (hg1:0<=g) (hg2:g<12) (ha:allO O=true):
 Calls Tryz.prog 147 #[.int .i64 g,v] w fun e w'=>∃ p r,e=.returned (.tuple #[.agg #[.int .i64 g,.pointer (some ⟨p,0,none⟩)],.int .i64 0])/\BRow w' p r (usedK O 64)/\Below w.heap.size w w':=by
 have hb1:=below_box w (.cells #[.int .i64 0,.pointer none] 212)
 have hr1:=heap_alloc_new w (.cells #[.int .i64 0,.pointer none] 212)
 obtain ⟨w1,hw1⟩:∃ w1,w1=w.alloc (.cells #[.int .i64 0,.pointer none] 212):=⟨_,rfl⟩
 rw[<- hw1] at hb1 hr1
 have hz1:w.heap.size<w1.heap.size:=by rw[hw1];simp
 have H1:=Lib.hid hw1.symm
 have HR1:=Lib.hid hr1
 have hs1:=hs.below hb1
 have HA:=Lib.hid (grAll_is hs1 true ha)
 have hO:=allO_len ha
 obtain ⟨b,off,cap,rfl,hb,hc⟩:=hs.at (by omega)
 have hfr:∀ j,j<64->frmJ O j=true:=by
  have:frmK O 64=true:=by rw[allO,hO] at ha;simpa using ha
  exact (frmK_iff O 64).1 this
 have HBB:=Lib.hid hs.1
 have HC:=Lib.hid hc
 have HO:=Lib.hid hO
 have HFR:=Lib.hid hfr
 rw[hO] at HA |-
 clear hs hs1 hw1 ha hc hO hfr hr1
 go_enter Tryz.func147,Tryz.ntmps147
 go_wp2_with (first
  |(go_at_call 183;rw[H1.out];refine (grPoss_yes g hg1 hg2 _).mono ?_;rintro e w2 ⟨rfl,rfl⟩)
  |(go_at_call 145;refine HA.out.mono ?_;rintro e w2 ⟨rfl,hb2⟩;have hr2:=below_hold HR1.out hb2)
  |(go_at_call 53;refine (bNew_64 _).mono ?_;rintro e w3 ⟨rfl,hrow3,hb3⟩;have hr3:=below_hold hr2 hb3))
 obtain ⟨r,hr⟩:∃ r,r=w2.heap.size:=⟨_,rfl⟩
 rw[<- hr] at hrow3 |-
 obtain ⟨p,hp⟩:∃ p,p=r+1:=⟨_,rfl⟩
 rw[<- hp] at hrow3 |-
 have hwr:w.heap.size<r:=by have:=hb2.size;omega
 have hwp:w.heap.size<p:=by omega
 have hb03:Below w.heap.size w w3:=(hb1.trans (hb2.mono hb1.size)).trans (hb3.mono (by omega))
 rw[<- preB_zero (usedJ O)] at hrow3
 have HROW3:=Lib.hid hrow3
 have HR3:=Lib.hid hr3
 clear hr hp hrow3 hr3 hr2 hb3 hb2
 go_loopw [21] (fun i wr=>∃ k:Nat,k<=64/\i=.int .i64 k/\Hid (BRow wr p r (preB (usedJ O) k))/\Hid (wr.heap[w.heap.size]? =some (.cells #[.int .i64 0,.pointer none] 212 (0,0)))/\Below w.heap.size w wr) (fun i _=>64-(intOf i).toNat)
 case atStart=>exact ⟨0,by omega,rfl,HROW3,HR3,hb03⟩
 case round=>
  obtain ⟨k,hk,rfl,HROW,HRC,hbr⟩:=hrel
  clear HROW3 HR3 hb03
  by_cases hlt:k<64
  · have hck:=HC.out k (by rw[HO.out];exact hlt)
    have hbd:=HBB.out k
    have hfk:=HFR.out k hlt
    have hus:usedJ O k=decide ((O.getD k (0,0)).1≠0):=rfl
    rw[frmJ] at hfk
    obtain ⟨x,hx⟩:∃ x,x=(O.getD k (0,0)).1:=⟨_,rfl⟩
    obtain ⟨y,hy⟩:∃ y,y=(O.getD k (0,0)).2:=⟨_,rfl⟩
    rw[<- hx,<- hy] at hck hbd hfk
    rw[<- hx] at hus
    have c1:=(hbr.cell (p:=⟨b,off+k*2,none⟩) hb).trans hck.1
    have c2:=(hbr.cell (p:=⟨b,off+k*2+1,none⟩) hb).trans hck.2
    have ek:(k:Int)<64:=by omega
    have hps:=preB_set (usedJ O) k
    rw[hus] at hps
    have HRL:=HROW.out.lt
    clear hx hy hck hus
    by_cases h0:x=0
    · subst h0
      obtain rfl:=frm_zero hfk
      have HPS:=Lib.hid hps
      have HSET:=Lib.hid (bSet_nat (HROW.out.below (below_box wr (.cells #[.int .u16 0,.int .u16 0] 109)) HRL.1 HRL.2) k (by rw[preB_length];exact hlt) false)
      clear hfk hps
      go_wp2_with (go_at_call 56;refine HSET.out.mono ?_;rintro e w4 ⟨rfl,hrow4,hw4⟩)
      go_roundw
      case rel=>exact ⟨k+1,by omega,by go_num,by show BRow _ _ _ (preB (usedJ O) (k+1));rw[<- HPS.out];exact hrow4,by show w4.heap[w.heap.size]? =_;rw[hw4.2.2.2.2 _ (by omega)];exact below_hold HRC.out (below_box _ _),(hbr.trans ((below_box _ _).mono hbr.size)).trans (hw4.below (by omega))⟩
      case measure=>simp[intOf];omega
    · have hx0:(x==0)=false:=by simpa using h0
      rw[decide_eq_true h0] at hps
      have HPS:=Lib.hid hps
      have HSET:=Lib.hid (bSet_nat (HROW.out.below (below_box wr (.cells #[.int .u16 x,.int .u16 y] 109)) HRL.1 HRL.2) k (by rw[preB_length];exact hlt) true)
      clear hfk hps h0
      go_wp2_with (go_at_call 56;refine HSET.out.mono ?_;rintro e w4 ⟨rfl,hrow4,hw4⟩)
      go_roundw
      case rel=>exact ⟨k+1,by omega,by go_num,by show BRow _ _ _ (preB (usedJ O) (k+1));rw[<- HPS.out];exact hrow4,by show w4.heap[w.heap.size]? =_;rw[hw4.2.2.2.2 _ (by omega)];exact below_hold HRC.out (below_box _ _),(hbr.trans ((below_box _ _).mono hbr.size)).trans (hw4.below (by omega))⟩
      case measure=>simp[intOf];omega
  · obtain rfl:k=64:=by omega
    have hrc:=HRC.out
    have HRL:=HROW.out.lt
    go_wp2_with (with_reducible refine wpList_store2 rfl 212 sizeD (.tmp 4) (.tmp 35) rfl w.heap.size rfl _ _ _ _ rfl rfl rfl _ hrc ?_;intro w5 hw5 hr5)
    refine bodyPost_ret (ret_cell2 rfl Tryz.underlying212 sizeD _ _ w.heap.size _ _ _ _ rfl hr5 rfl) rfl ⟨p,r,rfl,?_,hbr.trans (hw5.below (Nat.le_refl _))⟩
    have hrow:=HROW.out
    rw[preB_full] at hrow
    exact hrow.of_heap (hw5.2.2.2.2 _ (by omega)) (hw5.2.2.2.2 _ (by omega))
end Go.Proofs.YtedabomlfcghoaaGreat
namespace Go.Proofs.YtedabomlfcghoaaGreat
set_option maxRecDepth 100000
open Go.RowKit BM
theorem infoBool1:(Tryz.prog.info? 4).map (fun i=>(i.zero,i.size,i.bytes))=some (some (.bool false),1,1):=by kernel_rfl
def NewBytes (w:World) (l:List Int) (e:Ending) (w':World):Prop:=
 ∃ v,e=.returned v/\BSl w' v l/\Below w.heap.size w w'
theorem bsl_row {w:World}{g:Nat}{l:List Int} (hb:∀ j,0<=l.getD j 0/\l.getD j 0<=255) (hg:w.heap[g]? =some (.cells (l.map (Value.int .u8)).toArray 5 (0,0))) (c:Nat) (hcl:l.length<=c):
 BSl w (.slice (some ⟨g,0,none⟩) l.length c) l:=by
 refine ⟨hb,.inr ⟨_,c,rfl,hcl,fun j hj=>⟨(Array.getElem?_eq_some_iff.1 hg).1,rfl,?_⟩⟩⟩
 show w.cell? ⟨g,0+j,none⟩=_
 rw[Nat.zero_add,cell_of_row _ _ _ _ _ _ hg]
 simp[List.getD_eq_getElem?_getD,hj]
theorem bBytes_l {w:World}{p g:Nat}{L:List Bool} (h:BRow w p g L):
 Calls Tryz.prog 185 #[.pointer (some ⟨p,0,none⟩)] w fun e w'=>∃ l,Rep l L/\NewBytes w l e w':=by
 have hn:=h.1
 have hlt:=h.lt
 obtain ⟨l,hr,hc,hs,hx,hf,hg⟩:=h.cells
 have hlen:=hr.len
 obtain ⟨N,hN⟩:∃ N,N=l.length:=⟨_,rfl⟩
 rw[<- hN] at hs hx
 have hNN:N<=600:=by omega
 have HN:=Lib.hid hN
 have HX:=Lib.hid hx
 have hbl:Below w.heap.size w (w.alloc (.cells (Array.replicate N (.int .u8 0)) 5)):=(Below.refl _ _).alloc (Nat.le_refl _) _
 have hg2:(w.alloc (.cells (Array.replicate N (.int .u8 0)) 5)).heap[w.heap.size]? =some (.cells (List.replicate N (Value.int .u8 0)).toArray 5 (0,0)):=by
  rw[heap_alloc_new];simp
 have hcl:(l.map (Value.int .u8)).length=N:=by rw[List.length_map,<- hN]
 have hmm:N=Nat.min N N:=by simp
 have hfit:0+(l.map (Value.int .u8)).length<=(List.replicate N (Value.int .u8 0)).length:=by rw[List.length_map,<- hN];simp
 have hsrc:0<(l.map (Value.int .u8)).length->some (⟨w.heap.size,0,none⟩:Addr)=some ⟨w.heap.size,0,none⟩/\∃ ad,some (⟨g,0,none⟩:Addr)=some ad/\∀ j v,(l.map (Value.int .u8))[j]? =some v->(w.alloc (.cells (Array.replicate N (.int .u8 0)) 5)).cell? (ad.add j)=some v:=fun _=>by
  refine ⟨rfl,_,rfl,fun j v hj=>?_⟩
  have hjl:j<l.length:=by simpa using (List.getElem?_eq_some_iff.1 hj).1
  rw[Addr.add_lit,Nat.zero_add,hbl.cell (by exact hlt.2),hx j (by omega),<- hj]
  simp[List.getD_eq_getElem?_getD,hjl]
 have HG2:=Lib.hid hg2
 have HC:=Lib.hid hcl
 have HM:=Lib.hid hmm
 have HF:=Lib.hid hfit
 have HS:=Lib.hid hsrc
 have HL:=Lib.hid hlen
 have hs1:(w.alloc (.cells (Array.replicate N (.int .u8 0)) 5)).cell? ⟨p,1,none⟩=some (.slice (some ⟨g,0,none⟩) N N):=by rw[hbl.cell (by exact hlt.1)];exact hs
 clear hN hx hg2 hcl hmm hfit hsrc hf hg hlen
 go_enter Tryz.func185,Tryz.ntmps185
 go_wp2_with (first
  |(at_make;refine wpList_make_u8 _ rfl _ _ rfl _ N rfl rfl rfl (by omega) ?_)
  |(with_reducible refine wpList_copy_wrote rfl _ _ 30 30 rfl 5 Tryz.underlying30 (by kernel_rfl) _ _ _ _ _ _ rfl rfl w.heap.size 0 (List.replicate N (Value.int .u8 0)) 5 HG2.out (l.map (Value.int .u8)) N HC.out HM.out HS.out HF.out (ints_oneCell _ _) ?_;intro w2 HG3 HW2))
 go_ret
 refine ⟨l,hr,_,rfl,?_,hbl.trans (HW2.below (Nat.le_refl _))⟩
 have h3:=HG3.out
 rw[splice_whole _ _ (by rw[HC.out];simp)] at h3
 rw[HN.out]
 exact bsl_row hr.byte h3 _ (by omega)
theorem bBytes_any {w:World}{p g:Nat}{L:List Bool} (h:BRow w p g L) (l:List Int) (hr:Rep l L):
 Calls Tryz.prog 185 #[.pointer (some ⟨p,0,none⟩)] w (NewBytes w l):=
 (bBytes_l h).mono fun e w' ⟨m,hm,hN⟩=>by rw[rep_ext hr hm];exact hN
def part (L:List Bool) (k:Nat):List Bool:=L.take k ++ List.replicate (L.length-k) false
theorem part_length (L:List Bool) (k:Nat) (hk:k<=L.length):(part L k).length=L.length:=by simp[part];omega
theorem part_getD (L:List Bool) (k j:Nat):(part L k).getD j false=if j<k then L.getD j false else false:=by
 unfold part
 simp only[List.getD_eq_getElem?_getD]
 by_cases h:j<k
 · rw[if_pos h]
   by_cases h2:j<L.length
   · rw[List.getElem?_append_left (by simp;omega),List.getElem?_take,if_pos h]
   · rw[List.getElem?_eq_none (l:=L) (by omega),List.getElem?_eq_none (by simp;omega)]
 · rw[if_neg h,List.getElem?_append]
   split
   · rename_i h2;simp at h2;omega
   · rw[List.getElem?_replicate];split <;> rfl
theorem part_zero (L:List Bool):part L 0=List.replicate L.length false:=by simp[part]
theorem part_all (L:List Bool) (k:Nat) (h:L.length<=k):part L k=L:=by simp[part,List.take_of_length_le h,show L.length-k=0 by omega]
theorem list_ext_getD {A B:List Bool} (hl:A.length=B.length) (h:∀ j,A.getD j false=B.getD j false):A=B:=by
 apply List.ext_getElem hl
 intro j h1 h2
 have:=h j
 simpa [List.getD_eq_getElem?_getD,h1,h2] using this
theorem part_step (L:List Bool) (k:Nat) (hk:k<L.length) (b:Bool) (hb:L.getD k false=b):part L (k+1)=if b then (part L k).set k true else part L k:=by
 apply list_ext_getD
 · cases b <;> simp[part_length,Nat.le_of_lt hk,Nat.succ_le_of_lt hk]
 · intro j
   rw[part_getD]
   cases b
   · simp only[Bool.false_eq_true,if_false,part_getD]
     by_cases h1:j<k
     · rw[if_pos h1,if_pos (by omega)]
     · rw[if_neg h1]
       by_cases e:j=k
       · rw[e,if_pos (by omega),hb]
       · rw[if_neg (by omega)]
   · simp only[if_true]
     rw[getD_set _ _ _ _ _ (by rw[part_length _ _ (by omega)];exact hk),part_getD]
     by_cases e:j=k
     · rw[if_pos e,e,if_pos (by omega),hb]
     · rw[if_neg e]
       by_cases h1:j<k
       · rw[if_pos h1,if_pos (by omega)]
       · rw[if_neg h1,if_neg (by omega)]
theorem or_bit' (x:Int) (k:Nat) (hk:k<8) (h0:0<=x) (h1:x<=255):bits BinOp.or IntKind.u8 x (2 ^ k%256)=if bitAt x k then x else x+2 ^ k:=by
 have e:(2:Int) ^ k%256=IntKind.u64.wrap (2 ^ k)%256:=by
  have h:k=0\/k=1\/k=2\/k=3\/k=4\/k=5\/k=6\/k=7:=by omega
  rcases h with rfl|rfl|rfl|rfl|rfl|rfl|rfl|rfl <;> decide
 rw[e,or_bit x k hk h0 h1]
end Go.Proofs.YtedabomlfcghoaaGreat
namespace Go.Proofs.YtedabomlfcghoaaGreat
set_option maxRecDepth 100000
open Go.RowKit Go.ChangeShapes Go.WideShapes
def KSl (w:World) (v:Value) (k:List Bool):Prop:=
 (v=.slice none 0 0/\k=[])\/∃ a cap,v=.slice (some a) k.length cap/\∀ j,j<k.length->a.block<w.heap.size/\a.spot=none/\w.cell? ⟨a.block,a.off+j,none⟩=some (.bool (k.getD j false))
theorem KSl.below {w w':World}{v:Value}{k:List Bool} (h:KSl w v k) (hb:Below w.heap.size w w'):KSl w' v k:=by
 rcases h with h| ⟨a,cap,hv,hc⟩
 · exact .inl h
 · refine .inr ⟨a,cap,hv,fun j hj=>?_⟩
   obtain ⟨h1,h2,h3⟩:=hc j hj
   exact ⟨Nat.lt_of_lt_of_le h1 hb.size,h2,by rw[hb.cell (p:=⟨a.block,a.off+j,none⟩) h1,h3]⟩
theorem KSl.shape {w:World}{v:Value}{k:List Bool} (h:KSl w v k):∃ ao cap,v=.slice ao k.length cap:=by
 rcases h with ⟨hv,hk⟩| ⟨a,cap,hv,_⟩
 · exact ⟨none,0,by rw[hv,hk];rfl⟩
 · exact ⟨some a,cap,hv⟩
section
variable {H:Type}{enc:TypeId × Value->H}{W:World}{base:Nat}{spare:Nat->Bool}{held:Bool}
end
end Go.Proofs.YtedabomlfcghoaaGreat
namespace Go.Proofs.YtedabomlfcghoaaGreat
set_option maxRecDepth 100000
open Go.RowKit BM
def KR (w:World) (B:Nat) (v:Value) (L:List Bool):Prop:=w.ownsRow B 4 1 v L.length (L.map Value.bool)
theorem KR.more {w:World}{B B':Nat}{v:Value}{L:List Bool} (h:KR w B v L) (hB:B'<=B):KR w B' v L:=by
 refine ⟨h.1,?_⟩
 rcases h.2 with h| ⟨g,cap,cur,hv,hg,r⟩
 · exact .inl h
 · exact .inr ⟨g,cap,cur,hv,Nat.le_trans hB hg,r⟩
theorem kr_nil (w:World) (B:Nat):KR w B (.slice none 0 0) []:=⟨by simp,.inl ⟨rfl,rfl⟩⟩
theorem KR.ksl {w:World}{B:Nat}{v:Value}{L:List Bool} (h:KR w B v L):KSl w v L:=by
 rcases h.2 with ⟨hv,hl⟩| ⟨g,cap,cur,hv,hg,hh,hnc,hcm,hcs,ht⟩
 · exact .inl ⟨hv,List.eq_nil_of_length_eq_zero hl⟩
 · refine .inr ⟨_,cap,hv,fun j hj=>⟨(Array.getElem?_eq_some_iff.1 hh).1,rfl,?_⟩⟩
   show w.cell? ⟨g,0+j,none⟩=_
   rw[Nat.zero_add,cell_of_row _ _ _ _ _ _ hh]
   have:(cur.toList.take (L.length*1))[j]? =(L.map Value.bool)[j]? :=by rw[ht]
   rw[List.getElem?_take,if_pos (by omega)] at this
   simpa [List.getD_eq_getElem?_getD,hj] using this
theorem rCount_k {w:World}{p:Nat}{v:Value}{L:List Bool} (hp:w.cell? ⟨p,0,none⟩=some v) (hk:KSl w v L) (hn:L.length<=4096):
 Calls Tryz.prog 128 #[.pointer (some ⟨p,0,none⟩)] w fun e w'=>e=.returned (.int .i64 (countB L))/\w=w':=by
 rcases hk with ⟨rfl,rfl⟩| ⟨⟨g,off,spot⟩,cap,rfl,hc⟩
 · go_enter Tryz.func128,Tryz.ntmps128
   go_wp2
   refine wp_loop_rounds 1 ?_
   rw[rounds_succ]
   go_wp2
   go_ret
   exact ⟨rfl,rfl⟩
 · have hx:∀ j,j<L.length->w.cell? ⟨g,off+j,none⟩=some (.bool (L.getD j false)):=fun j hj=>by
    obtain ⟨_,h2,h3⟩:=hc j hj
    exact h3
   have hsp:0<L.length->spot=none:=fun h=>(hc 0 h).2.1
   clear hc
   have HX:=Lib.hid hx
   have HSP:=Lib.hid hsp
   clear hx hsp
   go_enter Tryz.func128,Tryz.ntmps128
   go_wp2_with fail
   go_loop [3,10] (fun c i=>∃ k:Nat,k<=L.length/\i=.int .i64 k/\c=.int .i64 (countB (L.take k))) (fun _ i=>L.length-(intOf i).toNat)
   case atStart=>exact ⟨0,by omega,rfl,rfl⟩
   case round=>
    obtain ⟨k,hk,rfl,rfl⟩:=hrel
    have hle:=countB_take_le L k
    obtain ⟨C,hC⟩:∃ C,C=countB (L.take k):=⟨_,rfl⟩
    rw[<- hC] at hle |-
    by_cases hlt:k<L.length
    · obtain rfl:spot=none:=HSP.out (by omega)
      have hstep:=countB_take hlt
      have hc:=HX.out k hlt
      cases hb:L.getD k false
      · rw[hb,if_neg (by decide),<- hC] at hstep
        rw[hb] at hc
        have HS:=Lib.hid hstep
        clear hb hstep hC
        go_wp2_with fail
        go_round
        case rel=>exact ⟨k+1,by omega,by go_num,by rw[HS.out];go_num⟩
        case measure=>simp[intOf];omega
      · rw[hb,if_pos rfl,<- hC] at hstep
        rw[hb] at hc
        have HS:=Lib.hid hstep
        clear hb hstep hC
        go_wp2_with fail
        go_round
        case rel=>exact ⟨k+1,by omega,by go_num,by rw[HS.out];go_num⟩
        case measure=>simp[intOf];omega
    · have HC:=Lib.hid hC
      clear hC
      go_wp2_with fail
      go_ret
      exact ⟨ret_int (by rw[HC.out,List.take_of_length_le (by omega)]),rfl⟩
theorem KSl.open' {w:World}{v:Value}{L:List Bool} (h:KSl w v L):∃ ao cap,v=.slice ao L.length cap/\(0<L.length->∃ g off,ao=some ⟨g,off,none⟩/\g<w.heap.size/\∀ j,j<L.length->w.cell? ⟨g,off+j,none⟩=some (.bool (L.getD j false))):=by
 rcases h with ⟨rfl,rfl⟩| ⟨⟨g,off,spot⟩,cap,rfl,hc⟩
 · exact ⟨none,0,rfl,fun h=>by simp at h⟩
 · refine ⟨_,cap,rfl,fun h0=>?_⟩
   obtain ⟨h1,h2,_⟩:=hc 0 h0
   obtain rfl:spot=none:=h2
   exact ⟨g,off,rfl,h1,fun j hj=>(hc j hj).2.2⟩
theorem rBytes_k {w:World}{p:Nat}{v:Value}{L:List Bool} (hp:w.cell? ⟨p,0,none⟩=some v) (hpl:p<w.heap.size) (hk:KSl w v L) (hn:L.length<=4096) (l:List Int) (hr:Rep l L):
 Calls Tryz.prog 130 #[.pointer (some ⟨p,0,none⟩)] w (NewBytes w l):=by
 have hlen:=hr.len
 obtain ⟨ao,cap,rfl,hx⟩:=hk.open'
 obtain ⟨N,hN⟩:∃ N,N=l.length:=⟨_,rfl⟩
 rw[<- hN] at hlen
 have e8:((L.length:Int)+7) / 8=(N:Int):=by omega
 have hNN:N<=600:=by omega
 have HN:=Lib.hid hN
 have HX:=Lib.hid hx
 have HE:=Lib.hid e8
 have HL:=Lib.hid hlen
 have hbl:Below w.heap.size w (w.alloc (.cells (Array.replicate N (.int .u8 0)) 5)):=(Below.refl _ _).alloc (Nat.le_refl _) _
 have hs1:(w.alloc (.cells (Array.replicate N (.int .u8 0)) 5)).cell? ⟨p,0,none⟩=some (.slice ao L.length cap):=by rw[hbl.cell (by exact hpl)];exact hp
 clear hN hx e8 hlen hk
 go_enter Tryz.func130,Tryz.ntmps130
 go_wp2_with (at_make;refine wpList_make_u8 _ rfl _ _ rfl _ N rfl rfl HE.out (by omega) ?_)
 go_loopw [18] (fun i wr=>∃ (k:Nat) (m:List Int),k<=L.length/\i=.int .i64 k/\Hid (Rep m (part L k))/\Hid (wr.heap[w.heap.size]? =some (.cells (m.map (Value.int .u8)).toArray 5 (0,0)))/\Below w.heap.size w wr)
  (fun i _=>L.length-(intOf i).toNat)
 case atStart=>
  refine ⟨0,List.replicate ((L.length+7) / 8) 0,by omega,rfl,?_,?_,hbl⟩
  · rw[part_zero];exact rep_new L.length
  · rw[heap_alloc_new,<- HL.out];simp[Hid]
 case round=>
  obtain ⟨k,m,hk,rfl,hrep,hgm,hbr⟩:=hrel
  have hml:=hrep.out.len
  rw[part_length L k hk,<- HL.out] at hml
  have HML:=Lib.hid hml
  clear hml
  have hp:=(hbr.cell (p:=⟨p,0,none⟩) hpl).trans hp
  by_cases hlt2:k<L.length
  · obtain ⟨g,off,rfl,hgl,hxx⟩:=HX.out (by omega)
    have hkN:k / 8<N:=by have:=HL.out;omega
    have hkN':(k:Int) / 8<(N:Int):=by omega
    have hg0:=(hbr.cell (p:=⟨g,off+k,none⟩) hgl).trans (hxx k hlt2)
    clear hxx
    cases hb:L.getD k false
    · rw[hb] at hg0
      have HP:=Lib.hid (part_step L k hlt2 false hb)
      clear hb
      go_wp2_with fail
      go_roundw
      case rel=>
       refine ⟨k+1,m,by omega,by go_num,?_,hgm,hbr⟩
       have:=HP.out
       rw[if_neg (by decide)] at this
       rw[this];exact hrep
      case measure=>simp[intOf];omega
    · rw[hb] at hg0
      have HP:=Lib.hid (part_step L k hlt2 true hb)
      have hxb:=hrep.out.byte (k / 8)
      obtain ⟨x,hx⟩:∃ x,x=m.getD (k / 8) 0:=⟨_,rfl⟩
      have hcx:wr.cell? ⟨w.heap.size,k / 8,none⟩=some (.int .u8 x):=by
       rw[cell_of_row _ _ _ _ _ _ hgm.out,hx]
       simp[List.getD_eq_getElem?_getD,HML.out,hkN]
      have hfx:wr.frozen? ⟨w.heap.size,k / 8,none⟩=false:=frozen_of_row _ _ _ _ _ hgm.out
      rw[<- hx] at hxb
      have HXX:=Lib.hid hx
      clear hb hx
      go_wp2_with fail
      go_region
      go_wp2_with fail
      go_roundw
      case rel=>
       have hk8:k%8<8:=Nat.mod_lt _ (by omega)
       have hpl:k<(part L k).length:=by rw[part_length L k hk];exact hlt2
       have hset:=rep_set hrep.out k true hpl (bits BinOp.or IntKind.u8 x (2 ^ (k%8)%256)) (by rw[or_bit' x _ hk8 hxb.1 hxb.2,<- HXX.out];rfl)
       have hP:=HP.out
       rw[if_pos trivial] at hP
       refine ⟨k+1,_,by omega,by go_num,by rw[hP];exact hset,?_,?_⟩
       · show (wr.setCell _ _).heap[w.heap.size]? =_
         rw[heap_setCell_same _ _ _ _ _ _ hgm.out,List.map_set]
         simp
       · exact (hbr.setCell (p:=⟨w.heap.size,k / 8,none⟩) (Nat.le_refl _) _).drew
      case measure=>simp[intOf];omega
  · go_wp2_with fail
    go_ret
    have hr2:=hrep.out
    rw[part_all L k (by omega)] at hr2
    obtain rfl:m=l:=rep_ext hr2 hr
    exact ⟨_,rfl,by rw[HN.out];exact bsl_row hr.byte hgm.out _ (by first|omega|exact Nat.le_refl _),hbr⟩
theorem rrPage_is {w:World}{v:Value}{O:List (Int × Int)} (hs:OwSl w v O) (h:allO O=true):Calls Tryz.prog 77 #[v] w fun e w'=>∃ v,e=.returned (.tuple #[v,.int .i64 0])/\BSl w' v (pageS O)/\Below w.heap.size w w':=
 (rrPage_any hs).mono fun e w' ho=>ho.elim (fun h1=>h1.2) fun h1=>by rw[h] at h1;cases h1.1
theorem rrPage_not {w:World}{v:Value}{O:List (Int × Int)} (hs:OwSl w v O) (h:allO O=false):Calls Tryz.prog 77 #[v] w fun e w'=>e=.returned (.tuple #[.slice none 0 0,.int .i64 1])/\Below w.heap.size w w':=
 (rrPage_any hs).mono fun e w' ho=>ho.elim (fun h1=>by rw[h] at h1;cases h1.1) fun h1=>h1.2
theorem rrOf_bad {w:World}{v:Value}{O:List (Int × Int)} (hs:OwSl w v O) (g:Int) (h:¬ ((0<=g/\g<12)/\allO O=true)):
 Calls Tryz.prog 78 #[.int .i64 g,v] w fun e w'=>e=.returned (.tuple #[.agg #[.int .i64 0,.slice none 0 0],.int .i64 1])/\Below w.heap.size w w':=by
 have hb1:=below_box w (.cells #[.int .i64 0,.slice none 0 0] 139)
 have hr1:=heap_alloc_new w (.cells #[.int .i64 0,.slice none 0 0] 139)
 obtain ⟨w1,hw1⟩:∃ w1,w1=w.alloc (.cells #[.int .i64 0,.slice none 0 0] 139):=⟨_,rfl⟩
 rw[<- hw1] at hb1 hr1
 have H1:=Lib.hid hw1.symm
 have HR1:=Lib.hid hr1
 have hs1:=hs.below hb1
 cases ha:allO O
 · have HA:=Lib.hid (rrPage_not hs1 ha)
   clear hs hs1 h ha hw1 hr1
   by_cases g0:g<0
   all_goals (try (by_cases g1:11<g))
   all_goals
    go_enter Tryz.func78,Tryz.ntmps78
    go_wp2_with (first
     |(go_at_call 77;rw[H1.out];refine HA.out.mono ?_;rintro e w2 ⟨rfl,hb2⟩;have hr2:=below_hold HR1.out hb2)
     |(with_reducible refine wpList_store2 rfl 139 sizeRD (.tmp 4) (.tmp 25) rfl w.heap.size rfl _ _ _ _ rfl rfl rfl _ hr2 ?_;intro w3 hw3 hr3))
    exact bodyPost_ret (ret_cell2 rfl Tryz.underlying139 sizeRD _ _ w.heap.size _ _ _ _ rfl hr3 rfl) rfl ⟨rfl,(hb1.trans (hb2.mono hb1.size)).trans (hw3.below (Nat.le_refl _))⟩
 · have HA:=Lib.hid (rrPage_is hs1 ha)
   have hg:g<0\/11<g:=by
    by_cases g0:0<=g/\g<12
    · exact absurd ⟨g0,ha⟩ h
    · omega
   clear hs hs1 h ha hw1 hr1
   by_cases g0:g<0
   · clear hg
     go_enter Tryz.func78,Tryz.ntmps78
     go_wp2_with (first
      |(go_at_call 77;rw[H1.out];refine HA.out.mono ?_;rintro e w2 ⟨v2,rfl,hs2,hb2⟩;have hr2:=below_hold HR1.out hb2)
      |(with_reducible refine wpList_store2 rfl 139 sizeRD (.tmp 4) (.tmp 25) rfl w.heap.size rfl _ _ _ _ rfl rfl rfl _ hr2 ?_;intro w3 hw3 hr3))
     exact bodyPost_ret (ret_cell2 rfl Tryz.underlying139 sizeRD _ _ w.heap.size _ _ _ _ rfl hr3 rfl) rfl ⟨rfl,(hb1.trans (hb2.mono hb1.size)).trans (hw3.below (Nat.le_refl _))⟩
   · have g1:11<g:=by omega
     clear hg
     go_enter Tryz.func78,Tryz.ntmps78
     go_wp2_with (first
      |(go_at_call 77;rw[H1.out];refine HA.out.mono ?_;rintro e w2 ⟨v2,rfl,hs2,hb2⟩;have hr2:=below_hold HR1.out hb2)
      |(with_reducible refine wpList_store2 rfl 139 sizeRD (.tmp 4) (.tmp 25) rfl w.heap.size rfl _ _ _ _ rfl rfl rfl _ hr2 ?_;intro w3 hw3 hr3))
     exact bodyPost_ret (ret_cell2 rfl Tryz.underlying139 sizeRD _ _ w.heap.size _ _ _ _ rfl hr3 rfl) rfl ⟨rfl,(hb1.trans (hb2.mono hb1.size)).trans (hw3.below (Nat.le_refl _))⟩
theorem KR.wrote {w w':World}{B g:Nat}{v:Value}{L:List Bool} (h:KR w B v L) (hw:Wrote w w' g) (hne:∀ m,v.ownBlock=some m->m≠g):KR w' B v L:=by
 refine ⟨h.1,?_⟩
 rcases h.2 with h| ⟨k,cap,cur,hv,hg,hh,r⟩
 · exact .inl h
 · exact .inr ⟨k,cap,cur,hv,hg,by rw[hw.2.2.2.2 k (hne k (by rw[hv];rfl))];exact hh,r⟩
theorem rrOf_step {w wr w3:World}{gd gg cap:Nat}{g:Int}{vL:Value}{L:List Bool}{ub:Bool}{T:TypeId}{Z:Obj} (hd:wr.heap[gd]? =some (.cells #[.int .i64 g,vL] T (0,0))) (hkr:KR wr (gd+1) vL L)
 (hz:wr.heap[w.heap.size]? =some Z) (hwd:w.heap.size<gd) (hb:Below w.heap.size w wr) (hgrow:((wr.alloc (.cells #[.bool ub] 4)).drew).grownBy w3 vL.ownBlock)
 (hown:w3.ownsRow (gd+1) 4 1 (.slice (some ⟨gg,0,none⟩) (L.length+1) cap) (L.length+1) (L.map Value.bool ++ [.bool ub])):
 (w3.setCell ⟨gd,1,none⟩ (.slice (some ⟨gg,0,none⟩) (L.length+1) cap)).heap[gd]? =some (.cells #[.int .i64 g,.slice (some ⟨gg,0,none⟩) (L.length+1) cap] T (0,0))/\
 KR (w3.setCell ⟨gd,1,none⟩ (.slice (some ⟨gg,0,none⟩) (L.length+1) cap)) (gd+1) (.slice (some ⟨gg,0,none⟩) (L.length+1) cap) (L ++ [ub])/\
 (w3.setCell ⟨gd,1,none⟩ (.slice (some ⟨gg,0,none⟩) (L.length+1) cap)).heap[w.heap.size]? =some Z/\Below w.heap.size w (w3.setCell ⟨gd,1,none⟩ (.slice (some ⟨gg,0,none⟩) (L.length+1) cap)):=by
 have hlt1:gd<wr.heap.size:=(Array.getElem?_eq_some_iff.1 hd).1
 have hune:∀ m,vL.ownBlock=some m->gd+1<=m:=fun m hm=>(World.ownsRow.lt hkr m hm).1
 have hbx:Below wr.heap.size wr (wr.alloc (.cells #[.bool ub] 4)).drew:=(below_box _ _).drew
 have old:∀ k,k<=gd->w3.heap[k]? =wr.heap[k]? :=fun k hk=>by
  rw[hgrow.block k (by simp;omega) (fun e=>by have:=hune k e.symm;omega)]
  exact hbx.block k (by omega)
 refine ⟨?_,?_,?_,?_⟩
 · rw[heap_setCell_same w3 gd 1 _ _ _ ((old gd (Nat.le_refl _)).trans hd)];rfl
 · rcases hown.2 with ⟨hv,_⟩| ⟨g',cap',cur,hv,hg,hh,r⟩
   · simp at hv
   · obtain ⟨rfl,rfl⟩:gg=g'/\cap=cap':=by simpa using hv
     have e:(L ++ [ub]).length=L.length+1:=by simp
     rw[KR,e,List.map_append]
     exact ⟨hown.1,.inr ⟨gg,cap,cur,rfl,hg,by rw[heap_setCell_other w3 ⟨gd,1,none⟩ gg _ (show gg≠gd by omega)];exact hh,r⟩⟩
 · rw[heap_setCell_other w3 ⟨gd,1,none⟩ _ _ (show w.heap.size≠gd by omega),old _ (by omega)];exact hz
 · have hb3:Below w.heap.size w w3:=(hb.trans (hbx.mono hb.size)).grown hgrow (by simp;have:=hb.size;omega) (fun k hk=>by have:=hune k hk;omega)
   exact hb3.setCell (p:=⟨gd,1,none⟩) (by show w.heap.size<=gd;omega) _
set_option maxHeartbeats 2000000 in
theorem rrOf_good {w:World}{v:Value}{O:List (Int × Int)} (hs:OwSl w v O) (g:Int) (hg1:0<=g) (hg2:g<12) (ha:allO O=true):
 Calls Tryz.prog 78 #[.int .i64 g,v] w fun e w'=>∃ v,e=.returned (.tuple #[.agg #[.int .i64 g,v],.int .i64 0])/\KR w' w.heap.size v (usedK O 64)/\Below w.heap.size w w':=by
 have hb1:=below_box w (.cells #[.int .i64 0,.slice none 0 0] 139)
 have hr1:=heap_alloc_new w (.cells #[.int .i64 0,.slice none 0 0] 139)
 obtain ⟨w1,hw1⟩:∃ w1,w1=w.alloc (.cells #[.int .i64 0,.slice none 0 0] 139):=⟨_,rfl⟩
 rw[<- hw1] at hb1 hr1
 have hz1:w.heap.size<w1.heap.size:=by rw[hw1];simp
 have H1:=Lib.hid hw1.symm
 have HR1:=Lib.hid hr1
 have hs1:=hs.below hb1
 have HA:=Lib.hid (rrPage_is hs1 ha)
 have hO:=allO_len ha
 obtain ⟨b,off,cap,rfl,hb,hc⟩:=hs.at (by omega)
 have HC:=Lib.hid hc
 have HBB:=Lib.hid hs.1
 have HO:=Lib.hid hO
 have g1:¬ 11<g:=by omega
 have g0:¬ g<0:=by omega
 rw[hO] at HA |-
 clear hs hs1 hw1 ha hc hO hr1
 go_enter Tryz.func78,Tryz.ntmps78
 go_wp2_with (first
  |(go_at_call 77;rw[H1.out];refine HA.out.mono ?_;rintro e w2 ⟨v2,rfl,hs2,hb2⟩;have hr2:=below_hold HR1.out hb2))
 have hb3:=below_box w2 (.cells #[.int .i64 g,.slice none 0 0] 139)
 have hd3:=heap_alloc_new w2 (.cells #[.int .i64 g,.slice none 0 0] 139)
 generalize w2.alloc (.cells #[.int .i64 g,.slice none 0 0] 139)=w3 at hb3 hd3 |-
 have hr3:=below_hold hr2 hb3
 obtain ⟨gd,hgd⟩:∃ gd,gd=w2.heap.size:=⟨_,rfl⟩
 rw[<- hgd] at hd3 |-
 have hwd:w.heap.size<gd:=by have:=hb2.size;omega
 have hb03:Below w.heap.size w w3:=(hb1.trans (hb2.mono hb1.size)).trans (hb3.mono (by omega))
 have hdl:gd<w3.heap.size:=(Array.getElem?_eq_some_iff.1 hd3).1
 have HD3:=Lib.hid hd3
 have HR3:=Lib.hid hr3
 clear hd3 hr3 hr2 hb3 hb2 hs2 hgd
 go_loopw [30] (fun i wr=>∃ k:Nat,k<=64/\i=.int .i64 k/\∃ vL,Hid (wr.heap[gd]? =some (.cells #[.int .i64 g,vL] 139 (0,0)))/\Hid (KR wr (gd+1) vL (usedK O k))/\Hid (wr.heap[w.heap.size]? =some (.cells #[.int .i64 0,.slice none 0 0] 139 (0,0)))/\Below w.heap.size w wr) (fun i _=>64-(intOf i).toNat)
 case atStart=>exact ⟨0,by omega,rfl,_,HD3,kr_nil _ _,HR3,hb03⟩
 case round=>
  obtain ⟨k,hk,rfl,vL,HD,HKR,HRC,hbr⟩:=hrel
  clear HD3 HR3 hb03
  by_cases hlt:k<64
  · have hck:=HC.out k (by rw[HO.out];exact hlt)
    have hbd:=HBB.out k
    have hus:usedJ O k=decide ((O.getD k (0,0)).1≠0):=rfl
    have hsu:=usedK_succ O k
    obtain ⟨x,hx⟩:∃ x,x=(O.getD k (0,0)).1:=⟨_,rfl⟩
    rw[<- hx] at hck hbd hus
    have c1:=(hbr.cell (p:=⟨b,off+k*2,none⟩) hb).trans hck.1
    have c2:wr.cell? ⟨gd,1,none⟩=some vL:=by rw[cell_of_row _ _ _ _ _ _ HD.out];rfl
    have ek:(k:Int)<64:=by omega
    obtain ⟨ub,hub⟩:∃ ub,ub=usedJ O k:=⟨_,rfl⟩
    rw[<- hub] at hsu hus
    have hxb:(x != 0)=ub:=by rw[hus];by_cases h0:x=0 <;> simp[h0]
    have HSU:=Lib.hid hsu
    have HUL:=Lib.hid (usedK_length O k)
    clear hx hck hus hub hsu
    obtain ⟨i,hi1,hi2,hi3,hi4⟩:=info_parts infoBool1
    have hzz:(Value.bool false).cells.size=1:=rfl
    have hlt1:gd<wr.heap.size:=(Array.getElem?_eq_some_iff.1 HD.out).1
    have hune:∀ m,vL.ownBlock=some m->gd+1<=m:=fun m hm=>(World.ownsRow.lt HKR.out m hm).1
    have hune':some gd≠vL.ownBlock:=fun e=>by have:=hune gd e.symm;omega
    have fz:wr.frozen? ⟨gd,1,none⟩=false:=frozen_of_row _ _ _ _ _ HD.out
    have hc3:∀ w3,((wr.alloc (.cells #[.bool ub] 4)).drew).grownBy w3 vL.ownBlock->w3.cell? ⟨gd,1,none⟩=some vL/\w3.frozen? ⟨gd,1,none⟩=false:=fun w3 hg=>by
     have hlt':gd<((wr.alloc (.cells #[.bool ub] 4)).drew).heap.size:=by simp;omega
     rw[hg.cell_far _ hlt' hune',hg.frozen_far _ hlt' hune']
     exact ⟨by rw[World.cell?_drew,World.cell?_alloc_lt _ _ _ hlt1];exact c2,by rw[World.frozen?_drew,World.frozen?_alloc_past _ _ _ hlt1];exact fz⟩
    have HC3:=Lib.hid hc3
    have HUNE:=Lib.hid hune
    have hlb:(usedK O k).length<=64:=by rw[HUL.out];exact hk
    have hcu1:∀ u∈[Value.bool ub],u.oneCell'=true:=fun u hu=>by simp at hu;subst hu;rfl
    clear hc3 hune hune'
    go_wp2
    go_region_law
     ((refine step_append_lies _ (by rfl) _ _ _ (by rfl) (gd+1) 4 i _ 1 1 Tryz.underlying137 hi1 hi2 hi3 hi4 hzz (by omega) vL (usedK O k).length ((usedK O k).map Value.bool) (by rfl) ((HKR.out.alloc _).drew)
        ⟨wr.heap.size,0,none⟩ 1 1 [Value.bool ub] (by rfl) (by rfl) (World.news_of_block (cs:=#[Value.bool ub]) (t:=4) (fr:=(0,0)) (heap_alloc_new wr _)) hcu1
        (by omega) (by simp only[maxLen];omega) (by omega) (by simp;omega) (wr.heap.size+1) (by simp) ?_;intro gg cap w3 hown3 hgrow hat hltg;obtain ⟨c3,f3⟩:=HC3.out w3 hgrow))
    all_goals
     have HST:=Lib.hid (rrOf_step HD.out HKR.out HRC.out hwd hbr hgrow hown3)
     clear hown3 hgrow hat
     go_wp2
     go_roundw
     case rel=>exact ⟨k+1,by omega,by go_num,_,HST.out.1,by show KR _ _ _ (usedK O (k+1));rw[HSU.out];exact HST.out.2.1,HST.out.2.2.1,HST.out.2.2.2⟩
     case measure=>simp[intOf];omega
  · obtain rfl:k=64:=by omega
    have d0:wr.cell? ⟨gd,0,none⟩=some (.int .i64 g):=by rw[cell_of_row _ _ _ _ _ _ HD.out];rfl
    have d1:wr.cell? ⟨gd,1,none⟩=some vL:=by rw[cell_of_row _ _ _ _ _ _ HD.out];rfl
    have hrc:=HRC.out
    obtain ⟨aL,cL,rfl⟩:=HKR.out.ksl.shape
    go_wp2_with (with_reducible refine wpList_store2 rfl 139 sizeRD (.tmp 4) (.tmp 45) rfl w.heap.size rfl _ _ _ _ rfl rfl rfl _ hrc ?_;intro w5 hw5 hr5)
    refine bodyPost_ret (ret_cell2 rfl Tryz.underlying139 sizeRD _ _ w.heap.size _ _ _ _ rfl hr5 rfl) rfl ⟨_,rfl,?_,hbr.trans (hw5.below (Nat.le_refl _))⟩
    exact (HKR.out.more (by omega)).wrote hw5 (fun m hm=>by have:=(World.ownsRow.lt HKR.out m hm).1;omega)
theorem ow_len {w:World}{B:Nat}{v:Value}{O:List (Int × Int)} (h:OwR w B v O) (n:Nat) (hn:O.length=n) (h0:0<n):∃ g cap,v=.slice (some ⟨g,0,none⟩) n cap:=by
 rcases h.2.2 with ⟨_,h1⟩| ⟨g,cap,cur,hv,_⟩
 · omega
 · exact ⟨g,cap,by rw[hv,hn]⟩
theorem pageS_length {O:List (Int × Int)} (h:O.length=64):(pageS O).length=256:=by rw[pageS,pageK_length,h]
theorem bsl_desc (w2:World):BSl (w2.alloc (.cells #[.int .u8 100,.int .u8 101,.int .u8 115,.int .u8 99] 5 (4,5))) (.slice (some ⟨w2.heap.size,0,none⟩) 4 4) [100,101,115,99]:=by
 refine ⟨byt_of_mem (by decide),.inr ⟨_,4,rfl,by decide,fun j hj=>⟨by simp,rfl,?_⟩⟩⟩
 have hj:j<4:=hj
 have hh:(w2.alloc (.cells #[.int .u8 100,.int .u8 101,.int .u8 115,.int .u8 99] 5 (4,5))).heap[w2.heap.size]? =some (.cells #[.int .u8 100,.int .u8 101,.int .u8 115,.int .u8 99] 5 (4,5)):=by
  show (w2.heap.push _)[w2.heap.size]? =_
  simp
 rw[Nat.zero_add,cell_of_row _ _ _ _ _ _ hh]
 have:j=0\/j=1\/j=2\/j=3:=by omega
 rcases this with rfl|rfl|rfl|rfl <;> rfl
theorem BRow.low {w w':World}{p r:Nat}{L:List Bool} (h:BRow w p r L) (hb:Below w.heap.size w w'):BRow w' p r L:=h.below hb h.lt.1 h.lt.2
theorem pPut2 {w:World}{v:Value}{l:List Int} (hs:BSl w v l) (hl:l.length<=1000) (x:Int) (h0:0<=x) (h1:x<=65535):Calls Tryz.prog 177 #[v,.int .u64 x,.int .i64 2] w (NewB w (l ++ lowB x 2)):=
 pPut_at hs (by omega) x 2 2 (by omega) (by omega) rfl h0 (by omega)
set_option maxHeartbeats 1000000 in
theorem grEnc_yes {w:World}{p r:Nat}{L:List Bool} (hr:BRow w p r L) (g:Int) (h1:0<=g) (h2:g<12) (hL:L.length=64):
 Calls Tryz.prog 148 #[.agg #[.int .i64 g,.pointer (some ⟨p,0,none⟩)]] w fun e w'=>∃ v,e=.returned (.tuple #[v,.int .i64 0])/\OB w' w.heap.size v (descS g L)/\Below w.heap.size w w':=by
 have hb1:=below_box w (.cells #[.int .i64 g,.pointer (some ⟨p,0,none⟩)] 212)
 have hd1:=heap_alloc_new w (.cells #[.int .i64 g,.pointer (some ⟨p,0,none⟩)] 212)
 obtain ⟨w1,hw1⟩:∃ w1,w1=w.alloc (.cells #[.int .i64 g,.pointer (some ⟨p,0,none⟩)] 212):=⟨_,rfl⟩
 rw[<- hw1] at hb1 hd1
 have H1:=Lib.hid hw1.symm
 have HROW:=Lib.hid (hr.low hb1)
 have hlen:=bLen_row HROW.out
 rw[hL] at hlen
 have HLEN:=Lib.hid hlen
 have hcb:=countB_le L
 obtain ⟨C,hC⟩:∃ C,C=countB L:=⟨_,rfl⟩
 rw[<- hC,hL] at hcb
 have HC:=Lib.hid hC
 have HL:=Lib.hid hL
 have HD1:=Lib.hid hd1
 have hlt:w.heap.size<w1.heap.size:=(Array.getElem?_eq_some_iff.1 hd1).1
 have c0:w1.cell? ⟨w.heap.size,0,none⟩=some (.int .i64 g):=by rw[cell_of_row _ _ _ _ _ _ hd1];rfl
 have c1:w1.cell? ⟨w.heap.size,1,none⟩=some (.pointer (some ⟨p,0,none⟩)):=by rw[cell_of_row _ _ _ _ _ _ hd1];rfl
 have kc:=fun (w:World) (C:Array Value) (n c:Nat)=>Lib.run_convert_bytes_const (P:=Tryz.prog) w 30 5 C n c Tryz.underlying30 Tryz.underlying5
 clear hr hlen hC hL hd1 hw1
 go_enter Tryz.func148,Tryz.ntmps148
 go_wp2_with (first
  |(go_at_call 183;rw[H1.out];refine (grPoss_yes g h1 h2 _).mono ?_;rintro e w2 ⟨rfl,rfl⟩)
  |(go_at_call 58;refine HLEN.out.mono ?_;rintro e w2 ⟨rfl,rfl⟩))
 have hbm:=bsl_desc w1
 have hb2:=below_box w1 (.cells #[.int .u8 100,.int .u8 101,.int .u8 115,.int .u8 99] 5 (4,5))
 generalize w1.alloc (.cells #[.int .u8 100,.int .u8 101,.int .u8 115,.int .u8 99] 5 (4,5))=w2 at hbm hb2 |-
 have HMG:=Lib.hid (pPut2 hbm (by decide) g h1 (by omega))
 clear hbm kc
 go_wp2_with (first
  |(go_at_call 177;(with_reducible refine HMG.out.mono ?_);rintro e w4 ⟨v4,rfl,hob4,hb4⟩
    have hb14:Below w1.heap.size w1 w4:=hb2.trans (hb4.mono hb2.size)
    have x1:w4.cell? ⟨w.heap.size,1,none⟩=some (.pointer (some ⟨p,0,none⟩)):=(hb14.cell (p:=⟨w.heap.size,1,none⟩) hlt).trans c1
    have HR4:=Lib.hid (HROW.out.low hb14))
  |(go_at_call 31;refine (bCount_any HR4.out).mono ?_;rw[<- HC.out];rintro e w5 ⟨rfl,m5,rfl⟩
    have y1:(w4.drewN m5).cell? ⟨w.heap.size,1,none⟩=some (.pointer (some ⟨p,0,none⟩)):=x1
    have HP2:=Lib.hid (pPut2 (hob4.bsl.drewN m5) (by rw[List.length_append,lowB_length];decide) (C:Int) (by omega) (by omega)))
  |(go_at_call 177;(with_reducible refine HP2.out.mono ?_);rintro e w6 ⟨v6,rfl,hob6,hb6⟩
    have hb46:Below w4.heap.size w4 w6:=⟨hb6.os,hb6.tape,hb6.output,hb6.size,hb6.block⟩
    have hb16:Below w1.heap.size w1 w6:=hb14.trans (hb46.mono hb14.size)
    have z1:w6.cell? ⟨w.heap.size,1,none⟩=some (.pointer (some ⟨p,0,none⟩)):=(hb16.cell (p:=⟨w.heap.size,1,none⟩) hlt).trans c1
    have HR6:=Lib.hid (HROW.out.low hb16))
  |(go_at_call 185;refine (bBytes_any HR6.out (bytesB L) (rep_bytesB L)).mono ?_;rintro e w7 ⟨v7,rfl,hs7,hb7⟩
    have hb17:Below w1.heap.size w1 w7:=hb16.trans (hb7.mono hb16.size))
  |(at_builtin
    refine wpList_append_bytes w7 rfl (.tmp 27) (.tmp 30) rfl w1.heap.size _ ([100,101,115,99] ++ lowB g 2 ++ lowB (C:Int) 2) rfl ((hob6.below hb7).more (by have:=hb14.size;simpa using this)) w7 v7 (bytesB L) rfl hs7 (fun _ _=>rfl) (by rw[bytesB_length,HL.out];simp[lowB_length]) hb17.size ?_
    intro v8 w8 hob8 hb8 _
    have hb18:Below w1.heap.size w1 w8:=hb17.trans hb8
    have HSE:Hid (Calls Tryz.prog 184 #[v8] w8 (SealOut (descC g L) w8)):=Lib.hid (by rw[descC,<- HC.out];exact pSeal_yes hob8.bsl (by rw[List.length_append,bytesB_length,HL.out];simp[lowB_length])))
  |(go_at_call 184;refine HSE.out.mono ?_;rintro e w9 ⟨v9,rfl,hob9,hb9⟩))
 go_ret2
 exact ⟨v9,rfl,hob9.more (Nat.le_trans hb1.size hb18.size),(hb1.trans (hb18.mono hb1.size)).trans (hb9.mono (Nat.le_trans hb1.size hb18.size))⟩
theorem bNew_len (n:Nat) (h:n<=4096) (w:World):Calls Tryz.prog 53 #[.int .i64 n] w fun e w'=>e=.returned (.pointer (some ⟨w.heap.size+1,0,none⟩))/\BRow w' (w.heap.size+1) w.heap.size (List.replicate n false)/\Below w.heap.size w w':=
 (bNew_at n n h w (by rw[if_neg (by omega),if_neg (by omega)])).mono fun _ _ ⟨h1,h2,h3,_⟩=>⟨h1,h2,h3⟩
end Go.Proofs.YtedabomlfcghoaaGreat
namespace Go.Proofs.YtedabomlfcghoaaGreat
set_option maxRecDepth 100000
open Go.RowKit
theorem strOf_inj {l m:List Int} (hl:Byt l) (hm:Byt m) (h:(strOfNums l).data.toList=(strOfNums m).data.toList):l=m:=by
 have e:l.map (fun n=>UInt8.ofNat n.toNat)=m.map (fun n=>UInt8.ofNat n.toNat):=by
  rw[<- strOfNums_data,<- strOfNums_data,h]
 have hlen:l.length=m.length:=by simpa using congrArg List.length e
 apply List.ext_getElem hlen
 intro i h1 h2
 have h3:=congrArg (fun z=>z[i]?) e
 simp[h1,h2] at h3
 have a:=byt_mem hl l[i] (List.getElem_mem h1)
 have b:=byt_mem hm m[i] (List.getElem_mem h2)
 have h4:=congrArg UInt8.toNat h3
 simp at h4
 omega
theorem bEqual_of {w:World}{u v:Value}{l m:List Int} (hu:BSl w u l) (hv:BSl w v m):Calls Tryz.prog 99 #[u,v] w fun e w'=>e=.returned (.bool (decide (l=m)))/\w=w':=by
 have c1:=conv_bsl hu
 have c2:=conv_bsl hv
 have b1:=hu.1
 have b2:=hv.1
 have hd:((strOfNums l).toList==(strOfNums m).toList)=decide (l=m):=by
  by_cases e:l=m
  · rw[decide_eq_true e,e];exact beq_self_eq_true _
  · rw[decide_eq_false e,ByteArray.toList_eq,ByteArray.toList_eq]
    rw[beq_eq_false_iff_ne]
    exact fun h=>e (strOf_inj b1 b2 h)
 have HD:=Lib.hid hd
 clear hu hv b1 b2 hd
 go_enter Tryz.func99,Tryz.ntmps99
 go_wp2
 go_ret
 exact ⟨by rw[<- HD.out];rfl,rfl⟩
def inP9 (x:Int):Bool:=decide (0<=x/\x<=767)
def newT (N:List Int) (i:Nat):Bool:=(N.take i).all fun x=>!(x==N.getD i 0)
def okT9 (N:List Int) (D:List (List Int)) (i:Nat):Bool:=inP9 (N.getD i 0) && (decide ((D.getD i []).length=256) && newT N i)
def frmTK (N:List Int) (D:List (List Int)) (k:Nat):Bool:=(List.range k).all fun i=>okT9 N D i
def frmT (N:List Int) (D:List (List Int)):Bool:=decide (N.length<=37) && (decide (D.length=N.length) && frmTK N D N.length)
theorem frmTK_iff (N:List Int) (D:List (List Int)) (k:Nat):frmTK N D k=true ↔ ∀ i,i<k->okT9 N D i=true:=by
 unfold frmTK
 rw[List.all_eq_true]
 exact ⟨fun h i hi=>h i (List.mem_range.2 hi),fun h i hi=>h i (List.mem_range.1 hi)⟩
theorem frmT_long {N:List Int}{D:List (List Int)} (h:37<N.length):frmT N D=false:=by
 unfold frmT;rw[decide_eq_false (by omega)];rfl
theorem frmT_len {N:List Int}{D:List (List Int)} (h:D.length≠N.length):frmT N D=false:=by
 unfold frmT;rw[decide_eq_false h];cases decide (N.length<=37) <;> rfl
theorem frmT_of {N:List Int}{D:List (List Int)} (h:frmT N D=true):N.length<=37/\D.length=N.length/\∀ i,i<N.length->(0<=N.getD i 0/\N.getD i 0<=767)/\(D.getD i []).length=256/\newT N i=true:=by
 unfold frmT at h
 rw[Bool.and_eq_true,Bool.and_eq_true,decide_eq_true_eq,decide_eq_true_eq] at h
 refine ⟨h.1,h.2.1,fun i hi=>?_⟩
 have:=(frmTK_iff N D _).1 h.2.2 i hi
 unfold okT9 inP9 at this
 rw[Bool.and_eq_true,Bool.and_eq_true,decide_eq_true_eq,decide_eq_true_eq] at this
 exact ⟨this.1,this.2.1,this.2.2⟩
theorem newT_iff (N:List Int) (i:Nat) (hi:i<N.length):newT N i=true ↔ ∀ j,j<i->N.getD j 0≠N.getD i 0:=by
 unfold newT
 rw[List.all_eq_true]
 constructor
 · intro h j hj
   have hjl:j<(N.take i).length:=by rw[List.length_take];omega
   have:=h _ (List.getElem_mem hjl)
   rw[List.getElem_take] at this
   have e:N.getD j 0=N[j]'(by omega):=by simp[List.getD_eq_getElem?_getD,show j<N.length by omega]
   rw[e]
   simpa using this
 · intro h x hx
   obtain ⟨j,hj,rfl⟩:=List.getElem_of_mem hx
   rw[List.length_take] at hj
   rw[List.getElem_take]
   have:=h j (by omega)
   have e:N.getD j 0=N[j]'(by omega):=by simp[List.getD_eq_getElem?_getD,show j<N.length by omega]
   rw[e] at this
   simpa using this
def jrnl:List Int:=[106,114,110,108]
def done9:List Int:=[100,111,110,101]
def numL (N:List Int):List Int:=N.flatMap fun n=>lowB n 2
def headL (q:Int) (N:List Int):List Int:=jrnl ++ lowB q 4 ++ lowB (N.length:Int) 2 ++ numL N
def endL (q:Int):List Int:=done9 ++ lowB q 4
def packT (q:Int) (N:List Int) (D:List (List Int)):List (List Int):=sealS (headL q N) :: (D ++ [sealS (endL q)])
theorem numL_length (N:List Int):(numL N).length=2*N.length:=by
 unfold numL
 induction N with
 |nil=>rfl
 |cons x N ih=>rw[List.flatMap_cons,List.length_append,ih,lowB_length,List.length_cons];omega
theorem numL_snoc (N:List Int) (x:Int):numL (N ++ [x])=numL N ++ lowB x 2:=by
 unfold numL
 rw[List.flatMap_append];simp
theorem numL_take (N:List Int) (k:Nat) (h:k<N.length):numL (N.take (k+1))=numL (N.take k) ++ lowB (N.getD k 0) 2:=by
 rw[List.take_succ_eq_append_getElem h,numL_snoc]
 simp[List.getD_eq_getElem?_getD,h]
theorem headL_length (q:Int) (N:List Int):(headL q N).length=10+2*N.length:=by
 simp only[headL,List.length_append,lowB_length,numL_length]
 have:jrnl.length=4:=rfl
 omega
theorem endL_length (q:Int):(endL q).length=8:=by
 rw[endL,List.length_append,lowB_length];rfl
theorem packT_length (q:Int) (N:List Int) (D:List (List Int)):(packT q N D).length=D.length+2:=by simp[packT]
theorem byt_jrnl:Byt jrnl:=byt_of_mem fun x hx=>by simp[jrnl] at hx;omega
theorem byt_done:Byt done9:=byt_of_mem fun x hx=>by simp[done9] at hx;omega
theorem getV_midst (A R:List Int) (n:Int) (k:Nat) (h:0<=n) (a:Nat) (ha:A.length=a):getV (A ++ (lowB n k ++ R)) a k=n%256 ^ k:=by
 subst ha
 unfold getV
 rw[List.drop_left,List.take_left' (lowB_length n k),leB_lowB n k h]
theorem head_take (q:Int) (N:List Int) (h:N.length<=37):(sealS (headL q N)).take 252=fillS (headL q N):=by
 rw[sealS,List.take_left']
 exact fillS_length _ (by rw[headL_length];omega)
theorem head_seq (q:Int) (N:List Int) (h0:0<=q) (h1:q<4294967296):getV (fillS (headL q N)) 4 4=q:=by
 have e:fillS (headL q N)=jrnl ++ (lowB q 4 ++ (lowB (N.length:Int) 2 ++ (numL N ++ List.replicate (252-(headL q N).length) 0))):=by
  unfold fillS headL;simp
 rw[e,getV_midst _ _ q 4 h0 4 rfl]
 exact Int.emod_eq_of_lt h0 (by simpa using h1)
theorem head_count (q:Int) (N:List Int) (h:N.length<=37):getV (fillS (headL q N)) 8 2=(N.length:Int):=by
 have e:fillS (headL q N)=(jrnl ++ lowB q 4) ++ (lowB (N.length:Int) 2 ++ (numL N ++ List.replicate (252-(headL q N).length) 0)):=by
  unfold fillS headL;simp
 have hl:(jrnl ++ lowB q 4).length=8:=by rw[List.length_append,lowB_length];rfl
 rw[e,getV_midst _ _ _ 2 (by omega) 8 hl]
 exact Int.emod_eq_of_lt (by omega) (by omega)
theorem numL_split (N:List Int) (i:Nat) (hi:i<N.length):numL N=numL (N.take i) ++ (lowB (N.getD i 0) 2 ++ numL (N.drop (i+1))):=by
 have e:N=N.take i ++ (N[i] :: N.drop (i+1)):=by rw[<- List.drop_eq_getElem_cons hi,List.take_append_drop]
 have e2:N.getD i 0=N[i]:=by simp[List.getD_eq_getElem?_getD,hi]
 rw[e2]
 conv=>lhs;rw[e]
 unfold numL
 rw[List.flatMap_append,List.flatMap_cons]
theorem head_number (q:Int) (N:List Int) (i:Nat) (hi:i<N.length) (hn:0<=N.getD i 0/\N.getD i 0<=767):getV (fillS (headL q N)) (10+2*i) 2=N.getD i 0:=by
 have e:fillS (headL q N)=(jrnl ++ lowB q 4 ++ lowB (N.length:Int) 2 ++ numL (N.take i)) ++ (lowB (N.getD i 0) 2 ++ (numL (N.drop (i+1)) ++ List.replicate (252-(headL q N).length) 0)):=by
  have e1:headL q N=jrnl ++ lowB q 4 ++ lowB (N.length:Int) 2 ++ (numL (N.take i) ++ (lowB (N.getD i 0) 2 ++ numL (N.drop (i+1)))):=by
   rw[<- numL_split N i hi];rfl
  unfold fillS
  generalize List.replicate (252-(headL q N).length) (0:Int)=Z
  rw[e1]
  simp only[List.append_assoc]
 have hl:(jrnl ++ lowB q 4 ++ lowB (N.length:Int) 2 ++ numL (N.take i)).length=10+2*i:=by
  simp only[List.length_append,lowB_length,numL_length,List.length_take]
  have:jrnl.length=4:=rfl
  omega
 rw[e,getV_midst _ _ _ 2 hn.1 _ hl]
 exact Int.emod_eq_of_lt hn.1 (by omega)
def cB (b:List Int):List Value:=b.map (Value.int .u8)
theorem cB_length (b:List Int):(cB b).length=b.length:=by simp[cB]
theorem cB_one (b:List Int):∀ v∈cB b,v.oneCell'=true:=fun v hv=>by obtain ⟨x,_,rfl⟩:=List.mem_map.1 hv;rfl
def cU (x:Nat × List Int):List Value:=.int .i64 x.1 :: cB x.2
theorem cU_length (x:Nat × List Int):(cU x).length=x.2.length+1:=by simp[cU,cB_length]
theorem cU_one (x:Nat × List Int):∀ v∈cU x,v.oneCell'=true:=fun v hv=>by
 rcases List.mem_cons.1 hv with rfl|h
 · rfl
 · exact cB_one _ v h
def Blk (b:List Int):Prop:=b.length=256/\Byt b
theorem flatB_len {L:List (List Int)} (h:∀ b∈L,Blk b):∀ x∈L,(cB x).length=256:=fun x hx=>by rw[cB_length,(h x hx).1]
theorem flatU_len {L:List (Nat × List Int)} (h:∀ x∈L,Blk x.2):∀ x∈L,(cU x).length=257:=fun x hx=>by rw[cU_length,(h x hx).1]
def zB:List Value:=List.replicate 256 (.int .u8 0)
theorem zB_length:zB.length=256:=List.length_replicate
theorem infoB:(Tryz.prog.info? 151).map (fun i=>(i.zero,i.size,i.bytes))=some (some (.agg zB.toArray),256,256):=by kernel_rfl
theorem infoW:(Tryz.prog.info? 155).map (fun i=>(i.zero,i.size,i.bytes))=some (some (.agg (Value.int .i64 0 :: zB).toArray),257,264):=by kernel_rfl
theorem wpList_allocB (w:World) {ops:Array Oper}{rest:List Oper}{o:Oper}{a:Act}{Q:Exit->Act->World->Prop} (hg:o.guard=none) (hop:o.op=Op.alloc 151)
 (hK:wpList Tryz.prog ops Q rest (a.put o.dst (.pointer (some ⟨w.heap.size,0,none⟩))) (w.alloc (.cells zB.toArray 151))):wpList Tryz.prog ops Q (o :: rest) a w:=by
 refine wpList_plain hg fun K hK'=>?_
 have hz:=(zero_of_info (v:=.agg zB.toArray) (n:=256) (t:=151) (P:=Tryz.prog) (by
  obtain ⟨i,h2,h3,h4,h5⟩:=info_parts infoB
  simp[h2,h3,h4])).1 w
 unfold Oper.wp execOp
 simp only[hop,Instr.alloc,newVar,newRow,Sem.run_bind,hz,Result.andThen_ok,Value.cells]
 exact hK' _ _ hK
theorem sizeB:(Tryz.prog.info? 151).map (·.size)=some 256:=by kernel_rfl
theorem built_zero:Tryz.prog.built 151 []=some zB.toArray:=by kernel_rfl
theorem wpList_buildB (w:World) {ops:Array Oper}{rest:List Oper}{o:Oper}{a:Act}{Q:Exit->Act->World->Prop} (hg:o.guard=none) (hop:o.op=Op.build 151 #[])
 (hK:wpList Tryz.prog ops Q rest (a.put o.dst (.agg zB.toArray)) w):wpList Tryz.prog ops Q (o :: rest) a w:=by
 refine wpList_plain hg fun K hK'=>?_
 have hb:Tryz.prog.built 151 ((#[]:Array (Nat × Operand)).map fun (i,x)=>(i,a.eval x)).toList=some zB.toArray:=by simpa using built_zero
 exact wp_build 151 #[] hop (by rw[hb];rfl) (by rw[hb];exact hK' _ _ hK)
theorem wpList_storeB (w:World) {ops:Array Oper}{rest:List Oper}{o:Oper}{a:Act}{Q:Exit->Act->World->Prop} (hg:o.guard=none) (x y:Operand) (hop:o.op=Op.store 151 x y)
 (g:Nat) (t:TypeId) (old cells:List Value) (hx:a.eval x=.pointer (some ⟨g,0,none⟩)) (hy:a.eval y=.agg cells.toArray) (hh:w.heap[g]? =some (.cells old.toArray t (0,0))) (ho:old.length=256) (hc:cells.length=256) (h1:∀ v∈cells,v.oneCell'=true)
 (hK:wpList Tryz.prog ops Q rest (a.put o.dst undef) (w.setRow g cells.toArray)):wpList Tryz.prog ops Q (o :: rest) a w:=
 wpList_store_row hg 151 x y hop g cells.toArray hx hy t old.toArray hh (by rw[sizeB];simp[hc]) (by simp[ho,hc]) (all_oneCell_toArray h1) hK
theorem wpList_loadB (w:World) {ops:Array Oper}{rest:List Oper}{o:Oper}{a:Act}{Q:Exit->Act->World->Prop} (hg:o.guard=none) (x:Operand) (hop:o.op=Op.load 151 x)
 (g off:Nat) (cells:List Value) (hx:a.eval x=.pointer (some ⟨g,off,none⟩)) (hr:w.rangeAt g off cells) (hc:cells.length=256)
 (hK:wpList Tryz.prog ops Q rest (a.put o.dst (.agg cells.toArray)) w):wpList Tryz.prog ops Q (o :: rest) a w:=
 wpList_load_mid hg 151 x hop g off hx cells _ hr Tryz.underlying151 rfl (by rw[sizeB,hc]) hK
set_option maxRecDepth 100000 in
theorem dBlockOf_any {w:World}{v:Value}{l:List Int} (hv:BSl w v l) (hl:l.length=256):
 Calls Tryz.prog 86 #[v] w fun e w'=>e=.returned (.agg (cB l).toArray)/\Below w.heap.size w w':=by
 obtain ⟨ao,cap,rfl,hcap⟩:=hv.shape
 obtain ⟨M,hM⟩:∃ M,M=l.length:=⟨_,rfl⟩
 have hlen:Tryz.prog.arrayLen 151=256:=by kernel_rfl
 have harr:Tryz.prog.underlying 151=some (.array 256 5):=Tryz.underlying151
 have HZ:=Lib.hid zB_length
 have HL:=Lib.hid hl
 have hone:∀ v∈zB,v.oneCell'=true:=fun v hv=>by rw[List.eq_of_mem_replicate hv];rfl
 rw[<- hM] at hv |-
 have hsrc:=src_cells hv (fun _ _=>rfl) (w1:=w) l.length
 rw[List.take_length] at hsrc
 have HM:Hid (M=256):=by rw[hM];exact HL
 clear hl hcap hM
 go_enter Tryz.func86,Tryz.ntmps86
 go_wp2_with (first
  |with_reducible refine wpList_allocB _ rfl rfl ?_
  |with_reducible refine wpList_buildB _ rfl rfl ?_
  |(refine wpList_storeB _ rfl _ _ (by rfl) _ 151 zB zB (by rfl) (by rfl) (heap_alloc_last _ _) HZ.out HZ.out hone ?_
    rw[World.setRow_alloc_new])
  |(refine wpList_copy_wrote (by rfl) _ _ _ _ (by rfl) 5 Tryz.underlying30 (by kernel_rfl) _ _ _ _ _ _ (by rfl) (by rfl) (w.heap.size+1) 0 zB 151 ?_ (cB l) 256 (by rw[cB_length];exact HL.out) ?_ ?_ ?_ (cB_one l) ?_))
 · rw[show w.heap.size+1=(w.alloc (.cells zB.toArray 151)).heap.size by simp];exact heap_alloc_last _ _
 · rw[HM.out];rfl
 · intro hpos
   obtain ⟨ad,rfl,hc⟩:=hsrc hpos
   refine ⟨ad,rfl,fun j v hj=>?_⟩
   have hcj:=hc j v hj
   have hlt:=World.block_lt_of_cell? w _ hcj
   rw[World.cell?_alloc_lt _ _ _ (Nat.lt_of_lt_of_le hlt (by simp)),World.cell?_alloc_lt _ _ _ hlt,hcj]
 · rw[cB_length,HL.out,HZ.out];exact Nat.le_refl _
 intro w' hrow hwr
 rw[splice_whole _ _ (by rw[cB_length,HL.out,HZ.out])] at hrow
 have hrow0:w'.heap[w.heap.size]? =some (.cells zB.toArray 151 (0,0)):=by
  rw[hwr.2.2.2.2 _ (by omega),@heap_alloc_old _ _ _ (by simp)];exact heap_alloc_last _ _
 go_wp2_with (first
  |(refine wpList_loadB _ rfl _ (by rfl) _ 0 (cB l) (by rfl) (range_row hrow.out (by rw[List.drop_zero,List.take_length])) (by rw[cB_length];exact HL.out) ?_)
  |(refine wpList_storeB _ rfl _ _ (by rfl) _ 151 zB (cB l) (by rfl) (by rfl) hrow0 HZ.out (by rw[cB_length];exact HL.out) (cB_one l) ?_))
 have hrow2:=setRow_heap w' w.heap.size _ (cB l).toArray 151 _ hrow0
 refine bodyPost_ret (v:=.agg (cB l).toArray) ?_ rfl ⟨rfl,?_⟩
 · exact results_cell_row rfl _ _ w.heap.size 151 (cB l).toArray (0,0) _ (by rfl) hrow2 harr rfl (by rw[sizeB];simp[cB_length,HL.out])
 · have b1:Below w.heap.size w ((w.alloc (.cells zB.toArray 151)).alloc (.cells zB.toArray 151)):=((Below.refl _ _).alloc (Nat.le_refl _) _).alloc (by simp) _
   have b2:Below w.heap.size _ w':=hwr.below (by omega)
   exact (b1.trans b2).trans ((Wrote.setRow w' w.heap.size _).below (Nat.le_refl _))
end Go.Proofs.YtedabomlfcghoaaGreat
