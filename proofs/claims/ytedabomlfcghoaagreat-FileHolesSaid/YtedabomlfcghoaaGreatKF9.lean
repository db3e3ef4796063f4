/- What the law rests on: part 9. -/
import Derived.Test.YtedabomlfcghoaaGreatKF8
set_option linter.unusedVariables false
namespace Go.Proofs.YtedabomlfcghoaaGreat
set_option maxRecDepth 100000
open Go.RowKit
theorem ISc.chg {P P':Nat->Prop}{w w':World}{v:Value}{l:List Int} (h:ISc w v l) (ha:Apt P v) (hc:Chg P P' w w'):ISc w' v l/\Apt P' v:=
 ⟨⟨(h.1.chg ha hc).1,h.2⟩,(h.1.chg ha hc).2⟩
theorem Dk.types {w:World}{P:Nat->Prop}{p:Value}{s:DS} (h:Dk w P p s) (k:Nat) (hk:P k):∃ cur T,w.heap[k]? =some (.cells cur T (0,0))/\(T=131\/T=151\/T=155):=by
 obtain ⟨bp,bf,bv,u,_,hd,_,hP⟩:=h
 rcases (hP k).1 hk with rfl|rfl|rfl|hu
 · exact ⟨_,_,hd.hp,.inl rfl⟩
 · exact ⟨_,_,hd.hf,.inr (.inl rfl)⟩
 · exact ⟨_,_,hd.hv,.inr (.inl rfl)⟩
 · rcases hd.hu.2 with ⟨h0,_⟩| ⟨g,cap,cur,hv,_,hh,_⟩
   · rw[h0] at hu;simp[Value.ownBlock] at hu
   · rw[hv] at hu
     obtain rfl:g=k:=by simpa [Value.ownBlock] using hu
     exact ⟨_,_,hh,.inr (.inr rfl)⟩
theorem Dk.not {w:World}{P:Nat->Prop}{p:Value}{s:DS} (h:Dk w P p s) {k:Nat}{cur:Array Value}{T:TypeId} (hk:w.heap[k]? =some (.cells cur T (0,0))) (h1:T≠131) (h2:T≠151) (h3:T≠155):¬ P k:=fun hp=>by
 obtain ⟨cur',T',he,ht⟩:=h.types k hp
 rw[hk] at he
 injection he with he
 injection he with _ e
 subst e
 rcases ht with ht|ht|ht
 · exact h1 ht
 · exact h2 ht
 · exact h3 ht
theorem BElt.apt {w:World}{P:Nat->Prop}{p:Value}{s:DS} (h:Dk w P p s) {v:Value}{l:List Int} (ho:BElt w 0 v l):Apt P v:=by
 intro ad n cap e hn
 rcases ho.1.2 with ⟨hv,_⟩| ⟨a,c,hv,_,hc⟩
 · rw[hv] at e;cases e
 · have e':=e
   rw[hv] at e'
   have hl:0<l.length:=by rw[(Value.slice.inj e').2.1];exact hn
   obtain ⟨b,off,c',hv',_,hor⟩:=ho.2 hl
   rw[hv'] at e
   obtain rfl:=Option.some.inj (Value.slice.inj e).1
   rcases hor with h0| ⟨cur,hh⟩
   · omega
   · exact h.not hh (by decide) (by decide) (by decide)
theorem IR.apt {w:World}{P:Nat->Prop}{p:Value}{s:DS} (h:Dk w P p s) {B:Nat}{v:Value}{l:List Int} (ho:IR w B v l):Apt P v:=by
 intro ad n cap e hn
 rcases ho.2 with ⟨hv,_⟩| ⟨g,c,cur,hv,_,hh,_⟩
 · rw[hv] at e;cases e
 · rw[hv] at e
   obtain rfl:=Option.some.inj (Value.slice.inj e).1
   exact h.not hh (by decide) (by decide) (by decide)
theorem BBR.apart {w:World}{P:Nat->Prop}{p:Value}{s:DS} (h:Dk w P p s) {v:Value}{L:List (List Int)} (ho:BBR w 0 v L):BBa w P v L:=by
 obtain ⟨vs,hl,hr,ow⟩:=ho
 rcases ow.2 with ⟨hv,hl0⟩| ⟨g,cap,cur,hv,hg,hh,hnc,hcm,hcs,ht⟩
 · exact .inl ⟨hv,List.eq_nil_of_length_eq_zero hl0⟩
 · refine .inr ⟨_,cap,hv,hnc,fun j hj=>⟨⟨(Array.getElem?_eq_some_iff.1 hh).1,h.not hh (by decide) (by decide) (by decide)⟩,rfl,vs.getD j undef,?_,(hr j hj).1,(hr j hj).apt h⟩⟩
   show w.cell? ⟨g,0+j,none⟩=_
   rw[Nat.zero_add,cell_of_row _ _ _ _ _ _ hh]
   have:(cur.toList.take (L.length*1))[j]? =vs[j]? :=by rw[ht]
   rw[List.getElem?_take,if_pos (by omega)] at this
   simpa [List.getD_eq_getElem?_getD,show j<vs.length by omega] using this
def TxVa (w:World) (P:Nat->Prop) (v:Value) (q:Int) (N:List Int) (D:List (List Int)):Prop:=
 ∃ no nc ao dc,v=.agg #[.int .u32 q,.slice no N.length nc,.slice ao D.length dc]/\(ISc w (.slice no N.length nc) N/\Apt P (.slice no N.length nc))/\BBa w P (.slice ao D.length dc) D
theorem TxVa.v {w:World}{P:Nat->Prop}{v:Value}{q:Int}{N:List Int}{D:List (List Int)} (h:TxVa w P v q N D):TxV w v q N D:=by
 obtain ⟨no,nc,ao,dc,h1,h2,h3⟩:=h
 exact ⟨no,nc,ao,dc,h1,h2.1,h3.sl⟩
theorem TxVa.chg {P P':Nat->Prop}{w w':World}{v:Value}{q:Int}{N:List Int}{D:List (List Int)} (h:TxVa w P v q N D) (hc:Chg P P' w w'):TxVa w' P' v q N D:=by
 obtain ⟨no,nc,ao,dc,h1,h2,h3⟩:=h
 exact ⟨no,nc,ao,dc,h1,h2.1.chg h2.2 hc,h3.chg hc⟩
theorem TxVa.own {w:World}{P:Nat->Prop}{p:Value}{s:DS} (h:Dk w P p s) {q:Int}{vN vD:Value}{N:List Int}{D:List (List Int)} (hN:IR w 0 vN N) (hD:BBR w 0 vD D):TxVa w P (.agg #[.int .u32 q,vN,vD]) q N D:=by
 have hN':=hN.isc
 have hD':=hD.apart h
 have ha:=hN.apt h
 obtain ⟨_,no,nc,rfl,_⟩:=hN'
 obtain ⟨ao,dc,rfl,_⟩:=hD'.sl.shape
 exact ⟨no,nc,ao,dc,rfl,⟨hN.isc,ha⟩,hD'⟩
def hasN (n:Nat) (N:List Int):Bool:=(List.range N.length).all fun k=>decide (N.getD k 0<(n:Int))
theorem hasN_iff (n:Nat) (N:List Int):hasN n N=true ↔ ∀ k,k<N.length->N.getD k 0<(n:Int):=by
 unfold hasN
 rw[List.all_eq_true]
 exact ⟨fun h k hk=>of_decide_eq_true (h k (List.mem_range.2 hk)),fun h k hk=>decide_eq_true (h k (List.mem_range.1 hk))⟩
theorem hasN_no {n:Nat}{N:List Int} (k:Nat) (hk:k<N.length) (h:¬ N.getD k 0<(n:Int)):hasN n N=false:=by
 cases e:hasN n N
 · rfl
 · exact absurd ((hasN_iff n N).1 e k hk) h
section
variable {w:World}{P:Nat->Prop}{p:Value}{s:DS}
theorem gUsable_is (h:Dk w P p s) (B:Bool) (hB:decide (64<=s.F.length)=B):Calls Tryz.prog 172 #[p] w fun e w'=>e=.returned (.bool B)/\w=w':=by
 have KB:=Lib.hid (kBlocks h)
 obtain ⟨bp,rfl⟩:=h.ptr
 generalize s.F.length=n at KB hB
 have hB2:decide ((64:Int)<=(n:Int))=B:=by rw[<- hB];exact decide_eq_decide.2 (by omega)
 have HB:=Lib.hid (congrArg (fun b=>Ending.returned (Value.bool b)) hB2)
 clear h hB hB2
 go_enter Tryz.func172,Tryz.ntmps172
 go_wp2_with (go_at_call 149;(with_reducible refine KB.out.mono ?_);rintro e w2 ⟨rfl,rfl⟩)
 go_ret
 exact ⟨HB.out,rfl⟩
theorem gHas_is (h:Dk w P p s) {v:Value}{N:List Int} (hs:ISl w v N) (hN:N.length<=1000000) (B:Bool) (hB:hasN s.F.length N=B):Calls Tryz.prog 174 #[p,v] w fun e w'=>e=.returned (.bool B)/\w=w':=by
 have KB:=Lib.hid (kBlocks h)
 obtain ⟨bp,rfl⟩:=h.ptr
 obtain ⟨ao,cap,rfl,hc⟩:=hs.open'
 have hno:=fun k hk h=>hasN_no (n:=s.F.length) (N:=N) k hk h
 have hyes:=(hasN_iff s.F.length N).2
 rw[hB] at hno hyes
 generalize s.F.length=z at KB hno hyes
 obtain ⟨n,hn⟩:∃ n,n=N.length:=⟨_,rfl⟩
 rw[<- hn] at hc hno hyes hN |-
 have HC:=Lib.hid hc
 have HNO:=Lib.hid hno
 have HYE:=Lib.hid hyes
 clear h hs hc hno hyes hB hn
 go_enter Tryz.func174,Tryz.ntmps174
 go_wp2
 go_loop [9] (fun i=>∃ k:Nat,k<=n/\i=.int .i64 k/\Hid (∀ j,j<k->N.getD j 0<(z:Int))) (fun i=>n-(intOf i).toNat)
 case atStart=>exact ⟨0,by omega,rfl,fun j hj=>absurd hj (Nat.not_lt_zero _)⟩
 case round=>
  obtain ⟨k,hk,rfl,HK⟩:=hrel
  by_cases hlt:k<n
  · obtain ⟨b,off,rfl,_,hcc⟩:=HC.out (by omega)
    have hck:=hcc k hlt
    have hn1:=HNO.out k hlt
    obtain ⟨x,hx⟩:∃ x,x=N.getD k 0:=⟨_,rfl⟩
    rw[<- hx] at hck hn1
    have HX:=Lib.hid hx
    have HN1:=Lib.hid hn1
    have ek:(k:Int)<(n:Int):=by omega
    clear hx hcc hn1
    by_cases hf:x<(z:Int)
    · have h1:¬ (z:Int)<=x:=by omega
      go_wp2_with (go_at_call 149;(with_reducible refine KB.out.mono ?_);rintro e w2 ⟨rfl,rfl⟩)
      go_round
      case rel=>
       refine ⟨k+1,by omega,by go_num,fun j hj=>?_⟩
       by_cases e:j=k
       · subst e;rw[<- HX.out];exact hf
       · exact HK.out j (by omega)
      case measure=>simp[intOf];omega
    · have h1:(z:Int)<=x:=by omega
      have hR:=HN1.out (by first|exact hf|exact h1)
      subst hR
      go_wp2_with (go_at_call 149;(with_reducible refine KB.out.mono ?_);rintro e w2 ⟨rfl,rfl⟩)
      go_ret
      exact ⟨rfl,rfl⟩
  · obtain rfl:k=n:=by omega
    have hR:=HYE.out HK.out
    subst hR
    go_wp2
    go_ret
    exact ⟨rfl,rfl⟩
def takesT (n:Nat) (N:List Int) (D:List (List Int)):Bool:=decide (64<=n) && (frmT N D && hasN n N)
theorem gTakes_is (h:Dk w P p s) {v:Value}{q:Int}{N:List Int}{D:List (List Int)} (hv:TxV w v q N D) (B:Bool) (hB:takesT s.F.length N D=B):
 Calls Tryz.prog 161 #[p,v] w fun e w'=>e=.returned (.bool B)/\Below w.heap.size w w':=by
 have hv':=hv
 obtain ⟨no,nc,ao,dc,rfl,hN,hD⟩:=hv
 have KU:=Lib.hid (fun W (hb:Below w.heap.size w W) B hB=>gUsable_is (h.below hb) B hB)
 have KF:=Lib.hid (fun W (hb:Below w.heap.size w W) B hB=>tForm_is (hv'.below hb) B hB)
 have KH:=Lib.hid (fun (hY:frmT N D=true) W (hb:Below w.heap.size w W) B hB=>gHas_is (h.below hb) (hN.below hb).1 (by have:=(frmT_of hY).1;omega) B hB)
 obtain ⟨bp,rfl⟩:=h.ptr
 unfold takesT at hB
 generalize s.F.length=z at KU KH hB
 obtain ⟨n,hn⟩:∃ n,n=N.length:=⟨_,rfl⟩
 obtain ⟨m,hm⟩:∃ m,m=D.length:=⟨_,rfl⟩
 rw[<- hn,<- hm] at KF
 rw[<- hn] at KH
 rw[<- hn,<- hm]
 have hbx:=below_box w (.cells #[.int .u32 q,.slice no n nc,.slice ao m dc] 183)
 have hnx:=heap_alloc_new w (.cells #[.int .u32 q,.slice no n nc,.slice ao m dc] 183)
 clear hN hD hn hm hv' h
 go_enter Tryz.func161,Tryz.ntmps161
 go_upto_region 1 with (fail)
 generalize w.alloc (.cells #[.int .u32 q,.slice no n nc,.slice ao m dc] 183)=u at hbx hnx |-
 have KU1:=Lib.hid (KU.out _ hbx)
 have KF1:=Lib.hid (KF.out _ hbx)
 have d0:u.cell? ⟨w.heap.size,0,none⟩=some (.int .u32 q):=by rw[cell_of_row _ _ _ _ _ _ hnx];rfl
 have d1:u.cell? ⟨w.heap.size,1,none⟩=some (.slice no n nc):=by rw[cell_of_row _ _ _ _ _ _ hnx];rfl
 have d2:u.cell? ⟨w.heap.size,2,none⟩=some (.slice ao m dc):=by rw[cell_of_row _ _ _ _ _ _ hnx];rfl
 have hzu:w.heap.size<u.heap.size:=(Array.getElem?_eq_some_iff.1 hnx).1
 have C1:=Lib.hid (fun W (h:Below u.heap.size u W)=>(h.cell (p:=⟨w.heap.size,1,none⟩) hzu).trans d1)
 have HBT:=Lib.hid (fun W (h:Below u.heap.size u W)=>hbx.trans (h.mono hbx.size))
 clear hnx KU KF hzu hbx
 generalize decide (64<=z)=X at hB KU1
 obtain ⟨Y,hFX⟩:∃ Y,frmT N D=Y:=⟨_,rfl⟩
 obtain ⟨Z,hHX⟩:∃ Z,hasN z N=Z:=⟨_,rfl⟩
 rw[hFX,hHX] at hB
 rw[hFX] at KF1
 have KH2:=Lib.hid (fun hY W hb=>KH.out hY W hb Z hHX)
 have KU2:=Lib.hid (KU1.out X rfl)
 have KF2:=Lib.hid (KF1.out Y rfl)
 have HFX:=Lib.hid hFX
 clear KU1 KF1 KH hFX hHX
 cases X
 · rw[Bool.false_and] at hB
   subst hB
   go_wp2_with (go_at_call 172;(with_reducible refine KU2.out.mono ?_);rintro e w2 ⟨rfl,rfl⟩)
   go_ret
   exact ⟨rfl,HBT.out _ (Below.refl _ _)⟩
 · cases Y
   · rw[Bool.false_and,Bool.true_and] at hB
     subst hB
     go_wp2_with (first
      |(go_at_call 172;(with_reducible refine KU2.out.mono ?_);rintro e w2 ⟨rfl,rfl⟩)
      |(go_at_call 197;(with_reducible refine KF2.out.mono ?_);rintro e w3 ⟨rfl,hb3⟩))
     go_ret
     exact ⟨rfl,HBT.out _ hb3⟩
   · rw[Bool.true_and,Bool.true_and] at hB
     subst hB
     go_wp2_with (first
      |(go_at_call 172;(with_reducible refine KU2.out.mono ?_);rintro e w2 ⟨rfl,rfl⟩)
      |(go_at_call 197;(with_reducible refine KF2.out.mono ?_);rintro e w3 ⟨rfl,hb3⟩
        have e1:=C1.out _ hb3
        have HB3:=Lib.hid (HBT.out _ hb3)
        clear hb3)
      |(go_at_call 174;(with_reducible refine (KH2.out HFX.out _ HB3.out).mono ?_);rintro e w4 ⟨rfl,rfl⟩))
     go_ret
     exact ⟨rfl,HB3.out⟩
end
theorem Chg.of_wrote1 {w w':World}{g:Nat} (h:Wrote w w' g):Chg (fun b=>b=g) (fun b=>b=g) w w':=
 ⟨h.1,h.2.1,h.2.2.1,Nat.le_of_eq h.2.2.2.1.symm,fun k _ hn=>⟨h.2.2.2.2 k hn,hn⟩⟩
def RowA (w:World) (g:Nat) (P:Nat->Prop) (n:Nat) (D:List (List Int)) (k:Nat):Prop:=
 ∃ vs:List Value,vs.length=n/\w.heap[g]? =some (.cells vs.toArray 30 (0,0))/\∀ j,j<k->BSl w (vs.getD j undef) (D.getD j [])/\Apt P (vs.getD j undef)/\Apt (fun b=>b=g) (vs.getD j undef)
theorem RowA.make (w:World) (P:Nat->Prop) (n:Nat) (D:List (List Int)):RowA (w.alloc (.cells (Array.replicate n (Value.slice none 0 0)) 30)) w.heap.size P n D 0:=
 ⟨List.replicate n (Value.slice none 0 0),List.length_replicate,by rw[heap_alloc_new];simp,fun j hj=>absurd hj (Nat.not_lt_zero _)⟩
theorem RowA.row {w:World}{g n:Nat}{P:Nat->Prop}{D:List (List Int)}{k:Nat} (h:RowA w g P n D k):∃ vs:List Value,vs.length=n/\w.heap[g]? =some (.cells vs.toArray 30 (0,0)):=by
 obtain ⟨vs,h1,h2,_⟩:=h
 exact ⟨vs,h1,h2⟩
theorem RowA.below {w w':World}{g n:Nat}{P:Nat->Prop}{D:List (List Int)}{k:Nat} (h:RowA w g P n D k) (hb:Below w.heap.size w w'):RowA w' g P n D k:=by
 obtain ⟨vs,h1,h2,h3⟩:=h
 have hg:g<w.heap.size:=(Array.getElem?_eq_some_iff.1 h2).1
 exact ⟨vs,h1,(hb.block g hg).trans h2,fun j hj=>⟨(h3 j hj).1.below hb,(h3 j hj).2⟩⟩
theorem RowA.set {w:World}{g n:Nat}{P:Nat->Prop}{D:List (List Int)}{k:Nat} (h:RowA w g P n D k) (hk:k<n) {y:Value} (hy:BSl w y (D.getD k [])) (h1:Apt P y) (h2:Apt (fun b=>b=g) y):RowA (w.setCell ⟨g,k,none⟩ y) g P n D (k+1):=by
 obtain ⟨vs,e1,e2,e3⟩:=h
 have hc:=Chg.of_wrote1 (Wrote.setCell w g k y)
 refine ⟨vs.set k y,by rw[List.length_set];exact e1,bb_set e2 k y,fun j hj=>?_⟩
 by_cases e:j=k
 · subst e
   have e4:(vs.set j y).getD j undef=y:=by simp[List.getD_eq_getElem?_getD,e1,hk]
   rw[e4]
   exact ⟨(hy.chg h2 hc).1,h1,h2⟩
 · have e4:(vs.set k y).getD j undef=vs.getD j undef:=by
    rw[List.getD_eq_getElem?_getD,List.getElem?_set_ne (by omega),<- List.getD_eq_getElem?_getD]
   rw[e4]
   obtain ⟨m1,m2,m3⟩:=e3 j (by omega)
   exact ⟨(m1.chg m3 hc).1,m2,m3⟩
theorem RowA.done {w:World}{g n:Nat}{P:Nat->Prop}{D:List (List Int)} (h:RowA w g P n D n) (hD:D.length=n) (hP:¬ P g):BBa w P (.slice (some ⟨g,0,none⟩) n n) D:=by
 obtain ⟨vs,h1,h2,h3⟩:=h
 subst hD
 refine .inr ⟨_,D.length,rfl,Nat.le_refl _,fun j hj=>⟨⟨(Array.getElem?_eq_some_iff.1 h2).1,hP⟩,rfl,vs.getD j undef,?_,(h3 j hj).1,(h3 j hj).2.1⟩⟩
 show w.cell? ⟨g,0+j,none⟩=_
 rw[Nat.zero_add,cell_of_row _ _ _ _ _ _ h2]
 simp[List.getD_eq_getElem?_getD,show j<vs.length by omega]
section
variable {w:World}{P:Nat->Prop}{p:Value}{s:DS}
theorem gJour_of (h:Dk w P p s) (h64:64<=s.F.length) (hd:s.dn=false):
 Calls Tryz.prog 135 #[p] w fun e w'=>∃ ao cap,e=.returned (.tuple #[.slice ao 40 cap,.int .i64 0])/\BBa w' P (.slice ao 40 cap) (jour s.vis)/\Below w.heap.size w w':=by
 have hlt:=fun k hk=>h.lt k hk
 have KU:=Lib.hid (gUsable_is h true (decide_eq_true h64))
 have hjl:(jour s.vis).length=40:=jour_length (by rw[DS.vis_length];omega)
 have KR:=Lib.hid (fun W (hb:Below w.heap.size w W) (k:Nat) (hk:k<40)=>(kRead (h.below hb) (3+k) (by omega) hd))
 have HJ:=Lib.hid (fun (k:Nat) (hk:k<40)=>jour_get s.vis k hk)
 have HDN:=Lib.hid (fun W (hr:RowA W w.heap.size P 40 (jour s.vis) 40)=>hr.done hjl (fun hp=>Nat.lt_irrefl _ (hlt _ hp)))
 obtain ⟨bp,rfl⟩:=h.ptr
 obtain ⟨D,hD⟩:∃ D,D=jour s.vis:=⟨_,rfl⟩
 rw[<- hD] at HJ HDN |-
 have HLT:=Lib.hid hlt
 have hbx:=below_box w (.cells (Array.replicate 40 (Value.slice none 0 0)) 30)
 have hr0:=RowA.make w P 40 D
 clear h h64 hd hjl hD hlt
 go_enter Tryz.func135,Tryz.ntmps135
 go_wp2_with (first
  |(go_at_call 172;(with_reducible refine KU.out.mono ?_);rintro e w2 ⟨rfl,rfl⟩)
  |(at_make;refine wpList_make_bb w rfl _ _ rfl (40:Int) 40 rfl rfl rfl (by omega) ?_))
 generalize w.alloc (.cells (Array.replicate 40 (Value.slice none 0 0)) 30)=w1 at hbx hr0 |-
 have HR0:=Lib.hid hr0
 have HBX:=Lib.hid hbx
 obtain ⟨g,hg⟩:∃ g,g=w.heap.size:=⟨_,rfl⟩
 rw[<- hg] at HR0 HDN |-
 have HG:=Lib.hid hg
 clear hr0 hbx hg
 go_loopw [14] (fun i wr=>∃ k:Nat,k<=40/\i=.int .i64 k/\Hid (RowA wr g P 40 D k)/\Hid (Below w.heap.size w wr)) (fun i _=>40-(intOf i).toNat)
 case atStart=>exact ⟨0,by omega,rfl,HR0,HBX⟩
 case round=>
  obtain ⟨k,hk,rfl,HR,HB⟩:=hrel
  clear HR0 HBX
  by_cases hlt:k<40
  · have KC:=Lib.hid (KR.out _ HB.out k hlt)
    have ek:(k:Int)<40:=by omega
    have e3:((3+k:Nat):Int)=3+(k:Int):=by push_cast;rfl
    rw[e3] at KC
    clear e3
    go_wp2_with (go_at_call 107;(with_reducible refine KC.out.mono ?_);rintro e w2 ⟨y,rfl,hoy,hb2,hy⟩
                 have hsz:=HB.out.size
                 have hr2:=HR.out.below hb2
                 have HA1:Hid (Apt P y):=Lib.hid (by rw[hy];exact Apt.new (fun hp=>by have:=HLT.out _ hp;omega))
                 have HA2:Hid (Apt (fun b=>b=g) y):=Lib.hid (by
                  rw[hy]
                  refine Apt.new (fun hp=>?_)
                  obtain ⟨vs,_,hvr⟩:=HR.out.row
                  have:=(Array.getElem?_eq_some_iff.1 hvr).1
                  omega)
                 rw[<- HJ.out k hlt] at hoy
                 obtain ⟨yo,yc,hys,_⟩:=hoy.shape
                 have HY:=Lib.hid hoy
                 subst hys
                 generalize (D.getD k []).length=yl at HY HA1 HA2 |-
                 clear hy hoy
                 have HR2:=Lib.hid hr2
                 obtain ⟨vs2,hvl2,hvr2⟩:=hr2.row
                 have hf2:=bb_free hvr2 k
                 have hc2:∃ z,w2.cell? ⟨g,k,none⟩=some z:=⟨vs2[k]'(by omega),by rw[cell_of_row _ _ _ _ _ _ hvr2];simp[hvl2,hlt]⟩
                 obtain ⟨z,hz⟩:=hc2
                 have HB2:=Lib.hid (HB.out.trans (hb2.mono HB.out.size))
                 clear hr2 hvl2 hvr2 hb2 hsz)
    go_roundw
    case rel=>exact ⟨k+1,by omega,by go_num,HR2.out.set hlt HY.out HA1.out HA2.out,(HB2.out.trans ((Wrote.setCell w2 g k _).below (by rw[HG.out];exact Nat.le_refl _)))⟩
    case measure=>simp[intOf];omega
  · obtain rfl:k=40:=by omega
    go_wp2
    go_ret2
    exact ⟨_,_,rfl,HDN.out _ HR.out,HB.out⟩
end
theorem isTxn_one {L:List (List Int)}{q q':Int}{N N':List Int}{D D':List (List Int)} (h:isTxn L q N D) (h':isTxn L q' N' D'):q=q'/\N=N'/\D=D':=by
 obtain ⟨rfl,rfl⟩:=isHead_one h.1.2 h'.1.2
 exact ⟨rfl,rfl,h.2.2.2.1.symm.trans h'.2.2.2.1⟩
theorem isTxn_frm {L:List (List Int)}{q:Int}{N:List Int}{D:List (List Int)} (h:isTxn L q N D):frmT N D=true/\0<=q/\q<4294967296:=by
 obtain ⟨⟨h0,hN,⟨q0,q1⟩,_⟩,hl,_,hD,hw⟩:=h
 refine ⟨?_,q0,q1⟩
 rw[frmT_parts,hN,hw,decide_eq_true]
 · rfl
 · rw[<- hD,List.length_take,List.length_drop];omega
def holdsT (n:Nat) (L:List (List Int)) (q:Int) (N:List Int) (D:List (List Int)):Prop:=isTxn L q N D/\hasN n N=true
section
variable {w:World}{P:Nat->Prop}{p:Value}{s:DS}
theorem gStored_yes (h:Dk w P p s) {v:Value}{L:List (List Int)} (hs:BBSl w v L) (hL:L.length<=1000000) {q:Int}{N:List Int}{D:List (List Int)} (ht:holdsT s.F.length L q N D):
 Calls Tryz.prog 136 #[p,v] w fun e w'=>∃ vN vD,e=.returned (.tuple #[.agg #[.int .u32 q,vN,vD],.bool true])/\IR w' 0 vN N/\BBR w' 0 vD D/\Below w.heap.size w w':=by
 obtain ⟨ht,hh⟩:=ht
 have h37:N.length<=37:=(frmT_of (isTxn_frm ht).1).1
 have hbx:=below_box w (.cells #[.int .u32 0,.slice none 0 0,.slice none 0 0] 183)
 have hnx:=heap_alloc_new w (.cells #[.int .u32 0,.slice none 0 0,.slice none 0 0] 183)
 have KU:=Lib.hid (fun W (hb:Below w.heap.size w W)=>show Calls Tryz.prog 173 #[v] W fun e w'=>∃ vN vD,e=.returned (.tuple #[.agg #[.int .u32 q,vN,vD],.bool true])/\IR w' 0 vN N/\BBR w' 0 vD D/\Below W.heap.size W w' from
  (tUnpack_any (hs.below hb) hL).mono fun e w' ⟨hb,hc⟩=>by
    rcases hc with ⟨q',N',D',vN,vD,ht',he,h1,h2⟩| ⟨hno,_⟩
    · obtain ⟨rfl,rfl,rfl⟩:=isTxn_one ht ht'
      exact ⟨vN,vD,he,h1,h2,hb⟩
    · exact absurd ht (hno _ _ _))
 have KH:=Lib.hid (fun W (hb:Below w.heap.size w W) vN (hN:IR W 0 vN N)=>gHas_is (h.below hb) hN.sl (by omega) true hh)
 obtain ⟨bp,rfl⟩:=h.ptr
 obtain ⟨vo,vc,rfl,_⟩:=hs.shape
 generalize L.length=y at KU |-
 clear h hs hL ht hh h37
 go_enter Tryz.func136,Tryz.ntmps136
 go_upto_region 1 with (fail)
 have hzu:w.heap.size<(w.alloc (.cells #[.int .u32 0,.slice none 0 0,.slice none 0 0] 183)).heap.size:=by simp
 generalize w.alloc (.cells #[.int .u32 0,.slice none 0 0,.slice none 0 0] 183)=w1 at hbx hnx hzu |-
 go_wp2_with (first
  |(go_at_call 173;(with_reducible refine (KU.out _ hbx).mono ?_);rintro e w2 ⟨vN,vD,rfl,hN2,hD2,hb2⟩
    obtain ⟨_,no,nc,rfl,_⟩:=hN2.isc
    obtain ⟨ao,dc,rfl,_⟩:=hD2.sl.shape
    have hns:=heap_alloc_new w2 (.cells #[.int .u32 0,.slice none 0 0,.slice none 0 0] 183)
    have hbs:=below_box w2 (.cells #[.int .u32 0,.slice none 0 0,.slice none 0 0] 183)
    have HN3:=Lib.hid (hN2.below hbs)
    have HD3:=Lib.hid (hD2.below hbs)
    have HB2:=Lib.hid hb2
    generalize hnn:N.length=n at HN3 |-
    generalize hmm:D.length=m at HD3 |-
    clear hN2 hD2 hnn hmm)
  |(with_reducible refine wpList_store_t3 rfl 183 sizeT (.tmp 6) (.tmp 11) rfl w2.heap.size rfl _ _ _ _ _ _ rfl rfl rfl rfl _ hns ?_;intro w4 hw4 hr4
    have hb4:=hbs.trans (hw4.below (Nat.le_refl _))
    have hb14:=HB2.out.trans (hb4.mono HB2.out.size)
    have hr0:=hold9 hnx hb14
    have HB4:=Lib.hid (hbx.trans (hb14.mono hbx.size))
    have x0:w4.cell? ⟨w2.heap.size,0,none⟩=some (.int .u32 q):=by rw[cell_of_row _ _ _ _ _ _ hr4];rfl
    have x1:w4.cell? ⟨w2.heap.size,1,none⟩=some (.slice no n nc):=by rw[cell_of_row _ _ _ _ _ _ hr4];rfl
    have x2:w4.cell? ⟨w2.heap.size,2,none⟩=some (.slice ao m dc):=by rw[cell_of_row _ _ _ _ _ _ hr4];rfl
    have HN4:=Lib.hid (HN3.out.wrote hw4 hns (by decide))
    have HD4:=Lib.hid (HD3.out.wrote hw4 (Nat.zero_le _) hns (by decide) (by decide))
    clear hns hbs hw4 hb4 hb14 HN3 HD3 hr4)
  |(go_at_call 174;(with_reducible refine (KH.out _ HB4.out _ HN4.out).mono ?_);rintro e w5 ⟨rfl,rfl⟩)
  |(with_reducible refine wpList_store_t3 rfl 183 sizeT (.tmp 4) (.tmp 23) rfl w.heap.size rfl _ _ _ _ _ _ rfl rfl rfl rfl _ hr0 ?_;intro w9 hw9 hr9))
 refine bodyPost_ret (ret_cell_t3 rfl Tryz.underlying183 sizeT _ _ w.heap.size _ _ _ _ _ rfl hr9 rfl) rfl ⟨_,_,rfl,?_,?_,HB4.out.trans (hw9.below (Nat.le_refl _))⟩
 · exact HN4.out.wrote hw9 hr0 (by decide)
 · exact HD4.out.wrote hw9 (Nat.zero_le _) hr0 (by decide) (by decide)
theorem gStored_no (h:Dk w P p s) {v:Value}{L:List (List Int)} (hs:BBSl w v L) (hL:L.length<=1000000) (hno:∀ q N D,¬ holdsT s.F.length L q N D):
 Calls Tryz.prog 136 #[p,v] w fun e w'=>e=.returned (.tuple #[.agg #[.int .u32 0,.slice none 0 0,.slice none 0 0],.bool false])/\Below w.heap.size w w':=by
 by_cases hex:∃ q N D,isTxn L q N D
 · obtain ⟨q,N,D,ht⟩:=hex
   have hh:hasN s.F.length N=false:=by
    cases e:hasN s.F.length N
    · rfl
    · exact absurd ⟨ht,e⟩ (hno q N D)
   have h37:N.length<=37:=(frmT_of (isTxn_frm ht).1).1
   have hbx:=below_box w (.cells #[.int .u32 0,.slice none 0 0,.slice none 0 0] 183)
   have hnx:=heap_alloc_new w (.cells #[.int .u32 0,.slice none 0 0,.slice none 0 0] 183)
   have KU:=Lib.hid (fun W (hb:Below w.heap.size w W)=>show Calls Tryz.prog 173 #[v] W fun e w'=>∃ vN vD,e=.returned (.tuple #[.agg #[.int .u32 q,vN,vD],.bool true])/\IR w' 0 vN N/\BBR w' 0 vD D/\Below W.heap.size W w' from
    (tUnpack_any (hs.below hb) hL).mono fun e w' ⟨hb,hc⟩=>by
      rcases hc with ⟨q',N',D',vN,vD,ht',he,h1,h2⟩| ⟨hno,_⟩
      · obtain ⟨rfl,rfl,rfl⟩:=isTxn_one ht ht'
        exact ⟨vN,vD,he,h1,h2,hb⟩
      · exact absurd ht (hno _ _ _))
   have KH:=Lib.hid (fun W (hb:Below w.heap.size w W) vN (hN:IR W 0 vN N)=>gHas_is (h.below hb) hN.sl (by omega) false hh)
   obtain ⟨bp,rfl⟩:=h.ptr
   obtain ⟨vo,vc,rfl,_⟩:=hs.shape
   generalize L.length=y at KU |-
   clear h hs hL ht hh h37 hno
   go_enter Tryz.func136,Tryz.ntmps136
   go_upto_region 1 with (fail)
   have hzu:w.heap.size<(w.alloc (.cells #[.int .u32 0,.slice none 0 0,.slice none 0 0] 183)).heap.size:=by simp
   generalize w.alloc (.cells #[.int .u32 0,.slice none 0 0,.slice none 0 0] 183)=w1 at hbx hnx hzu |-
   go_wp2_with (first
    |(go_at_call 173;(with_reducible refine (KU.out _ hbx).mono ?_);rintro e w2 ⟨vN,vD,rfl,hN2,hD2,hb2⟩
      obtain ⟨_,no,nc,rfl,_⟩:=hN2.isc
      obtain ⟨ao,dc,rfl,_⟩:=hD2.sl.shape
      have hns:=heap_alloc_new w2 (.cells #[.int .u32 0,.slice none 0 0,.slice none 0 0] 183)
      have hbs:=below_box w2 (.cells #[.int .u32 0,.slice none 0 0,.slice none 0 0] 183)
      have HN3:=Lib.hid (hN2.below hbs)
      have HB2:=Lib.hid hb2
      generalize hnn:N.length=n at HN3 |-
      generalize hmm:D.length=m at |-
      clear hN2 hD2 hnn hmm)
    |(with_reducible refine wpList_store_t3 rfl 183 sizeT (.tmp 6) (.tmp 11) rfl w2.heap.size rfl _ _ _ _ _ _ rfl rfl rfl rfl _ hns ?_;intro w4 hw4 hr4
      have hb4:=hbs.trans (hw4.below (Nat.le_refl _))
      have hb14:=HB2.out.trans (hb4.mono HB2.out.size)
      have hr0:=hold9 hnx hb14
      have HB4:=Lib.hid (hbx.trans (hb14.mono hbx.size))
      have x1:w4.cell? ⟨w2.heap.size,1,none⟩=some (.slice no n nc):=by rw[cell_of_row _ _ _ _ _ _ hr4];rfl
      have HN4:=Lib.hid (HN3.out.wrote hw4 hns (by decide))
      clear hns hbs hw4 hb4 hb14 HN3 hr4)
    |(go_at_call 174;(with_reducible refine (KH.out _ HB4.out _ HN4.out).mono ?_);rintro e w5 ⟨rfl,rfl⟩)
    |(with_reducible refine wpList_store_t3 rfl 183 sizeT (.tmp 4) (.tmp 22) rfl w.heap.size rfl _ _ _ _ _ _ rfl rfl rfl rfl _ hr0 ?_;intro w9 hw9 hr9))
   refine bodyPost_ret (ret_cell_t3 rfl Tryz.underlying183 sizeT _ _ w.heap.size _ _ _ _ _ rfl hr9 rfl) rfl ⟨rfl,HB4.out.trans (hw9.below (Nat.le_refl _))⟩
 · have hn2:∀ q N D,¬ isTxn L q N D:=fun q N D ht=>hex ⟨q,N,D,ht⟩
   have hbx:=below_box w (.cells #[.int .u32 0,.slice none 0 0,.slice none 0 0] 183)
   have hnx:=heap_alloc_new w (.cells #[.int .u32 0,.slice none 0 0,.slice none 0 0] 183)
   have KU:=Lib.hid (fun W (hb:Below w.heap.size w W)=>show Calls Tryz.prog 173 #[v] W fun e w'=>e=.returned (.tuple #[.agg #[.int .u32 0,.slice none 0 0,.slice none 0 0],.bool false])/\Below W.heap.size W w' from
    (tUnpack_any (hs.below hb) hL).mono fun e w' ⟨hb,hc⟩=>by
      rcases hc with ⟨q',N',D',vN,vD,ht',he,h1,h2⟩| ⟨_,he⟩
      · exact absurd ht' (hn2 _ _ _)
      · exact ⟨he,hb⟩)
   obtain ⟨bp,rfl⟩:=h.ptr
   obtain ⟨vo,vc,rfl,_⟩:=hs.shape
   generalize L.length=y at KU |-
   clear h hs hL hno hn2 hex
   go_enter Tryz.func136,Tryz.ntmps136
   go_upto_region 1 with (fail)
   generalize w.alloc (.cells #[.int .u32 0,.slice none 0 0,.slice none 0 0] 183)=w1 at hbx hnx |-
   go_wp2_with (first
    |(go_at_call 173;(with_reducible refine (KU.out _ hbx).mono ?_);rintro e w2 ⟨rfl,hb2⟩
      have hns:=heap_alloc_new w2 (.cells #[.int .u32 0,.slice none 0 0,.slice none 0 0] 183)
      have hbs:=below_box w2 (.cells #[.int .u32 0,.slice none 0 0,.slice none 0 0] 183)
      have HB2:=Lib.hid hb2)
    |(with_reducible refine wpList_store_t3 rfl 183 sizeT (.tmp 6) (.tmp 11) rfl w2.heap.size rfl _ _ _ _ _ _ rfl rfl rfl rfl _ hns ?_;intro w4 hw4 hr4
      have hb4:=hbs.trans (hw4.below (Nat.le_refl _))
      have hb14:=HB2.out.trans (hb4.mono HB2.out.size)
      have hr0:=hold9 hnx hb14
      have HB4:=Lib.hid (hbx.trans (hb14.mono hbx.size))
      clear hns hbs hw4 hb4 hb14 hr4)
    |(with_reducible refine wpList_store_t3 rfl 183 sizeT (.tmp 4) (.tmp 22) rfl w.heap.size rfl _ _ _ _ _ _ rfl rfl rfl rfl _ hr0 ?_;intro w9 hw9 hr9))
   refine bodyPost_ret (ret_cell_t3 rfl Tryz.underlying183 sizeT _ _ w.heap.size _ _ _ _ _ rfl hr9 rfl) rfl ⟨rfl,HB4.out.trans (hw9.below (Nat.le_refl _))⟩
end
theorem runA_cons (a:PA) (A:List PA) (s:DS):runA (a :: A) s=if s.ok=true then runA A (a.run s) else (2,s.pay):=rfl
theorem runA_append:∀ (A B:List PA) (s:DS),runA (A ++ B) s=if (runA A s).1=0 then runA B (runA A s).2 else runA A s
 |[],B,s=>by
  show runA B s=if (0:Int)=0 then runA B s else _
  rw[if_pos rfl]
 |a :: A,B,s=>by
  rw[List.cons_append,runA_cons,runA_cons]
  by_cases h:s.ok=true
  · rw[if_pos h,if_pos h];exact runA_append A B _
  · rw[if_neg h,if_neg h,if_neg (by show ¬ (2:Int)=0;decide)]
theorem runA_next {X:List PA}{a:PA}{s:DS} (h:(runA X s).1=0) (hok:(runA X s).2.ok=true):runA (X ++ [a]) s=(0,a.run (runA X s).2):=by
 rw[runA_append,if_pos h,runA_cons,if_pos hok]
 rfl
theorem runA_stop {X Y:List PA}{a:PA}{s:DS} (h:(runA X s).1=0) (hok:(runA X s).2.ok=false):runA (X ++ a :: Y) s=(2,(runA X s).2.pay):=by
 rw[runA_append,if_pos h,runA_cons,if_neg (by rw[hok];decide)]
theorem runA_len:∀ (A:List PA) (s:DS),(runA A s).2.F.length=s.F.length/\(runA A s).2.U.length<=s.U.length+A.length
 |[],s=>⟨rfl,Nat.le_refl _⟩
 |a :: A,s=>by
  unfold runA
  by_cases h:s.ok=true
  · rw[if_pos h]
    obtain ⟨h1,h2⟩:=runA_len A (a.run s)
    cases a with
    |w n l=>
     have e1:(PA.run s (.w n l)).F.length=s.F.length:=rfl
     have e2:(PA.run s (.w n l)).U.length=s.U.length+1:=by show (s.U ++ [(n,l)]).length=_;simp
     exact ⟨h1.trans e1,by simp only[List.length_cons];omega⟩
    |f=>
     have e1:(PA.run s .f).F.length=s.F.length:=DS.vis_length s
     have e2:(PA.run s .f).U.length=0:=rfl
     exact ⟨h1.trans e1,by simp only[List.length_cons];omega⟩
  · rw[if_neg h]
    exact ⟨rfl,Nat.le_add_right _ _⟩
def RunQ (A:List PA) (w:World) (P:Nat->Prop) (p:Value) (s:DS) (e:Ending) (w':World):Prop:=
 e=.returned (.int .i64 (runA A s).1)/\∃ P',Dk w' P' p (runA A s).2/\Chg P P' w w'
theorem RunQ.stop {X Y:List PA}{a:PA}{w W:World}{P P':Nat->Prop}{p:Value}{s:DS} (h:(runA X s).1=0) (hok:(runA X s).2.ok=false) (hd:Dk W P' p (runA X s).2.pay) (hc:Chg P P' w W):RunQ (X ++ a :: Y) w P p s (.returned (.int .i64 2)) W:=by
 unfold RunQ
 rw[runA_stop h hok]
 exact ⟨rfl,P',hd,hc⟩
theorem RunQ.done {X:List PA}{w W:World}{P P':Nat->Prop}{p:Value}{s:DS} (h:(runA X s).1=0) (hd:Dk W P' p (runA X s).2) (hc:Chg P P' w W):RunQ X w P p s (.returned (.int .i64 0)) W:=by
 unfold RunQ
 rw[h]
 exact ⟨rfl,P',hd,hc⟩
theorem Chg.cell {P P':Nat->Prop}{w w':World} (h:Chg P P' w w') {g i:Nat} (hg:g<w.heap.size) (hn:¬ P g):w'.cell? ⟨g,i,none⟩=w.cell? ⟨g,i,none⟩:=
 World.cell?_of_block (a:=⟨g,i,none⟩) (h.keep g hg hn).1
theorem homeA_get (N:List Int) (D:List (List Int)) (k:Nat) (hk:k<N.length):homeA N D=(homeA N D).take k ++ .w (N.getD k 0).toNat (D.getD k []) :: (homeA N D).drop (k+1)/\(homeA N D).take (k+1)=(homeA N D).take k ++ [.w (N.getD k 0).toNat (D.getD k [])]:=by
 have hl:k<(homeA N D).length:=by rw[homeA_length];exact hk
 have e:(homeA N D)[k]=.w (N.getD k 0).toNat (D.getD k []):=by simp[homeA,homeW]
 refine ⟨?_,?_⟩
 · rw[<- e,List.getElem_cons_drop,List.take_append_drop]
 · rw[List.take_succ_eq_append_getElem hl,e]
section
variable {w:World}{P:Nat->Prop}{p:Value}{s:DS}
set_option maxHeartbeats 1000000 in
theorem gHome_yes (h:Dk w P p s) {v:Value}{q:Int}{N:List Int}{D:List (List Int)} (hv:TxVa w P v q N D) (hB:takesT s.F.length N D=true) (hU:s.U.length<=900000):
 Calls Tryz.prog 123 #[p,v] w (RunQ (homeA N D) w P p s):=by
 have hv':=hv
 obtain ⟨no,nc,ao,dc,rfl,hN,hD⟩:=hv
 have hB':=hB
 unfold takesT at hB'
 rw[Bool.and_eq_true,Bool.and_eq_true] at hB'
 obtain ⟨_,hF,hH⟩:=hB'
 obtain ⟨f1,f2,f3⟩:=frmT_of hF
 have hH':=(hasN_iff _ _).1 hH
 have KT:=Lib.hid (fun W (hb:Below w.heap.size w W)=>gTakes_is (h.below hb) (hv'.v.below hb) true hB)
 have hlt:=fun k hk=>h.lt k hk
 have HD0:=Lib.hid (fun W (hb:Below w.heap.size w W)=>h.below hb)
 have hlen:=fun k=>runA_len ((homeA N D).take k) s
 have KW:=Lib.hid (fun k (hk:k<N.length) W Pk (hd:Dk W Pk p (runA ((homeA N D).take k) s).2) v (hv:BSl W v (D.getD k []))=>kWrite hd (N.getD k 0).toNat (by
  have h1:=hH' k hk
  have h2:=(f3 k hk).1
  have h3:=(hlen k).1
  omega) hv (f3 k hk).2.1 (by
  have h1:=(hlen k).2
  rw[List.length_take,homeA_length] at h1
  omega))
 have HNK:=Lib.hid (fun k (hk:k<N.length)=>show N.getD k 0=((N.getD k 0).toNat:Int) by have:=(f3 k hk).1;omega)
 have HL:=Lib.hid (fun k (hk:k<N.length)=>(f3 k hk).2.1)
 have HNC:=Lib.hid (fun W P' (hc:Chg P P' w W)=>(hN.1.1.chg hN.2 hc).1.open')
 have HDC:=Lib.hid (fun W P' (hc:Chg P P' w W)=>(hD.chg hc).sl.open')
 have HG:=Lib.hid (fun k hk=>homeA_get N D k hk)
 have HFULL:Hid ((homeA N D).take N.length=homeA N D):=Lib.hid (List.take_of_length_le (by rw[homeA_length];exact Nat.le_refl _))
 obtain ⟨bp,rfl⟩:=h.ptr
 obtain ⟨A,hA⟩:∃ A,A=homeA N D:=⟨_,rfl⟩
 rw[<- hA] at KW HG HFULL |-
 obtain ⟨n,hn⟩:∃ n,n=N.length:=⟨_,rfl⟩
 have hmn:D.length=n:=f2.trans hn.symm
 rw[<- hn] at KT KW HNK HL HNC HG HFULL f1 |-
 rw[hmn] at KT HDC |-
 have hbx:=below_box w (.cells #[.int .u32 q,.slice no n nc,.slice ao n dc] 183)
 have hnx:=heap_alloc_new w (.cells #[.int .u32 q,.slice no n nc,.slice ao n dc] 183)
 clear h hN hD hv' hB hF hH hH' hlen f2 f3 hA hn hmn
 go_enter Tryz.func123,Tryz.ntmps123
 go_upto_region 1 with (fail)
 generalize w.alloc (.cells #[.int .u32 q,.slice no n nc,.slice ao n dc] 183)=u at hbx hnx |-
 have KT1:=Lib.hid (KT.out _ hbx)
 have d0:u.cell? ⟨w.heap.size,0,none⟩=some (.int .u32 q):=by rw[cell_of_row _ _ _ _ _ _ hnx];rfl
 have d1:u.cell? ⟨w.heap.size,1,none⟩=some (.slice no n nc):=by rw[cell_of_row _ _ _ _ _ _ hnx];rfl
 have d2:u.cell? ⟨w.heap.size,2,none⟩=some (.slice ao n dc):=by rw[cell_of_row _ _ _ _ _ _ hnx];rfl
 have hzu:w.heap.size<u.heap.size:=(Array.getElem?_eq_some_iff.1 hnx).1
 obtain ⟨d,hd⟩:∃ d,d=w.heap.size:=⟨_,rfl⟩
 have HND:Hid (¬ P d):=Lib.hid (fun hp=>by have:=hlt _ hp;omega)
 have HBX:=Lib.hid hbx
 rw[<- hd] at d0 d1 d2 hzu |-
 clear hnx KT hbx hlt hd
 go_wp2_with (go_at_call 161;(with_reducible refine KT1.out.mono ?_);rintro e w2 ⟨rfl,hb2⟩
              have HB2:=Lib.hid (HBX.out.trans (hb2.mono HBX.out.size))
              have g1:=(hb2.cell (p:=⟨d,1,none⟩) hzu).trans d1
              have g2:=(hb2.cell (p:=⟨d,2,none⟩) hzu).trans d2
              have hz2:=Nat.lt_of_lt_of_le hzu hb2.size
              clear hb2)
 have HC1:=Lib.hid (fun W P' (hc:Chg P P' w2 W)=>(hc.cell (i:=1) hz2 HND.out).trans g1)
 have HC2:=Lib.hid (fun W P' (hc:Chg P P' w2 W)=>(hc.cell (i:=2) hz2 HND.out).trans g2)
 have HCW:=Lib.hid (fun W P' (hc:Chg P P' w2 W)=>(Chg.of_below (P:=P) HB2.out).trans hc)
 have HST:Hid (∃ Pk,Dk w2 Pk (.pointer (some ⟨bp,0,none⟩)) (runA (A.take 0) s).2/\Chg P Pk w2 w2):=Lib.hid ⟨P,HD0.out _ HB2.out,Chg.refl P w2⟩
 clear g1 g2 hz2 d0 d1 d2 hzu KT1
 go_loopw [15] (fun i wr=>∃ k:Nat,k<=n/\i=.int .i64 k/\Hid ((runA (A.take k) s).1=0)/\Hid (∃ Pk,Dk wr Pk (.pointer (some ⟨bp,0,none⟩)) (runA (A.take k) s).2/\Chg P Pk w2 wr)) (fun i _=>n-(intOf i).toNat)
 case atStart=>exact ⟨0,by omega,rfl,Lib.hid (by rw[List.take_zero];rfl),HST⟩
 case round=>
  obtain ⟨k,hk,rfl,HR,HS⟩:=hrel
  clear HST
  obtain ⟨Pk,hdk,hck⟩:=HS.out
  by_cases hlt:k<n
  · have y1:=HC1.out _ _ hck
    have y2:=HC2.out _ _ hck
    obtain ⟨no',nc',e1,q1⟩:=HNC.out _ _ (HCW.out _ _ hck)
    obtain ⟨rfl,rfl⟩:=And.intro (Value.slice.inj e1).1 (Value.slice.inj e1).2.2
    obtain ⟨b1,o1,rfl,_,c1⟩:=q1 (by omega)
    have z1:=c1 k hlt
    rw[HNK.out k hlt] at z1
    obtain ⟨ao',dc',e2,_,q2⟩:=HDC.out _ _ (HCW.out _ _ hck)
    obtain ⟨rfl,rfl⟩:=And.intro (Value.slice.inj e2).1 (Value.slice.inj e2).2.2
    obtain ⟨b2,o2,rfl,_,c2⟩:=q2 (by omega)
    obtain ⟨x,z2,hx⟩:=c2 k hlt
    have KC:=Lib.hid (KW.out k hlt _ _ hdk _ hx)
    obtain ⟨xo,xc,rfl,_⟩:=hx.shape
    rw[HL.out k hlt] at z2 KC
    have ek:(k:Int)<(n:Int):=by omega
    have HGK:=Lib.hid (HG.out k hlt)
    obtain ⟨x1,hx1⟩:∃ x1,x1=(N.getD k 0).toNat:=⟨_,rfl⟩
    rw[<- hx1] at z1 KC HGK
    clear hx1
    have HCK:=Lib.hid hck
    clear e1 e2 q1 q2 c1 c2 hx hdk hck
    cases hok:(runA (A.take k) s).2.ok
    · rw[hok,if_neg Bool.false_ne_true,if_neg Bool.false_ne_true] at KC
      have HOK:=Lib.hid hok
      clear hok
      go_wp2_with (go_at_call 164;(with_reducible refine KC.out.mono ?_);rintro e w3 ⟨rfl,P3,hd3,hc3⟩)
      go_ret
      rw[HGK.out.1]
      exact RunQ.stop HR.out HOK.out hd3 (HCW.out _ _ (HCK.out.trans hc3))
    · rw[hok,if_pos rfl,if_pos rfl] at KC
      have HOK:=Lib.hid hok
      clear hok
      go_wp2_with (go_at_call 164;(with_reducible refine KC.out.mono ?_);rintro e w3 ⟨rfl,P3,hd3,hc3⟩)
      go_roundw
      case rel=>
       have e5:=HGK.out.2
       refine ⟨k+1,by omega,by go_num,Lib.hid ?_,Lib.hid ⟨P3,?_,HCK.out.trans hc3⟩⟩
       · rw[e5,runA_next HR.out HOK.out]
       · rw[e5,runA_next HR.out HOK.out];exact hd3
      case measure=>simp[intOf];omega
  · obtain rfl:k=n:=by omega
    clear HG
    go_wp2
    go_ret
    rw[HFULL.out] at HR HS
    obtain ⟨Pk,hdk,hck⟩:=HS.out
    exact RunQ.done HR.out hdk (HCW.out _ _ hck)
end
def wsS (at':Nat) (bs:List (List Int)):List PA:=(List.range bs.length).map fun i=>.w (at'+i) (bs.getD i [])
def layS (St:List (Nat × List (List Int))):List PA:=St.flatMap fun x=>wsS x.1 x.2 ++ [.f]
theorem wsS_length (at':Nat) (bs:List (List Int)):(wsS at' bs).length=bs.length:=by simp[wsS]
theorem wsS_get (at':Nat) (bs:List (List Int)) (k:Nat) (hk:k<bs.length):wsS at' bs=(wsS at' bs).take k ++ .w (at'+k) (bs.getD k []) :: (wsS at' bs).drop (k+1)/\(wsS at' bs).take (k+1)=(wsS at' bs).take k ++ [.w (at'+k) (bs.getD k [])]:=by
 have hl:k<(wsS at' bs).length:=by rw[wsS_length];exact hk
 have e:(wsS at' bs)[k]=.w (at'+k) (bs.getD k []):=by simp[wsS]
 refine ⟨?_,?_⟩
 · rw[<- e,List.getElem_cons_drop,List.take_append_drop]
 · rw[List.take_succ_eq_append_getElem hl,e]
theorem layS_append (A B:List (Nat × List (List Int))):layS (A ++ B)=layS A ++ layS B:=List.flatMap_append
theorem layS_cons (x:Nat × List (List Int)) (B:List (Nat × List (List Int))):layS (x :: B)=wsS x.1 x.2 ++ [.f] ++ layS B:=List.flatMap_cons
theorem layS_nil:layS []=[]:=rfl
theorem layS_get (St:List (Nat × List (List Int))) (j:Nat) (hj:j<St.length):
 layS St=layS (St.take j) ++ (wsS (St.getD j (0,[])).1 (St.getD j (0,[])).2 ++ [.f] ++ layS (St.drop (j+1)))/\
 layS (St.take (j+1))=layS (St.take j) ++ (wsS (St.getD j (0,[])).1 (St.getD j (0,[])).2 ++ [.f]):=by
 have e:St.getD j (0,[])=St[j]:=by simp[List.getD_eq_getElem?_getD,hj]
 rw[e]
 refine ⟨?_,?_⟩
 · conv=>lhs;rw[<- List.take_append_drop j St]
   rw[List.drop_eq_getElem_cons hj,layS_append,layS_cons]
 · rw[List.take_succ_eq_append_getElem hj,layS_append,layS_cons,layS_nil,List.append_nil]
def cntS (St:List (Nat × List (List Int))):Nat:=(layS St).length
theorem sizeS2:(Tryz.prog.info? 234).map (·.size)=some 2:=by kernel_rfl
theorem wpList_store_s2 {ops:Array Oper}{rest:List Oper}{o:Oper}{a:Act}{w:World}{Q:Exit->Act->World->Prop} (hgd:o.guard=none) (ty:TypeId) (hi:(Tryz.prog.info? ty).map (·.size)=some 2) (x y:Operand) (ho:o.op=.store ty x y)
 (g:Nat) (hx:a.eval x=.pointer (some ⟨g,0,none⟩)) (p q p' q':Value) (hy:a.eval y=.agg #[p,q]) (hp:p.oneCell'=true) (hq:q.oneCell'=true) (T:TypeId) (hg:w.heap[g]? =some (.cells #[p',q'] T (0,0)))
 (h:∀ w',Wrote w w' g->w'.heap[g]? =some (.cells #[p,q] T (0,0))->wpList Tryz.prog ops Q rest (a.put o.dst undef) w'):wpList Tryz.prog ops Q (o :: rest) a w:=
 wpList_store_row hgd ty x y ho g #[p,q] hx hy T _ hg hi rfl (by simp[hp,hq]) (h _ (Wrote.setRow _ _ _) (setRow_heap _ _ _ _ _ _ hg))
def StSl (w:World) (P:Nat->Prop) (b off:Nat) (St:List (Nat × List (List Int))):Prop:=
 b<w.heap.size/\¬ P b/\∀ j,j<St.length->∃ ao dc,w.cell? ⟨b,off+j*2,none⟩=some (.int .i64 ((St.getD j (0,[])).1:Nat))/\w.cell? ⟨b,off+j*2+1,none⟩=some (.slice ao (St.getD j (0,[])).2.length dc)/\
  BBa w P (.slice ao (St.getD j (0,[])).2.length dc) (St.getD j (0,[])).2
theorem StSl.chg {w w':World}{P P':Nat->Prop}{b off:Nat}{St:List (Nat × List (List Int))} (h:StSl w P b off St) (hc:Chg P P' w w'):StSl w' P' b off St:=by
 obtain ⟨h1,h2,h3⟩:=h
 refine ⟨Nat.lt_of_lt_of_le h1 hc.size,(hc.keep b h1 h2).2,fun j hj=>?_⟩
 obtain ⟨ao,dc,m1,m2,m3⟩:=h3 j hj
 exact ⟨ao,dc,(hc.cell h1 h2).trans m1,(hc.cell h1 h2).trans m2,m3.chg hc⟩
section
variable {w:World}{P:Nat->Prop}{p:Value}{s:DS}
set_option maxHeartbeats 2000000 in
theorem gLay_of (h:Dk w P p s) {b off cap:Nat}{St:List (Nat × List (List Int))} (hs:StSl w P b off St) (hU:s.U.length<=900000) (hSt:cntS St<=1000) (hn4:St.length<=1000)
 (hok:∀ j,j<St.length->∀ i,i<(St.getD j (0,[])).2.length->(St.getD j (0,[])).1+i<s.F.length/\((St.getD j (0,[])).2.getD i []).length=256) (hat:∀ j,j<St.length->(St.getD j (0,[])).1<=1000/\(St.getD j (0,[])).2.length<=1000):
 Calls Tryz.prog 163 #[p,.slice (some ⟨b,off,none⟩) St.length cap] w (RunQ (layS St) w P p s):=by
 have hlen:=fun A=>runA_len A s
 have hpre:∀ j,j<St.length->(layS (St.take j)).length+(St.getD j (0,[])).2.length+1<=1000:=fun j hj=>by
  have:=congrArg List.length (layS_get St j hj).1
  simp only[List.length_append,wsS_length,List.length_cons,List.length_nil] at this
  unfold cntS at hSt
  omega
 have KW:=Lib.hid (fun j (hj:j<St.length) i (hi:i<(St.getD j (0,[])).2.length) W Pk (hd:Dk W Pk p (runA (layS (St.take j) ++ (wsS (St.getD j (0,[])).1 (St.getD j (0,[])).2).take i) s).2) v (hv:BSl W v ((St.getD j (0,[])).2.getD i []))=>kWrite hd ((St.getD j (0,[])).1+i) (by
  have h1:=(hok j hj i hi).1
  have h3:=(hlen (layS (St.take j) ++ (wsS (St.getD j (0,[])).1 (St.getD j (0,[])).2).take i)).1
  omega) hv (hok j hj i hi).2 (by
  have h1:=(hlen (layS (St.take j) ++ (wsS (St.getD j (0,[])).1 (St.getD j (0,[])).2).take i)).2
  have h2:=hpre j hj
  rw[List.length_append,List.length_take,wsS_length] at h1
  omega))
 have KF:=Lib.hid (fun j (hj:j<St.length) W Pk (hd:Dk W Pk p (runA (layS (St.take j) ++ wsS (St.getD j (0,[])).1 (St.getD j (0,[])).2) s).2)=>kFlush hd (by
  have h1:=(hlen (layS (St.take j) ++ wsS (St.getD j (0,[])).1 (St.getD j (0,[])).2)).2
  have h2:=hpre j hj
  rw[List.length_append,wsS_length] at h1
  omega))
 have HGT:=Lib.hid (fun j hj=>layS_get St j hj)
 have HL:=Lib.hid (fun j (hj:j<St.length) i (hi:i<(St.getD j (0,[])).2.length)=>(hok j hj i hi).2)
 have HAT:=Lib.hid hat
 have HS:=Lib.hid (fun W P' (hc:Chg P P' w W)=>hs.chg hc)
 have HD0:=Lib.hid (fun W (hb:Below w.heap.size w W)=>h.below hb)
 have HST:Hid (∃ Pk,Dk w Pk p (runA (layS (St.take 0)) s).2/\Chg P Pk w w):=Lib.hid ⟨P,h,Chg.refl P w⟩
 have HFULL:Hid (layS (St.take St.length)=layS St):=Lib.hid (by rw[List.take_length])
 obtain ⟨bp,rfl⟩:=h.ptr
 obtain ⟨A,hA⟩:∃ A,A=layS St:=⟨_,rfl⟩
 rw[<- hA] at HGT HFULL |-
 obtain ⟨n,hn⟩:∃ n,n=St.length:=⟨_,rfl⟩
 rw[<- hn] at KW KF HGT HL HAT HFULL hn4 |-
 have HN:=Lib.hid hn
 clear h hs hok hat hlen hpre hSt hU hA hn
 go_enter Tryz.func163,Tryz.ntmps163
 go_wp2
 go_loopw [13] (fun t wr=>∃ j:Nat,j<=n/\t=.int .i64 j/\Hid ((runA (layS (St.take j)) s).1=0)/\Hid (∃ Pk,Dk wr Pk (.pointer (some ⟨bp,0,none⟩)) (runA (layS (St.take j)) s).2/\Chg P Pk w wr)) (fun t _=>n-(intOf t).toNat)
 case atStart=>exact ⟨0,by omega,rfl,Lib.hid (by rw[List.take_zero];rfl),HST⟩
 case round=>
  obtain ⟨j,hj,rfl,HR,HSJ⟩:=hrel
  clear HST
  obtain ⟨Pk,hdk,hck⟩:=HSJ.out
  by_cases hlt:j<n
  · obtain ⟨hb,hnb,hcells⟩:=HS.out _ _ hck
    obtain ⟨ao,dc,x0,x1,hbb⟩:=hcells j (by rw[<- HN.out];exact hlt)
    have hbl:=fun k hk=>hdk.lt k hk
    have HAJ:=HAT.out j hlt
    have HGJ:=Lib.hid (HGT.out j hlt)
    have HLJ:=Lib.hid (HL.out j hlt)
    have KWJ:=Lib.hid (KW.out j hlt)
    have KFJ:=Lib.hid (KF.out j hlt)
    obtain ⟨a,ha⟩:∃ a,a=(St.getD j (0,[])).1:=⟨_,rfl⟩
    obtain ⟨bs,hbs⟩:∃ bs,bs=(St.getD j (0,[])).2:=⟨_,rfl⟩
    rw[<- ha] at x0 HAJ HGJ KWJ KFJ
    rw[<- hbs] at x1 hbb HAJ HGJ HLJ KWJ KFJ
    obtain ⟨X,hX⟩:∃ X,X=layS (St.take j):=⟨_,rfl⟩
    rw[<- hX] at hdk HR HGJ KWJ KFJ
    obtain ⟨m,hm⟩:∃ m,m=bs.length:=⟨_,rfl⟩
    rw[<- hm] at x1 HAJ HLJ KWJ hbb
    obtain ⟨ha1,hm1⟩:=HAJ
    have HWF:Hid ((wsS a bs).take m=wsS a bs):=Lib.hid (List.take_of_length_le (by rw[wsS_length,hm];exact Nat.le_refl _))
    have HWG:=Lib.hid (fun i (hi:i<m)=>wsS_get a bs i (by rw[<- hm];exact hi))
    have HBB:=Lib.hid (fun W P' (hc:Chg Pk P' wr W)=>by have:=(hbb.chg hc).sl.open';rw[<- hm] at this;exact this)
    have ej:(j:Int)<(n:Int):=by omega
    have HCK:=Lib.hid hck
    have HDK:=Lib.hid hdk
    have HBL:=Lib.hid hbl
    have hnsx:=heap_alloc_new wr (.cells #[.int .i64 0,.slice none 0 0] 234)
    have hbsx:=below_box wr (.cells #[.int .i64 0,.slice none 0 0] 234)
    clear hb hnb hcells hbb ha hbs hX hm hck hdk hbl
    go_wp2_with (with_reducible refine wpList_store_s2 rfl 234 sizeS2 (.tmp 6) (.tmp 16) rfl wr.heap.size rfl _ _ _ _ rfl rfl rfl _ hnsx ?_;intro w3 hw3 hr3
                 have HB3:=Lib.hid (hbsx.trans (hw3.below (Nat.le_refl _)))
                 have y0:w3.cell? ⟨wr.heap.size,0,none⟩=some (.int .i64 (a:Nat)):=by rw[cell_of_row _ _ _ _ _ _ hr3];rfl
                 have y1:w3.cell? ⟨wr.heap.size,1,none⟩=some (.slice ao m dc):=by rw[cell_of_row _ _ _ _ _ _ hr3];rfl
                 have hz3:=(Array.getElem?_eq_some_iff.1 hr3).1
                 clear hnsx hbsx hw3 hr3)
    obtain ⟨d,hd⟩:∃ d,d=wr.heap.size:=⟨_,rfl⟩
    rw[<- hd] at y0 y1 hz3 |-
    have HND:Hid (¬ Pk d):=Lib.hid (fun hp=>by have:=HBL.out _ hp;omega)
    have HC0:=Lib.hid (fun W P' (hc:Chg Pk P' w3 W)=>(hc.cell (i:=0) hz3 HND.out).trans y0)
    have HCW:=Lib.hid (fun W P' (hc:Chg Pk P' w3 W)=>(Chg.of_below (P:=Pk) HB3.out).trans hc)
    have HSI:Hid (∃ Pi,Dk w3 Pi (.pointer (some ⟨bp,0,none⟩)) (runA (X ++ (wsS a bs).take 0) s).2/\Chg Pk Pi w3 w3):=Lib.hid ⟨Pk,by rw[List.take_zero,List.append_nil];exact HDK.out.below HB3.out,Chg.refl Pk w3⟩
    have HRI:Hid ((runA (X ++ (wsS a bs).take 0) s).1=0):=Lib.hid (by rw[List.take_zero,List.append_nil];exact HR.out)
    clear x0 x1 y0 y1 hz3 hd
    go_loopw [20] (fun t wi=>∃ i:Nat,i<=m/\t=.int .i64 i/\Hid ((runA (X ++ (wsS a bs).take i) s).1=0)/\Hid (∃ Pi,Dk wi Pi (.pointer (some ⟨bp,0,none⟩)) (runA (X ++ (wsS a bs).take i) s).2/\Chg Pk Pi w3 wi)) (fun t _=>m-(intOf t).toNat)
    case atStart=>exact ⟨0,by omega,rfl,HRI,HSI⟩
    case round=>
     obtain ⟨i,hi,rfl,HR2,HS2⟩:=hrel
     clear HSI HRI
     obtain ⟨Pi,hdi,hci⟩:=HS2.out
     by_cases hli:i<m
     · have y0:=HC0.out _ _ hci
       obtain ⟨ao',dc',e2,_,q2⟩:=HBB.out _ _ (HCW.out _ _ hci)
       obtain ⟨rfl,rfl⟩:=And.intro (Value.slice.inj e2).1 (Value.slice.inj e2).2.2
       obtain ⟨b2,o2,rfl,_,c2⟩:=q2 (by omega)
       obtain ⟨x,z2,hx⟩:=c2 i hli
       have KC:=Lib.hid (KWJ.out i hli _ _ hdi _ hx)
       obtain ⟨xo,xc,rfl,_⟩:=hx.shape
       rw[HLJ.out i hli] at z2 KC
       have e3:((a+i:Nat):Int)=(a:Int)+(i:Int):=by push_cast;rfl
       rw[e3] at KC
       have ei:(i:Int)<(m:Int):=by omega
       have HGI:=Lib.hid (HWG.out i hli)
       have HCI:=Lib.hid hci
       clear e2 e3 q2 c2 hx hdi hci
       cases hok:(runA (X ++ (wsS a bs).take i) s).2.ok
       · rw[hok,if_neg Bool.false_ne_true,if_neg Bool.false_ne_true] at KC
         have HOK:=Lib.hid hok
         clear hok
         go_wp2_with (go_at_call 164;(with_reducible refine KC.out.mono ?_);rintro e w5 ⟨rfl,P5,hd5,hc5⟩)
         go_ret
         have e6:A=(X ++ (wsS a bs).take i) ++ .w (a+i) (bs.getD i []) :: ((wsS a bs).drop (i+1) ++ [.f] ++ layS (St.drop (j+1))):=by
          rw[HGJ.out.1]
          conv=>lhs;rw[HGI.out.1]
          simp only[List.append_assoc,List.cons_append]
         rw[e6]
         exact RunQ.stop HR2.out HOK.out hd5 (HCK.out.trans (HCW.out _ _ (HCI.out.trans hc5)))
       · rw[hok,if_pos rfl,if_pos rfl] at KC
         have HOK:=Lib.hid hok
         clear hok
         go_wp2_with (go_at_call 164;(with_reducible refine KC.out.mono ?_);rintro e w5 ⟨rfl,P5,hd5,hc5⟩)
         go_roundw
         case rel=>
          have e5:X ++ (wsS a bs).take (i+1)=(X ++ (wsS a bs).take i) ++ [.w (a+i) (bs.getD i [])]:=by rw[HGI.out.2,List.append_assoc]
          refine ⟨i+1,by omega,by go_num,Lib.hid ?_,Lib.hid ⟨P5,?_,HCI.out.trans hc5⟩⟩
          · rw[e5,runA_next HR2.out HOK.out]
          · rw[e5,runA_next HR2.out HOK.out];exact hd5
         case measure=>simp[intOf];omega
     · obtain rfl:i=m:=by omega
       rw[HWF.out] at hdi HR2
       have KC:=Lib.hid (KFJ.out _ _ hdi)
       have HCI:=Lib.hid hci
       clear hdi hci
       cases hok:(runA (X ++ wsS a bs) s).2.ok
       · rw[hok,if_neg Bool.false_ne_true,if_neg Bool.false_ne_true] at KC
         have HOK:=Lib.hid hok
         clear hok
         go_wp2_with (go_at_call 124;(with_reducible refine KC.out.mono ?_);rintro e w5 ⟨rfl,P5,hd5,hc5⟩)
         go_ret
         have e6:A=(X ++ wsS a bs) ++ .f :: layS (St.drop (j+1)):=by
          rw[HGJ.out.1]
          simp only[List.append_assoc,List.cons_append,List.nil_append]
         rw[e6]
         exact RunQ.stop HR2.out HOK.out hd5 (HCK.out.trans (HCW.out _ _ (HCI.out.trans hc5)))
       · rw[hok,if_pos rfl,if_pos rfl] at KC
         have HOK:=Lib.hid hok
         clear hok
         go_wp2_with (go_at_call 124;(with_reducible refine KC.out.mono ?_);rintro e w5 ⟨rfl,P5,hd5,hc5⟩)
         go_roundw
         case rel=>
          have e5:layS (St.take (j+1))=(X ++ wsS a bs) ++ [.f]:=by rw[HGJ.out.2,List.append_assoc]
          refine ⟨j+1,by omega,by go_num,Lib.hid ?_,Lib.hid ⟨P5,?_,HCK.out.trans (HCW.out _ _ (HCI.out.trans hc5))⟩⟩
          · rw[e5,runA_next HR2.out HOK.out]
          · rw[e5,runA_next HR2.out HOK.out];exact hd5
         case measure=>simp[intOf];omega
  · obtain rfl:j=n:=by omega
    clear HGT
    go_wp2
    go_ret
    rw[HFULL.out] at HR HSJ
    obtain ⟨Pk,hdk,hck⟩:=HSJ.out
    exact RunQ.done HR.out hdk hck
end
def layWs (q:Int) (N:List Int) (D:List (List Int)):List (Nat × List Int):=(List.range (D.length+1)).map fun i=>(3+i,(sealS (headL q N) :: D).getD i [])
def strT (q:Int) (N:List Int) (D:List (List Int)):List (Nat × List (List Int)):=[(0,[]),(42,[z256]),(3,sealS (headL q N) :: D),(42,[sealS (endL q)])]
theorem layS_strT (q:Int) (N:List Int) (D:List (List Int)):layS (strT q N D)=layA q (layWs q N D):=by
 have e1:wsS 3 (sealS (headL q N) :: D)=(layWs q N D).map fun y=>.w y.1 y.2:=by
  unfold wsS layWs
  rw[List.map_map,List.length_cons]
  rfl
 have e0:wsS 0 []=[]:=rfl
 have e2:wsS 42 [z256]=[.w 42 z256]:=rfl
 have e3:wsS 42 [sealS (endL q)]=[.w 42 (sealS (endL q))]:=rfl
 unfold strT
 rw[layS_cons,layS_cons,layS_cons,layS_cons,layS_nil,e0,e1,e2,e3]
 unfold layA
 simp only[List.append_assoc,List.nil_append,List.cons_append,List.append_nil]
theorem layWs_mem {q:Int}{N:List Int}{D:List (List Int)}{x:Nat × List Int} (h:x∈layWs q N D):∃ i,i<D.length+1/\x=(3+i,(sealS (headL q N) :: D).getD i []):=by
 obtain ⟨i,hi,rfl⟩:=List.mem_map.1 h
 exact ⟨i,List.mem_range.1 hi,rfl⟩
theorem layWs_hit {q:Int}{N:List Int}{D F:List (List Int)} (hF:43<=F.length) (hD:D.length<=37) (i:Nat) (hi:i<D.length+1):(appU (layWs q N D) F).getD (3+i) []=(sealS (headL q N) :: D).getD i []:=by
 refine appU_hit _ F (3+i) _ (by omega) (fun x hx e=>?_) ⟨(3+i,(sealS (headL q N) :: D).getD i []),List.mem_map.2 ⟨i,List.mem_range.2 hi,rfl⟩,rfl⟩
 obtain ⟨k,hk,rfl⟩:=layWs_mem hx
 have e':3+k=3+i:=e
 obtain rfl:k=i:=by omega
 rfl
theorem layW_of {q:Int}{N:List Int}{D:List (List Int)} (hF:frmT N D=true):layW q N D (layWs q N D):=by
 obtain ⟨h37,hl,_⟩:=frmT_of hF
 refine ⟨fun x hx=>?_,fun F h43=>⟨?_,fun j hj=>?_⟩⟩
 · obtain ⟨k,hk,rfl⟩:=layWs_mem hx
   show 3<=3+k/\3+k<42
   omega
 · have:=layWs_hit (q:=q) (N:=N) h43 (by omega:D.length<=37) 0 (by omega)
   exact this
 · have:=layWs_hit (q:=q) (N:=N) h43 (by omega:D.length<=37) (1+j) (by omega)
   rw[show 3+(1+j)=4+j by omega] at this
   rw[this,show 1+j=j+1 by omega]
   rfl
theorem make_n (W:World) (n:Nat) (hn:n<=1000000) (C:Int) (hC:C=n):(Instr.makeSlice 30 (.int .i64 C) (.int .i64 C)).run Tryz.prog W=.ok (.slice (some ⟨W.heap.size,0,none⟩) n n) (W.alloc (.cells (Array.replicate n (.int .u8 0)) 5)):=by
 subst hC
 obtain ⟨i,h2,h3,h4,h5⟩:=info_parts infoU8
 have hrun:=run_make (P:=Tryz.prog) W 30 5 i (.int .u8 0) Tryz.underlying30 h2 h3 .i64 .i64 n n (by omega) (by omega) (by rw[h5];omega) (by omega)
 simp only[Int.toNat_natCast,h4,Nat.mul_one,made_u8] at hrun
 exact hrun
theorem slice_to (b off M cap K:Nat) (C:Int) (hC:C=K) (h1:K<=cap) (h2:0<cap) (W:World):(Instr.slice 96 (.slice (some ⟨b,off,none⟩) M cap) none (some (.int .i64 C)) none).run Tryz.prog W=.ok (.slice (some ⟨b,off,none⟩) K cap) W:=by
 subst hC
 obtain ⟨i,g2,g3,g4,g5⟩:=info_parts infoBy
 have ee:Tryz.prog.elem 96=30:=by kernel_rfl
 have hs:(sizeOf 30).run Tryz.prog W=.ok 1 W:=by simp[sizeOf,typeInfo,g2,g4]
 rw[run_slice_h W 96 _ M cap (by rw[ee];exact Tryz.underlying96) .i64 (K:Int) (by omega) (by omega),ee,hs]
 have hne:cap≠0:=by omega
 simp[sliced,hne,Addr.add_lit]
theorem slice_from (b off M cap K:Nat) (C:Int) (hC:C=K) (h1:K+1=M) (h2:M<=cap) (W:World):(Instr.slice 96 (.slice (some ⟨b,off,none⟩) M cap) (some (.int .i64 C)) none none).run Tryz.prog W=.ok (.slice (some ⟨b,off+K,none⟩) 1 (cap-K)) W:=by
 subst hC
 obtain ⟨i,g2,g3,g4,g5⟩:=info_parts infoBy
 have ee:Tryz.prog.elem 96=30:=by kernel_rfl
 have hs:(sizeOf 30).run Tryz.prog W=.ok 1 W:=by simp[sizeOf,typeInfo,g2,g4]
 rw[run_slice_l W 96 _ M cap (by rw[ee];exact Tryz.underlying96) .i64 (K:Int) (by omega) (by omega),ee,hs]
 have hne:cap≠K:=by omega
 have e1:M-K=1:=by omega
 simp[sliced,hne,Addr.add_lit,e1]
theorem BBa.mid {w:World}{P:Nat->Prop}{b off cap:Nat}{L:List (List Int)} (h:BBa w P (.slice (some ⟨b,off,none⟩) L.length cap) L) (lo m:Nat) (hm:lo+m<=L.length) (M:List (List Int)) (hM:(L.drop lo).take m=M):BBa w P (.slice (some ⟨b,off+lo,none⟩) m (cap-lo)) M:=by
 have hlen:((L.drop lo).take m).length=m:=by simp;omega
 rw[hM] at hlen
 rcases h with ⟨hv,_⟩| ⟨a',c',hv,hcap,hc⟩
 · simp at hv
 · obtain ⟨rfl,rfl⟩:(⟨b,off,none⟩:Addr)=a'/\cap=c':=⟨Option.some.inj (Value.slice.inj hv).1,(Value.slice.inj hv).2.2⟩
   refine .inr ⟨⟨b,off+lo,none⟩,cap-lo,by rw[hlen],by omega,fun j hj=>?_⟩
   rw[hlen] at hj
   obtain ⟨h1,h2,u,h3,h4,h5⟩:=hc (lo+j) (by omega)
   have e:M.getD j []=L.getD (lo+j) []:=by
    rw[<- hM]
    simp[List.getD_eq_getElem?_getD,hj]
   refine ⟨h1,rfl,u,?_,by rw[e];exact h4,h5⟩
   show w.cell? ⟨b,off+lo+j,none⟩=_
   rw[Nat.add_assoc];exact h3
theorem bsl_zero {w:World}{g:Nat} (hg:w.heap[g]? =some (.cells (Array.replicate 256 (.int .u8 0)) 5 (0,0))):BSl w (.slice (some ⟨g,0,none⟩) 256 256) z256:=by
 have hl:z256.length=256:=List.length_replicate
 refine ⟨byt_replicate 256,.inr ⟨_,256,by rw[hl],by rw[hl];exact Nat.le_refl _,fun j hj=>⟨(Array.getElem?_eq_some_iff.1 hg).1,rfl,?_⟩⟩⟩
 rw[hl] at hj
 show w.cell? ⟨g,0+j,none⟩=_
 rw[Nat.zero_add,cell_of_row _ _ _ _ _ _ hg]
 have hn:∀ n,j<n->(Array.replicate n (Value.int .u8 0))[j]? =some (.int .u8 ((List.replicate n (0:Int)).getD j 0)):=fun n h=>by simp[List.getD_eq_getElem?_getD,h]
 exact hn 256 hj
theorem stSl_made {W:World}{P:Nat->Prop} (hP:∀ k,P k->k<W.heap.size) {q:Int}{N:List Int}{D:List (List Int)}{b off M cap K:Nat} (hb:BBa W P (.slice (some ⟨b,off,none⟩) M cap) (packT q N D)) (hM:(packT q N D).length=M) (hK:D.length+1=K):
 Below W.heap.size W (((W.alloc (.cells (Array.replicate 256 (.int .u8 0)) 5)).alloc (.cells #[.slice (some ⟨W.heap.size,0,none⟩) 256 256] 30)).alloc (.cells #[.int .i64 0,.slice none 0 0,.int .i64 42,.slice (some ⟨W.heap.size+1,0,none⟩) 1 1,.int .i64 3,.slice (some ⟨b,off,none⟩) K cap,.int .i64 42,.slice (some ⟨b,off+K,none⟩) 1 (cap-K)] 234))/\
 StSl (((W.alloc (.cells (Array.replicate 256 (.int .u8 0)) 5)).alloc (.cells #[.slice (some ⟨W.heap.size,0,none⟩) 256 256] 30)).alloc (.cells #[.int .i64 0,.slice none 0 0,.int .i64 42,.slice (some ⟨W.heap.size+1,0,none⟩) 1 1,.int .i64 3,.slice (some ⟨b,off,none⟩) K cap,.int .i64 42,.slice (some ⟨b,off+K,none⟩) 1 (cap-K)] 234)) P (W.heap.size+1+1) 0 (strT q N D):=by
 subst hK
 have b1:=below_box W (.cells (Array.replicate 256 (.int .u8 0)) 5)
 have n1:=heap_alloc_new W (.cells (Array.replicate 256 (.int .u8 0)) 5)
 have s1:(W.alloc (.cells (Array.replicate 256 (.int .u8 0)) 5)).heap.size=W.heap.size+1:=by simp
 generalize W.alloc (.cells (Array.replicate 256 (.int .u8 0)) 5)=U1 at b1 n1 s1 |-
 have b2:=below_box U1 (.cells #[.slice (some ⟨W.heap.size,0,none⟩) 256 256] 30)
 have n2:=heap_alloc_new U1 (.cells #[.slice (some ⟨W.heap.size,0,none⟩) 256 256] 30)
 have s2:(U1.alloc (.cells #[.slice (some ⟨W.heap.size,0,none⟩) 256 256] 30)).heap.size=W.heap.size+1+1:=by simp[s1]
 generalize U1.alloc (.cells #[.slice (some ⟨W.heap.size,0,none⟩) 256 256] 30)=U2 at b2 n2 s2 |-
 rw[s1] at n2
 have b3:=below_box U2 (.cells #[.int .i64 0,.slice none 0 0,.int .i64 42,.slice (some ⟨W.heap.size+1,0,none⟩) 1 1,.int .i64 3,.slice (some ⟨b,off,none⟩) (D.length+1) cap,.int .i64 42,.slice (some ⟨b,off+(D.length+1),none⟩) 1 (cap-(D.length+1))] 234)
 have n3:=heap_alloc_new U2 (.cells #[.int .i64 0,.slice none 0 0,.int .i64 42,.slice (some ⟨W.heap.size+1,0,none⟩) 1 1,.int .i64 3,.slice (some ⟨b,off,none⟩) (D.length+1) cap,.int .i64 42,.slice (some ⟨b,off+(D.length+1),none⟩) 1 (cap-(D.length+1))] 234)
 generalize U2.alloc (.cells #[.int .i64 0,.slice none 0 0,.int .i64 42,.slice (some ⟨W.heap.size+1,0,none⟩) 1 1,.int .i64 3,.slice (some ⟨b,off,none⟩) (D.length+1) cap,.int .i64 42,.slice (some ⟨b,off+(D.length+1),none⟩) 1 (cap-(D.length+1))] 234)=U3 at b3 n3 |-
 rw[s2] at n3
 have b23:Below U1.heap.size U1 U3:=b2.trans (b3.mono b2.size)
 have b13:Below W.heap.size W U3:=b1.trans (b23.mono b1.size)
 have hc:Chg P P W U3:=Chg.of_below b13
 have z1:=(b23.block _ (Array.getElem?_eq_some_iff.1 n1).1).trans n1
 have z2:=(b3.block _ (Array.getElem?_eq_some_iff.1 n2).1).trans n2
 have hPn:∀ k,W.heap.size<=k->¬ P k:=fun k hk hp=>by have:=hP k hp;omega
 have hl:(packT q N D).length=D.length+2:=packT_length q N D
 rw[<- hM] at hb
 have m1:=hb.mid 0 (D.length+1) (by omega) (sealS (headL q N) :: D) (by
  unfold packT
  rw[List.drop_zero]
  show List.take ((sealS (headL q N) :: D).length) ((sealS (headL q N) :: D) ++ [sealS (endL q)])=_
  rw[List.take_left])
 have m2:=hb.mid (D.length+1) 1 (by omega) [sealS (endL q)] (by
  unfold packT
  show List.take 1 (List.drop ((sealS (headL q N) :: D).length) ((sealS (headL q N) :: D) ++ [sealS (endL q)]))=_
  rw[List.drop_left];rfl)
 rw[Nat.add_zero,Nat.sub_zero] at m1
 refine ⟨b13,(Array.getElem?_eq_some_iff.1 n3).1,hPn _ (by omega),fun j hj=>?_⟩
 have hj4:j<4:=hj
 have cl:∀ i,U3.cell? ⟨W.heap.size+1+1,i,none⟩=(#[.int .i64 0,.slice none 0 0,.int .i64 42,.slice (some ⟨W.heap.size+1,0,none⟩) 1 1,.int .i64 3,.slice (some ⟨b,off,none⟩) (D.length+1) cap,.int .i64 42,.slice (some ⟨b,off+(D.length+1),none⟩) 1 (cap-(D.length+1))]:Array Value)[i]? :=fun i=>cell_of_row _ _ _ _ _ _ n3
 obtain rfl|rfl|rfl|rfl:j=0\/j=1\/j=2\/j=3:=by omega
 · exact ⟨none,0,cl _,cl _,BBa.nil _ _⟩
 · refine ⟨_,_,cl _,cl _,.inr ⟨_,1,rfl,Nat.le_refl _,fun i hi=>?_⟩⟩
   obtain rfl:i=0:=by have:i<1:=hi;omega
   refine ⟨⟨(Array.getElem?_eq_some_iff.1 z2).1,hPn _ (Nat.le_succ _)⟩,rfl,.slice (some ⟨W.heap.size,0,none⟩) 256 256,?_,bsl_zero z1,Apt.new (hPn _ (Nat.le_refl _))⟩
   show U3.cell? ⟨W.heap.size+1,0,none⟩=_
   rw[cell_of_row _ _ _ _ _ _ z2];rfl
 · exact ⟨_,_,cl _,cl _,m1.chg hc⟩
 · exact ⟨_,_,cl _,cl _,m2.chg hc⟩
end Go.Proofs.YtedabomlfcghoaaGreat
