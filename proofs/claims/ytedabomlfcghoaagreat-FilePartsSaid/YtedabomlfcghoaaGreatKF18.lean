/- What the law rests on: part 18. -/
import Derived.Test.YtedabomlfcghoaaGreatKF17
set_option linter.unusedVariables false
namespace Go.Proofs.YtedabomlfcghoaaGreat
set_option maxRecDepth 100000
open Go.RowKit
theorem rput2 {L:List Int} (j:Nat) (hj:j<12) (h1:j≠1) (x:Int) (hx:x=num L j) (hx0:0<=x/\x<65536) (W:World) (u:Value) (hs:BSl W u (conS L j)):
 Calls Tryz.prog 127 #[u,.int .u64 x,.int .i64 2] W (NewB W (conS L (j+1))):=rput_con j hj x hx hx0 2 (if_neg h1).symm W u hs
theorem con_state {L:List Int} (x:Int) (hx:x=num L 1) (h0:0<=x/\x<256):conS L 1 ++ [x]=conS L 2:=by
 rw[show conS L 2=conS L 1 ++ lowB (num L 1) (wid 1) from rfl,<- hx,show wid 1=1 from rfl,lowB_succ,lowB_zero]
 simp
 omega
theorem rEnc_yes (b st tg cu io ba t0 t1 t2 t3 t4 t5:Int) (L:List Int) (hLL:L=[b,st,tg,cu,io,ba,t0,t1,t2,t3,t4,t5]) (hf:frmS L=true) (w:World)
 (hF:∀ w,Calls Tryz.prog 132 #[.agg #[.int .i64 b,.int .i64 st,.int .i64 tg,.int .i64 cu,.int .i64 io,.int .i64 ba,.int .i64 t0,.int .i64 t1,.int .i64 t2,.int .i64 t3,.int .i64 t4,.int .i64 t5]] w fun e w'=>e=.returned (.bool true)/\Below w.heap.size w w'):
 Calls Tryz.prog 84 #[.agg #[.int .i64 b,.int .i64 st,.int .i64 tg,.int .i64 cu,.int .i64 io,.int .i64 ba,.int .i64 t0,.int .i64 t1,.int .i64 t2,.int .i64 t3,.int .i64 t4,.int .i64 t5]] w fun e w'=>∃ v,e=.returned (.tuple #[v,.int .i64 0])/\OB w' w.heap.size v (encS L)/\Below w.heap.size w w':=by
 have hob:=below_box w (supO L 143)
 have hh:=heap_alloc_new w (supO L 143)
 obtain ⟨W1,hW1⟩:∃ W1,W1=w.alloc (supO L 143):=⟨_,rfl⟩
 rw[<- hW1] at hob hh
 have hW2:w.alloc (.cells #[.int .i64 b,.int .i64 st,.int .i64 tg,.int .i64 cu,.int .i64 io,.int .i64 ba,.int .i64 t0,.int .i64 t1,.int .i64 t2,.int .i64 t3,.int .i64 t4,.int .i64 t5] 143)=W1:=by rw[hW1,hLL];rfl
 have hlen:L.length=12:=by rw[hLL];rfl
 have hsz:w.heap.size<W1.heap.size:=by rw[hW1];simp
 have kc:=fun (w:World) (C:Array Value) (n c:Nat)=>Lib.run_convert_bytes_const (P:=Tryz.prog) w 30 5 C n c Tryz.underlying30 Tryz.underlying5
 have e0:b=num L 0:=by rw[hLL];rfl
 have e1:st=num L 1:=by rw[hLL];rfl
 have e2:tg=num L 2:=by rw[hLL];rfl
 have e3:cu=num L 3:=by rw[hLL];rfl
 have e4:io=num L 4:=by rw[hLL];rfl
 have e5:ba=num L 5:=by rw[hLL];rfl
 have f0:=num_fit hf 0 (by decide)
 have f1:0<=num L 1/\num L 1<256:=frm_num hf 1 (by decide)
 rw[<- e0] at f0
 rw[<- e1] at f1
 have H2:=Lib.hid hW2
 have HH:=Lib.hid hh
 have HLE:=Lib.hid hlen
 have HFR:=Lib.hid hf
 have K0:=Lib.hid hF
 have E0:=Lib.hid e0
 have E1:=Lib.hid e1
 have E25:=Lib.hid (And.intro e2 (And.intro e3 (And.intro e4 e5)))
 have hc:=fun (W:World) (h:W.heap[w.heap.size]? =some (supO L 143))=>by rw[hLL] at h;exact sup_cells h
 have HCC:=Lib.hid hc
 clear hF hh hW1 hW2 hLL hlen hf e0 e1 e2 e3 e4 e5 hc
 go_enter Tryz.func84,Tryz.ntmps84
 go_wp2_with (first
  |(go_at_call 132;rw[H2.out];refine (K0.out _).mono ?_;rintro e w2 ⟨rfl,hb2⟩;have hbe:Below w.heap.size w w2:=hob.trans (hb2.mono hob.size)
    have hz2:w.heap.size<w2.heap.size:=Nat.lt_of_lt_of_le hsz hb2.size
    have hr2:w2.heap[w.heap.size]? =some (supO L 143):=(hb2.block _ hsz).trans HH.out
    have hc2:=HCC.out _ hr2)
  |(go_at_call 127
    have hbm:=bsl_magic w2
    have hb3:=below_box w2 (.cells #[.int .u8 97,.int .u8 115,.int .u8 104,.int .u8 108,.int .u8 97,.int .u8 114,.int .u8 32,.int .u8 49] 5 (8,9))
    generalize w2.alloc (.cells #[.int .u8 97,.int .u8 115,.int .u8 104,.int .u8 108,.int .u8 97,.int .u8 114,.int .u8 32,.int .u8 49] 5 (8,9))=w3 at hbm hb3 |-
    refine (rput2 0 (by decide) (by decide) b E0.out f0 _ _ hbm).mono ?_
    rintro e w4 ⟨v4,rfl,hob4,hb4⟩
    have hb24:Below w2.heap.size w2 w4:=hb3.trans (hb4.mono hb3.size)
    have hr4:w4.heap[w.heap.size]? =some (supO L 143):=(hb24.block _ hz2).trans hr2
    have hc4:=HCC.out _ hr4)
  |(at_builtin
    refine wpList_append_byte w4 st rfl (.tmp 17) (.tmp 21) rfl w3.heap.size _ (conS L 1) rfl hob4 ⟨f1.1,by omega⟩ rfl (by rw[conS_length];decide) hb4.size ?_
    intro v5 w5 hob5 hb5
    rw[con_state st E1.out f1] at hob5
    have hb45:Below w2.heap.size w4 w5:=hb5.mono hb3.size
    have hb25:Below w2.heap.size w2 w5:=hb24.trans hb45
    have hr5:w5.heap[w.heap.size]? =some (supO L 143):=(hb25.block _ hz2).trans hr2
    have hc5:=HCC.out _ hr5))
 have hb6:=below_box w5 (.cells #[.int .i64 tg,.int .i64 cu,.int .i64 io,.int .i64 ba] 3)
 have hh6:=heap_alloc_new w5 (.cells #[.int .i64 tg,.int .i64 cu,.int .i64 io,.int .i64 ba] 3)
 generalize w5.alloc (.cells #[.int .i64 tg,.int .i64 cu,.int .i64 io,.int .i64 ba] 3)=w6 at hb6 hh6 |-
 obtain ⟨gi,hgi⟩:∃ gi,gi=w5.heap.size:=⟨_,rfl⟩
 rw[<- hgi] at hh6 |-
 have hz5:w.heap.size<w5.heap.size:=Nat.lt_of_lt_of_le hz2 hb25.size
 have hr6:w6.heap[w.heap.size]? =some (supO L 143):=(hb6.block _ hz5).trans hr5
 have hgl:gi<w6.heap.size:=(Array.getElem?_eq_some_iff.1 hh6).1
 have hci:∀ j,j<4->w6.cell? ⟨gi,j,none⟩=some (.int .i64 (num L (2+j))):=fun j hj=>by
  have:=E25.out
  rw[cell_of_row _ _ _ _ _ _ hh6]
  have h4:j=0\/j=1\/j=2\/j=3:=by omega
  rcases h4 with rfl|rfl|rfl|rfl
  · rw[<- this.1];rfl
  · rw[<- this.2.1];rfl
  · rw[<- this.2.2.1];rfl
  · rw[<- this.2.2.2];rfl
 have hcx:=fun k hk=>sup_cell hr6 k hk
 rw[HLE.out] at hcx
 have HCI:=Lib.hid hci
 have HCX:=Lib.hid hcx
 have HB6:=Lib.hid ((hbe.trans (hb25.mono hbe.size)).trans (hb6.mono (Nat.le_of_lt hz5)))
 have hzw:w.heap.size<w6.heap.size:=Nat.lt_of_lt_of_le hz5 hb6.size
 have HM:=Lib.hid (hob5.bsl.below hb6)
 clear hb6 hh6 hgi hr6 hci hcx hob5 hb5 hb45 hb25 hr5 hc5 hz5 hc4 hr4 hb24 hb4 hob4 hb3 hbm hc2 hr2 hz2 hbe hb2 hob hsz kc
 go_loopw [4,34] (fun u i wr=>∃ j:Nat,j<=4/\i=.int .i64 j/\Hid (BSl wr u (conS L (2+j)))/\Hid (Below w6.heap.size w6 wr)) (fun _ i _=>4-(intOf i).toNat)
 case atStart=>exact ⟨0,by omega,rfl,HM,Below.refl _ _⟩
 case round=>
  obtain ⟨j,hj,rfl,HBS,HBR⟩:=hrel
  clear HM
  by_cases hlt:j<4
  · have hx0:=num_fit HFR.out (2+j) (by omega)
    obtain ⟨x,hx⟩:∃ x,x=num L (2+j):=⟨_,rfl⟩
    have hcx:wr.cell? ⟨gi,j,none⟩=some (.int .i64 x):=by rw[HBR.out.cell hgl,hx];exact HCI.out j hlt
    rw[<- hx] at hx0
    have HPU:=Lib.hid (rput2 (L:=L) (2+j) (by omega) (by omega) x hx hx0)
    have ej:(j:Int)<4:=by omega
    clear hx
    go_wp2_with (go_at_call 127;refine (HPU.out _ _ HBS.out).mono ?_;rintro e w7 ⟨v7,rfl,hob7,hb7⟩)
    go_roundw
    case rel=>exact ⟨j+1,by omega,by go_num,hob7.bsl,HBR.out.trans (hb7.mono HBR.out.size)⟩
    case measure=>simp[intOf];omega
  · obtain rfl:j=4:=by omega
    go_wp2
    obtain ⟨w8,hw8⟩:∃ w8,w8=wr:=⟨_,rfl⟩
    rw[<- hw8] at HBS HBR |-
    clear hw8
    go_loopw [4,45] (fun u i wr=>∃ j:Nat,j<=6/\i=.int .i64 j/\Hid (BSl wr u (conS L (6+j)))/\Hid (Below w6.heap.size w6 wr)) (fun _ i _=>6-(intOf i).toNat)
    case atStart=>exact ⟨0,by omega,rfl,HBS,HBR⟩
    case round=>
     clear HBS HBR
     obtain ⟨j,hj,rfl,HBS,HBR⟩:=hrel
     by_cases hlt:j<6
     · have hx0:=num_fit HFR.out (6+j) (by omega)
       obtain ⟨x,hx⟩:∃ x,x=num L (6+j):=⟨_,rfl⟩
       have hcx:wr.cell? ⟨w.heap.size,6+j,none⟩=some (.int .i64 x):=by rw[HBR.out.cell hzw,hx];exact HCX.out (6+j) (by omega)
       rw[<- hx] at hx0
       have HPU:=Lib.hid (rput2 (L:=L) (6+j) (by omega) (by omega) x hx hx0)
       have ej:(j:Int)<6:=by omega
       clear hx
       go_wp2_with (go_at_call 127;refine (HPU.out _ _ HBS.out).mono ?_;rintro e w7 ⟨v7,rfl,hob7,hb7⟩)
       go_roundw
       case rel=>
        refine ⟨_,_,_,_,_,_,_,_,_,_,_,_,_,?_,rfl⟩
        exact ⟨j+1,by omega,by go_num,hob7.bsl,HBR.out.trans (hb7.mono HBR.out.size)⟩
       case measure=>simp[intOf];omega
     · obtain rfl:j=6:=by omega
       have HSE:=Lib.hid (rSeal_yes HBS.out (by rw[conS_length];decide))
       go_wp2_with (go_at_call 129;refine HSE.out.mono ?_;rintro e w9 ⟨v9,rfl,hob9,hb9⟩)
       go_ret2
       have hB:=HB6.out.trans (HBR.out.mono HB6.out.size)
       exact ⟨v9,rfl,hob9.more hB.size,hB.trans (hb9.mono hB.size)⟩
theorem rEnc_of {L:List Int} (hL:L.length=12) (hT:Top L) (w:World):Calls Tryz.prog 84 #[supV L] w (EncOut L w):=by
 have h0:frmS L=false\/frmS L=true:=by cases frmS L <;> simp
 have KF:∀ B,frmS L=B->_:=fun B h=>rFormS_is hL hT B h
 have hob:=below_box w (supO L 143)
 obtain ⟨W1,hW1⟩:∃ W1,W1=w.alloc (supO L 143):=⟨_,rfl⟩
 rw[<- hW1] at hob
 match L,hL with
 |[b,st,tg,cu,io,ba,t0,t1,t2,t3,t4,t5],_=>
  have hW2:w.alloc (.cells #[.int .i64 b,.int .i64 st,.int .i64 tg,.int .i64 cu,.int .i64 io,.int .i64 ba,.int .i64 t0,.int .i64 t1,.int .i64 t2,.int .i64 t3,.int .i64 t4,.int .i64 t5] 143)=W1:=by rw[hW1];rfl
  have H2:=Lib.hid hW2
  show Calls Tryz.prog 84 #[.agg #[.int .i64 b,.int .i64 st,.int .i64 tg,.int .i64 cu,.int .i64 io,.int .i64 ba,.int .i64 t0,.int .i64 t1,.int .i64 t2,.int .i64 t3,.int .i64 t4,.int .i64 t5]] w (EncOut _ w)
  rcases h0 with h0|h0
  · refine Calls.mono ?_ fun e w' h=>.inr ⟨h0,h⟩
    have K0:Hid (∀ w,Calls Tryz.prog 132 #[.agg #[.int .i64 b,.int .i64 st,.int .i64 tg,.int .i64 cu,.int .i64 io,.int .i64 ba,.int .i64 t0,.int .i64 t1,.int .i64 t2,.int .i64 t3,.int .i64 t4,.int .i64 t5]] w fun e w'=>e=.returned (.bool false)/\Below w.heap.size w w'):=Lib.hid (KF _ h0)
    clear KF h0 hW1 hW2 hT
    go_enter Tryz.func84,Tryz.ntmps84
    go_wp2_with (first|(go_at_call 132;rw[H2.out];refine (K0.out _).mono ?_;rintro e w2 ⟨rfl,hb2⟩))
    go_ret2
    exact ⟨rfl,hob.trans (hb2.mono hob.size)⟩
  · refine Calls.mono ?_ fun e w' h=>.inl ⟨h0,h⟩
    exact rEnc_yes b st tg cu io ba t0 t1 t2 t3 t4 t5 _ rfl h0 w (KF _ h0)
def tblL (k:Nat):List Int:=(List.range 6).map fun i=>if 43+i<k then ((43+i:Nat):Int) else 0
def supL (n:Int) (k:Nat):List Int:=[n,0,0,0,0,0] ++ tblL k
theorem supL_length (n:Int) (k:Nat):(supL n k).length=12:=by simp[supL,tblL]
theorem supL_set (n:Int) {k t:Nat} (h:k=43+t) (ht:t<6):(supL n k).set (6+t) (k:Int)=supL n (k+1):=by
 unfold supL
 rw[List.set_append_right _ _ (by simp)]
 congr 1
 apply List.ext_getElem (by simp[tblL])
 intro i h1 h2
 simp only[tblL,List.getElem_set,List.getElem_map,List.getElem_range,List.length_cons,List.length_nil]
 by_cases e:6+t-6=i
 · rw[if_pos (by omega),if_pos (by omega),h];omega
 · rw[if_neg (by omega)]
   by_cases hc:43+i<k
   · rw[if_pos hc,if_pos (by omega)]
   · rw[if_neg hc,if_neg (by omega)]
theorem supL_same (n:Int) {k:Nat} (h:k<43\/49<=k):supL n k=supL n (k+1):=by
 unfold supL tblL
 congr 1
 apply List.map_congr_left
 intro i hi
 have:=List.mem_range.1 hi
 by_cases hc:43+i<k
 · rw[if_pos hc,if_pos (by omega)]
 · rw[if_neg hc,if_neg (by omega)]
theorem Wrote.none' (w:World) (b:Nat):Wrote w w b:=⟨rfl,rfl,rfl,rfl,fun _ _=>rfl⟩
theorem Wrote.on {a b c:World}{g:Nat} (h:Wrote a b g) (k:Wrote b c g):Wrote a c g:=⟨k.1.trans h.1,k.2.1.trans h.2.1,k.2.2.1.trans h.2.2.1,k.2.2.2.1.trans h.2.2.2.1,fun x hx=>(k.2.2.2.2 x hx).trans (h.2.2.2.2 x hx)⟩
theorem intsOne (L:List Int):(L.map (Value.int .i64)).toArray.all (·.oneCell')=true:=by
 rw[Array.all_eq_true']
 intro v hv
 simp at hv
 obtain ⟨x,_,rfl⟩:=hv
 rfl
theorem infoRS:(Tryz.prog.info? 143).map (·.size)=some 12:=by kernel_rfl
theorem rSpNew_at {kk:Nat} (h1:1<=kk) (h2:kk<=12) (w:World):Calls Tryz.prog 75 #[.int .i64 (64*(kk:Int))] w fun e w'=>∃ b g cap M,e=.returned (.pointer (some ⟨b,0,none⟩))/\RSp w' M (.pointer (some ⟨b,0,none⟩)) (64*(kk:Int)) (newO kk)/\w'.cell? ⟨b,1,none⟩=some (.slice (some ⟨g,0,none⟩) (64*kk) cap)/\w.heap.size<=b/\w.heap.size<=g/\(∀ x,M x->w.heap.size<=x)/\b<w'.heap.size/\g<w'.heap.size/\64*kk<=cap/\
 (∀ j,j<64*kk->w'.cell? ⟨g,j*2,none⟩=some (.int .u16 (tabJ (64*kk) j).1)/\w'.cell? ⟨g,j*2+1,none⟩=some (.int .u16 (tabJ (64*kk) j).2))/\Below w.heap.size w w':=by
 refine (rSpNew_is h1 h2 w).mono fun e w' ⟨p,M,he,hR,hM,hb⟩=>?_
 have hl:(newO kk).length=64*kk:=tabN_length _ _
 have hR':=hR
 obtain ⟨b,v,rfl,_⟩:=hR'
 obtain ⟨g,cap,cur,r1,r2,r3,r4,r5,r6,r7,r8⟩:=hR.all (by rw[hl];omega)
 refine ⟨b,g,cap,M,he,hR,by rw[cell_of_row _ _ _ _ _ _ r1,hl];rfl,hM b ((r7 b).2 (.inl rfl)),hM g ((r7 g).2 (.inr rfl)),hM,(Array.getElem?_eq_some_iff.1 r1).1,(Array.getElem?_eq_some_iff.1 r2).1,by omega,fun j hj=>?_,hb⟩
 have:=r8 j (by rw[hl];exact hj)
 rwa [show (newO kk).getD j (0,0)=tabJ (64*kk) j from tabN_getD _ _ _ hj] at this
theorem rSuper_is {kk:Nat} (h1:1<=kk) (h2:kk<=12) (w:World):Calls Tryz.prog 82 #[.int .i64 (64*(kk:Int))] w fun e w'=>e=.returned (supV (supL (64*(kk:Int)) (64*kk)))/\Below w.heap.size w w':=by
 have KN:=Lib.hid (fun (W:World)=>rSpNew_at h1 h2 W)
 go_enter Tryz.func82,Tryz.ntmps82
 go_upto_region 2 with (fail)
 obtain ⟨a,ha⟩:∃ a,a=w.heap.size:=⟨_,rfl⟩
 have hb1:=(below_box w (supO (List.replicate 12 0) 143)).trans ((below_box (w.alloc (supO (List.replicate 12 0) 143)) (supO (supL (64*(kk:Int)) 0) 143)).mono (below_box w (supO (List.replicate 12 0) 143)).size)
 have hr0:((w.alloc (supO (List.replicate 12 0) 143)).alloc (supO (supL (64*(kk:Int)) 0) 143)).heap[w.heap.size]? =some (supO (List.replicate 12 0) 143):=below_hold (heap_alloc_new w _) (below_box _ _)
 have hr1:((w.alloc (supO (List.replicate 12 0) 143)).alloc (supO (supL (64*(kk:Int)) 0) 143)).heap[w.heap.size+1]? =some (supO (supL (64*(kk:Int)) 0) 143):=by
  have:=heap_alloc_new (w.alloc (supO (List.replicate 12 0) 143)) (supO (supL (64*(kk:Int)) 0) 143)
  simpa using this
 obtain ⟨W1,hW1⟩:∃ W1,W1=(w.alloc (supO (List.replicate 12 0) 143)).alloc (supO (supL (64*(kk:Int)) 0) 143):=⟨_,rfl⟩
 rw[<- hW1] at hb1 hr0 hr1
 rw[show (w.alloc (Obj.cells #[.int .i64 0,.int .i64 0,.int .i64 0,.int .i64 0,.int .i64 0,.int .i64 0,.int .i64 0,.int .i64 0,.int .i64 0,.int .i64 0,.int .i64 0,.int .i64 0] 143)).alloc (Obj.cells #[.int .i64 (64*(kk:Int)),.int .i64 0,.int .i64 0,.int .i64 0,.int .i64 0,.int .i64 0,.int .i64 0,.int .i64 0,.int .i64 0,.int .i64 0,.int .i64 0,.int .i64 0] 143)=W1 from hW1.symm]
 rw[<- ha] at hb1 hr0 hr1 |-
 have hsz:a+1<W1.heap.size:=(Array.getElem?_eq_some_iff.1 hr1).1
 obtain ⟨L,hL⟩:∃ L,L=64*kk:=⟨_,rfl⟩
 have hL768:L<=768:=by omega
 have hL64:64<=L:=by omega
 have HL:=Lib.hid hL
 have HA:=Lib.hid ha
 rw[<- hL] at KN
 have HR0:=Lib.hid hr0
 have HR1:=Lib.hid hr1
 have HB1:=Lib.hid hb1
 clear hr0 hr1 hb1 hW1 ha hL
 go_wp2_with (go_at_call 75;refine (KN.out _).mono ?_;rintro e w2 ⟨b,g,cap,M,rfl,hR,c1,hab,hag,hM,hbl,hgl,hcap,hcc,hb2⟩)
 have HRS0:Hid (w2.heap[a]? =some (supO (List.replicate 12 0) 143)):=Lib.hid (below_hold HR0.out hb2)
 have HRS1:Hid (w2.heap[a+1]? =some (supO (supL (64*(kk:Int)) 0) 143)):=Lib.hid (below_hold HR1.out hb2)
 have HB2:Hid (Below a w w2):=Lib.hid (HB1.out.trans (hb2.mono (by omega)))
 have HCC:=Lib.hid hcc
 have hga:a+1<g:=by omega
 clear hR c1 hM hcc hb2 hab hag hbl HR0 HR1 HB1 hsz
 go_loopw [15] (fun i wr=>∃ k:Nat,k<=L/\i=.int .i64 k/\Hid (wr.heap[a+1]? =some (supO (supL (64*(kk:Int)) k) 143))/\Hid (Wrote w2 wr (a+1))) (fun i _=>L-(intOf i).toNat)
 case atStart=>exact ⟨0,by omega,rfl,HRS1,Lib.hid (Wrote.none' _ _)⟩
 case round=>
  obtain ⟨k,hk,rfl,HS,HW⟩:=hrel
  clear HRS1
  by_cases hlt:k<L
  · obtain ⟨k0,k1⟩:=HCC.out k hlt
    have ekL:(k:Int)<(L:Int):=by omega
    have c0:=(World.cell?_of_block (a:=⟨g,k*2,none⟩) (HW.out.2.2.2.2 g (by omega))).trans k0
    have c1:=(World.cell?_of_block (a:=⟨g,k*2+1,none⟩) (HW.out.2.2.2.2 g (by omega))).trans k1
    by_cases hm:43<=k/\k<49
    · obtain ⟨t,ht⟩:∃ t:Nat,t=k-43:=⟨_,rfl⟩
      have hk43:k=43+t:=by omega
      have ht6:t<6:=by omega
      have et6:(t:Int)<6:=by omega
      have eT:tabJ L k=(65534,(t:Int)):=by
       unfold tabJ
       rw[(fix_tab (j:=k)).2 hm.1 hm.2,if_neg (by decide),if_pos (by omega)]
       congr 1;omega
      rw[eT] at c0 c1
      have hset:=supL_set (64*(kk:Int)) hk43 ht6
      have hf:=frozen_of_row wr (a+1) (6+t) _ _ HS.out
      have hcs:=sup_cell HS.out (6+t) (by rw[supL_length];omega)
      have HS2:(wr.setCell ⟨a+1,6+t,none⟩ (.int .i64 k)).heap[a+1]? =_:=heap_setCell_same wr (a+1) (6+t) _ _ _ HS.out
      have HX:Hid ((wr.setCell ⟨a+1,6+t,none⟩ (.int .i64 k)).heap[a+1]? =some (supO (supL (64*(kk:Int)) (k+1)) 143)):=Lib.hid (by
       rw[HS2,<- hset];unfold supO
       rw[List.setIfInBounds_toArray,List.map_set])
      have HY:Hid (Wrote w2 (wr.setCell ⟨a+1,6+t,none⟩ (.int .i64 k)) (a+1)):=Lib.hid (HW.out.on (Wrote.setCell wr (a+1) (6+t) _))
      clear k0 k1 eT hset HS2 ht hm hk43
      go_wp2
      generalize wr.setCell ⟨a+1,6+t,none⟩ (.int .i64 k)=Y at HX HY |-
      go_roundw
      case rel=>exact ⟨k+1,by omega,by go_num,HX,HY⟩
      case measure=>simp[intOf];omega
    · have hne:(tabJ L k).1≠65534:=by
       unfold tabJ
       split
       · decide
       · rw[if_neg (by omega)];decide
      have hxb:((tabJ L k).1==65534)=false:=by simpa using hne
      have HX:Hid (wr.heap[a+1]? =some (supO (supL (64*(kk:Int)) (k+1)) 143)):=Lib.hid (by rw[<- supL_same _ (show k<43\/49<=k by omega)];exact HS.out)
      obtain ⟨x,hx⟩:∃ x,x=(tabJ L k).1:=⟨_,rfl⟩
      rw[<- hx] at c0 hxb
      clear k0 k1 hne hm hx HS
      go_wp2
      go_roundw
      case rel=>exact ⟨k+1,by omega,by go_num,HX,HW⟩
      case measure=>simp[intOf];omega
  · obtain rfl:k=L:=by omega
    have hs:wr.heap[a+1]? =some (.cells ((supL (64*(kk:Int)) k).map (Value.int .i64)).toArray 143 (0,0)):=HS.out
    have hb:Below a w wr:=HB2.out.trans (HW.out.below (by omega))
    have hr0:wr.heap[a]? =some (.cells ((List.replicate 12 (0:Int)).map (Value.int .i64)).toArray 143 (0,0)):=by rw[HW.out.2.2.2.2 a (by omega)];exact HRS0.out
    have HBE:=Lib.hid hb
    have HLL:Hid (k=64*kk):=HL
    clear hb HS HW
    go_wp2_with (first
     |(with_reducible refine wpList_load_row rfl 143 (.tmp 3) rfl (a+1) rfl 143 _ (0,0) _ hs Tryz.underlying143 rfl (by rw[infoRS];simp[supL_length]) ?_)
     |(with_reducible refine wpList_store_row rfl 143 (.tmp 2) (.tmp 33) rfl a ((supL (64*(kk:Int)) k).map (Value.int .i64)).toArray rfl rfl 143 _ hr0 (by rw[infoRS];simp[supL_length]) (by simp[supL_length]) (intsOne _) ?_))
    have hw5:=Wrote.setRow wr a ((supL (64*(kk:Int)) k).map (Value.int .i64)).toArray
    have hr5:(wr.setRow a ((supL (64*(kk:Int)) k).map (Value.int .i64)).toArray).heap[a]? =_:=setRow_heap _ _ _ _ _ _ hr0
    refine bodyPost_ret (results_cell_row rfl _ _ a 143 _ (0,0) _ rfl hr5 Tryz.underlying143 rfl (by rw[infoRS];simp[supL_length])) rfl ⟨?_,?_⟩
    · rw[<- HLL.out];rfl
    · have:=HBE.out.trans (hw5.below (Nat.le_refl _))
      rw[<- HA.out];exact this
end Go.Proofs.YtedabomlfcghoaaGreat
namespace Go.Proofs.YtedabomlfcghoaaGreat
set_option maxRecDepth 100000
open Go.RowKit BM
theorem rPut2 {w:World}{v:Value}{l:List Int} (hs:BSl w v l) (hl:l.length<=1000) (x:Int) (h0:0<=x) (h1:x<=65535):Calls Tryz.prog 127 #[v,.int .u64 x,.int .i64 2] w (NewB w (l ++ lowB x 2)):=
 rPut_at hs (by omega) x 2 2 (by omega) (by omega) rfl h0 (by omega)
set_option maxHeartbeats 1000000 in
theorem rrEnc_yes {w:World}{v:Value}{L:List Bool} (hk:KSl w v L) (g:Int) (h1:0<=g) (h2:g<12) (hL:L.length=64):
 Calls Tryz.prog 79 #[.agg #[.int .i64 g,v]] w fun e w'=>∃ v,e=.returned (.tuple #[v,.int .i64 0])/\OB w' w.heap.size v (descS g L)/\Below w.heap.size w w':=by
 obtain ⟨ao,cap,rfl⟩:=hk.shape
 rw[hL] at hk |-
 have hb1:Below w.heap.size w ((w.alloc (.cells #[.int .i64 g,.slice ao 64 cap] 139)).alloc (.cells #[.slice ao 64 cap] 191)):=((Below.refl _ _).alloc (Nat.le_refl _) _).alloc (by simp) _
 have hd1:=heap_alloc2_old w (.cells #[.int .i64 g,.slice ao 64 cap] 139) (.cells #[.slice ao 64 cap] 191)
 have hq1:=heap_alloc2_new w (.cells #[.int .i64 g,.slice ao 64 cap] 139) (.cells #[.slice ao 64 cap] 191)
 obtain ⟨w1,hw1⟩:∃ w1,w1=(w.alloc (.cells #[.int .i64 g,.slice ao 64 cap] 139)).alloc (.cells #[.slice ao 64 cap] 191):=⟨_,rfl⟩
 rw[<- hw1] at hb1 hd1 hq1
 have HW1:=Lib.hid hw1
 have HK:=Lib.hid (hk.below hb1)
 have hcb:=countB_le L
 obtain ⟨C,hC⟩:∃ C,C=countB L:=⟨_,rfl⟩
 rw[<- hC,hL] at hcb
 have HC:=Lib.hid hC
 have HL:=Lib.hid hL
 have hlq:w.heap.size+1<w1.heap.size:=(Array.getElem?_eq_some_iff.1 hq1).1
 have c0:w1.cell? ⟨w.heap.size,0,none⟩=some (.int .i64 g):=by rw[cell_of_row _ _ _ _ _ _ hd1];rfl
 have HQ:=Lib.hid (show w1.cell? ⟨w.heap.size+1,0,none⟩=some (.slice ao 64 cap) by rw[cell_of_row _ _ _ _ _ _ hq1];rfl)
 have kc:=fun (w:World) (C:Array Value) (n c:Nat)=>Lib.run_convert_bytes_const (P:=Tryz.prog) w 30 5 C n c Tryz.underlying30 Tryz.underlying5
 have g0:¬ g<0:=by omega
 have g1:¬ 11<g:=by omega
 clear hk hC hL hd1 hq1 hw1
 go_enter Tryz.func79,Tryz.ntmps79
 go_upto_region 4 with (fail)
 rw[<- HW1.out]
 obtain ⟨q,hqq⟩:∃ q,q=w.heap.size+1:=⟨_,rfl⟩
 rw[<- hqq] at HQ hlq |-
 have hlq0:w.heap.size<w1.heap.size:=by omega
 clear hqq
 go_wp2_with fail
 have hbm:=bsl_desc w1
 have hb2:=below_box w1 (.cells #[.int .u8 100,.int .u8 101,.int .u8 115,.int .u8 99] 5 (4,5))
 generalize w1.alloc (.cells #[.int .u8 100,.int .u8 101,.int .u8 115,.int .u8 99] 5 (4,5))=w2 at hbm hb2 |-
 have HMG:=Lib.hid (rPut2 hbm (by decide) g h1 (by omega))
 clear hbm kc
 go_wp2_with (first
  |(go_at_call 127;(with_reducible refine HMG.out.mono ?_);rintro e w4 ⟨v4,rfl,hob4,hb4⟩
    have hb14:Below w1.heap.size w1 w4:=hb2.trans (hb4.mono hb2.size)
    have hq4:=(hb14.cell (p:=⟨q,0,none⟩) hlq).trans HQ.out)
  |(go_at_call 128;refine (rCount_k hq4 (HK.out.below hb14) (by rw[HL.out];decide)).mono ?_;rw[<- HC.out];rintro e w5 ⟨rfl,rfl⟩
    have HP2:=Lib.hid (rPut2 hob4.bsl (by rw[List.length_append,lowB_length];decide) (C:Int) (by omega) (by omega)))
  |(go_at_call 127;(with_reducible refine HP2.out.mono ?_);rintro e w6 ⟨v6,rfl,hob6,hb6⟩
    have hb16:Below w1.heap.size w1 w6:=hb14.trans (hb6.mono hb14.size)
    have hq6:=(hb16.cell (p:=⟨q,0,none⟩) hlq).trans HQ.out)
  |(go_at_call 130;refine (rBytes_k hq6 (Nat.lt_of_lt_of_le hlq hb16.size) (HK.out.below hb16) (by rw[HL.out];decide) (bytesB L) (rep_bytesB L)).mono ?_;rintro e w7 ⟨v7,rfl,hs7,hb7⟩
    have hb17:Below w1.heap.size w1 w7:=hb16.trans (hb7.mono hb16.size))
  |(at_builtin
    refine wpList_append_bytes w7 rfl (.tmp 35) (.tmp 37) rfl w1.heap.size _ ([100,101,115,99] ++ lowB g 2 ++ lowB (C:Int) 2) rfl ((hob6.below hb7).more hb14.size) w7 v7 (bytesB L) rfl hs7 (fun _ _=>rfl) (by rw[bytesB_length,HL.out];simp[lowB_length]) hb17.size ?_
    intro v8 w8 hob8 hb8 _
    have hb18:Below w1.heap.size w1 w8:=hb17.trans hb8
    have HSE:Hid (Calls Tryz.prog 129 #[v8] w8 (SealOut (descC g L) w8)):=Lib.hid (by rw[descC,<- HC.out];exact rSeal_yes hob8.bsl (by rw[List.length_append,bytesB_length,HL.out];simp[lowB_length])))
  |(go_at_call 129;refine HSE.out.mono ?_;rintro e w9 ⟨v9,rfl,hob9,hb9⟩))
 go_ret2
 exact ⟨v9,rfl,hob9.more (Nat.le_trans hb1.size hb18.size),(hb1.trans (hb18.mono hb1.size)).trans (hb9.mono (Nat.le_trans hb1.size hb18.size))⟩
end Go.Proofs.YtedabomlfcghoaaGreat
namespace Go.Proofs.YtedabomlfcghoaaGreat
set_option maxRecDepth 100000
open Go.RowKit
theorem frmN_iff (kd ln sz mp:Int) (D:List Int):frmN kd ln sz mp D=true ↔ (1<=kd/\kd<=3)/\(0<=ln/\ln<=200)/\(0<=sz/\sz<=35328/\(kd=3->sz<=200))/\locS D=true/\inB mp=true:=by
 unfold frmN most
 simp only[Bool.and_eq_true,decide_eq_true_eq]
 by_cases h:kd=3
 · rw[if_pos h]
   constructor
   · rintro ⟨h1,h2,h3,h4,h5⟩;exact ⟨h1,h2,⟨h3.1,by omega,fun _=>h3.2⟩,h4,h5⟩
   · rintro ⟨h1,h2,h3,h4,h5⟩;exact ⟨h1,h2,⟨h3.1,h3.2.2 h⟩,h4,h5⟩
 · rw[if_neg h]
   constructor
   · rintro ⟨h1,h2,h3,h4,h5⟩;exact ⟨h1,h2,⟨h3.1,h3.2,fun e=>absurd e h⟩,h4,h5⟩
   · rintro ⟨h1,h2,h3,h4,h5⟩;exact ⟨h1,h2,⟨h3.1,h3.2.1⟩,h4,h5⟩
theorem rForm_zero (kd ln sz d0 d1 d2 d3 d4 d5 d6 d7 d8 d9 mp:Int) (h:kd=0) (w:World):Calls Tryz.prog 131 #[.agg #[.int .i64 kd,.int .i64 ln,.int .i64 sz,.int .i64 d0,.int .i64 d1,.int .i64 d2,.int .i64 d3,.int .i64 d4,.int .i64 d5,.int .i64 d6,.int .i64 d7,.int .i64 d8,.int .i64 d9,.int .i64 mp]] w fun e w'=>e=.returned (.bool (decide ([kd,ln,sz,d0,d1,d2,d3,d4,d5,d6,d7,d8,d9,mp]=zeroI)))/\Below w.heap.size w w':=by
 have hb:=below_box w (.cells #[.int .i64 kd,.int .i64 ln,.int .i64 sz,.int .i64 d0,.int .i64 d1,.int .i64 d2,.int .i64 d3,.int .i64 d4,.int .i64 d5,.int .i64 d6,.int .i64 d7,.int .i64 d8,.int .i64 d9,.int .i64 mp] 146)
 have hr:=heap_alloc_new w (.cells #[.int .i64 kd,.int .i64 ln,.int .i64 sz,.int .i64 d0,.int .i64 d1,.int .i64 d2,.int .i64 d3,.int .i64 d4,.int .i64 d5,.int .i64 d6,.int .i64 d7,.int .i64 d8,.int .i64 d9,.int .i64 mp] 146)
 have hrg:(w.alloc (.cells #[.int .i64 kd,.int .i64 ln,.int .i64 sz,.int .i64 d0,.int .i64 d1,.int .i64 d2,.int .i64 d3,.int .i64 d4,.int .i64 d5,.int .i64 d6,.int .i64 d7,.int .i64 d8,.int .i64 d9,.int .i64 mp] 146)).rangeAt w.heap.size 0 (iC [kd,ln,sz,d0,d1,d2,d3,d4,d5,d6,d7,d8,d9,mp]):=io_range hr
 have HRG:=Lib.hid hrg
 have u1:=Tryz.underlying146
 clear hr hrg
 have hk:(kd==0)=true:=by simp[h]
 clear h
 go_enter Tryz.func131,Tryz.ntmps131
 go_wp2_with (first
  |(with_reducible refine wpList_load_nums rfl 146 (.tmp 1) rfl w.heap.size 0 rfl [kd,ln,sz,d0,d1,d2,d3,d4,d5,d6,d7,d8,d9,mp] _ HRG.out u1 rfl rfl ?_)
  |(with_reducible refine wpList_eqRIno rfl (.tmp 7) (.tmp 8) rfl [kd,ln,sz,d0,d1,d2,d3,d4,d5,d6,d7,d8,d9,mp] zeroI rfl rfl rfl rfl ?_))
 go_ret
 exact ⟨rfl,hb⟩
set_option maxHeartbeats 8000000 in
theorem rForm_n (kd ln sz d0 d1 d2 d3 d4 d5 d6 d7 d8 d9 mp:Int) (h0:kd≠0) (B:Bool) (hB:B=frmN kd ln sz mp [d0,d1,d2,d3,d4,d5,d6,d7,d8,d9]) (w:World):Calls Tryz.prog 131 #[.agg #[.int .i64 kd,.int .i64 ln,.int .i64 sz,.int .i64 d0,.int .i64 d1,.int .i64 d2,.int .i64 d3,.int .i64 d4,.int .i64 d5,.int .i64 d6,.int .i64 d7,.int .i64 d8,.int .i64 d9,.int .i64 mp]] w fun e w'=>e=.returned (.bool B)/\Below w.heap.size w w':=by
 have hb:=below_box w (.cells #[.int .i64 kd,.int .i64 ln,.int .i64 sz,.int .i64 d0,.int .i64 d1,.int .i64 d2,.int .i64 d3,.int .i64 d4,.int .i64 d5,.int .i64 d6,.int .i64 d7,.int .i64 d8,.int .i64 d9,.int .i64 mp] 146)
 have hr:(w.alloc (.cells #[.int .i64 kd,.int .i64 ln,.int .i64 sz,.int .i64 d0,.int .i64 d1,.int .i64 d2,.int .i64 d3,.int .i64 d4,.int .i64 d5,.int .i64 d6,.int .i64 d7,.int .i64 d8,.int .i64 d9,.int .i64 mp] 146)).heap[w.heap.size]? =some (iO [kd,ln,sz,d0,d1,d2,d3,d4,d5,d6,d7,d8,d9,mp] 146):=heap_alloc_new w _
 obtain ⟨W1,hW1⟩:∃ W1,W1=w.alloc (.cells #[.int .i64 kd,.int .i64 ln,.int .i64 sz,.int .i64 d0,.int .i64 d1,.int .i64 d2,.int .i64 d3,.int .i64 d4,.int .i64 d5,.int .i64 d6,.int .i64 d7,.int .i64 d8,.int .i64 d9,.int .i64 mp] 146):=⟨_,rfl⟩
 have hb1:Below w.heap.size w W1:=by rw[hW1];exact hb
 rw[<- hW1] at hr
 have H2:=Lib.hid hW1.symm
 have hk:(kd==0)=false:=by simp[h0]
 have HD:Hid (∀ j,j<10->W1.cell? ⟨w.heap.size,3+j,none⟩=some (.int .i64 ([d0,d1,d2,d3,d4,d5,d6,d7,d8,d9].getD j 0))):=fun j hj=>by
  rw[io_cell hr (3+j) (by simp;omega),show 3+j=j+3 by omega]
  have:j=0\/j=1\/j=2\/j=3\/j=4\/j=5\/j=6\/j=7\/j=8\/j=9:=by omega
  rcases this with rfl|rfl|rfl|rfl|rfl|rfl|rfl|rfl|rfl|rfl <;> rfl
 have hiff:=frmN_iff kd ln sz mp [d0,d1,d2,d3,d4,d5,d6,d7,d8,d9]
 rw[<- hB] at hiff
 have hfalse:∀ {P:Prop},(B=true->P)->¬ P->B=false:=fun h hn=>by
  cases hB:B
  · rfl
  · exact absurd (h hB) hn
 have HNO:Hid (¬ ((1<=kd/\kd<=3)/\(0<=ln/\ln<=200)/\(0<=sz/\sz<=35328/\(kd=3->sz<=200)))->B=false):=fun hn=>hfalse (fun h=>⟨(hiff.1 h).1,(hiff.1 h).2.1,(hiff.1 h).2.2.1⟩) hn
 have HYE:Hid ((1<=kd/\kd<=3/\(0<=ln/\ln<=200)/\(0<=sz/\sz<=35328)/\(kd=3->sz<=200))->inB mp=true->locS [d0,d1,d2,d3,d4,d5,d6,d7,d8,d9]=true->B=true):=fun h1 h2 h3=>hiff.2 ⟨⟨h1.1,h1.2.1⟩,h1.2.2.1,⟨h1.2.2.2.1.1,h1.2.2.2.1.2,h1.2.2.2.2⟩,h3,h2⟩
 obtain ⟨B4,h4⟩:∃ b,inB mp=b:=⟨_,rfl⟩
 have HN4:Hid (B4=false->B=false):=fun h=>hfalse (fun hh=>(hiff.1 hh).2.2.2.2) (by rw[h4,h];decide)
 have HND:Hid (∀ j,j<10->inB ([d0,d1,d2,d3,d4,d5,d6,d7,d8,d9].getD j 0)=false->B=false):=fun j hj h=>hfalse (fun hh=>(hiff.1 hh).2.2.2.1) (by rw[locS_no (l:=[d0,d1,d2,d3,d4,d5,d6,d7,d8,d9]) (k:=j) (by simpa using hj) h];decide)
 rw[h4] at HYE
 have K4:=Lib.hid (rPlace_is mp B4 h4)
 clear hiff hfalse hW1 hr hB h4
 by_cases a1:0<=kd
 case neg=>
  obtain rfl:B=false:=HNO.out (by omega)
  go_enter Tryz.func131,Tryz.ntmps131
  go_wp2_with (go_at_call 169;with_reducible refine (K4.out _).mono ?_;rintro e w' ⟨rfl,rfl⟩)
  go_ret
  exact ⟨rfl,hb⟩
 by_cases a2:kd<=3
 case neg=>
  obtain rfl:B=false:=HNO.out (by omega)
  go_enter Tryz.func131,Tryz.ntmps131
  go_wp2_with (go_at_call 169;with_reducible refine (K4.out _).mono ?_;rintro e w' ⟨rfl,rfl⟩)
  go_ret
  exact ⟨rfl,hb⟩
 by_cases a3:0<=ln
 case neg=>
  obtain rfl:B=false:=HNO.out (by omega)
  go_enter Tryz.func131,Tryz.ntmps131
  go_wp2_with (go_at_call 169;with_reducible refine (K4.out _).mono ?_;rintro e w' ⟨rfl,rfl⟩)
  go_ret
  exact ⟨rfl,hb⟩
 by_cases a4:ln<=200
 case neg=>
  obtain rfl:B=false:=HNO.out (by omega)
  go_enter Tryz.func131,Tryz.ntmps131
  go_wp2_with (go_at_call 169;with_reducible refine (K4.out _).mono ?_;rintro e w' ⟨rfl,rfl⟩)
  go_ret
  exact ⟨rfl,hb⟩
 by_cases a5:0<=sz
 case neg=>
  obtain rfl:B=false:=HNO.out (by omega)
  go_enter Tryz.func131,Tryz.ntmps131
  go_wp2_with (go_at_call 169;with_reducible refine (K4.out _).mono ?_;rintro e w' ⟨rfl,rfl⟩)
  go_ret
  exact ⟨rfl,hb⟩
 by_cases a6:sz<=35328
 case neg=>
  obtain rfl:B=false:=HNO.out (by omega)
  go_enter Tryz.func131,Tryz.ntmps131
  go_wp2_with (go_at_call 169;with_reducible refine (K4.out _).mono ?_;rintro e w' ⟨rfl,rfl⟩)
  go_ret
  exact ⟨rfl,hb⟩
 by_cases h3:kd=3
 case pos=>
  subst h3
  clear a1 a2 hk
  by_cases a7:sz<=200
  case neg=>
   obtain rfl:B=false:=HNO.out (by omega)
   go_enter Tryz.func131,Tryz.ntmps131
   go_wp2_with (go_at_call 169;with_reducible refine (K4.out _).mono ?_;rintro e w' ⟨rfl,rfl⟩)
   go_ret
   exact ⟨rfl,hb⟩
  cases B4
  case false=>
   obtain rfl:B=false:=HN4.out rfl
   go_enter Tryz.func131,Tryz.ntmps131
   go_wp2_with (go_at_call 169;with_reducible refine (K4.out _).mono ?_;rintro e w' ⟨rfl,rfl⟩)
   go_ret
   exact ⟨rfl,hb⟩
  case true=>
   have hyes:=HYE.out ⟨by omega,by omega,by omega,by omega,by omega⟩ rfl
   have HYE2:=Lib.hid hyes
   clear hyes HYE HNO HN4
   go_enter Tryz.func131,Tryz.ntmps131
   go_wp2_with (go_at_call 169;with_reducible refine (K4.out _).mono ?_;rintro e w' ⟨rfl,rfl⟩)
   rw[H2.out]
   go_loop [54] (fun i=>∃ j:Nat,j<=10/\i=.int .i64 j/\Hid (∀ i,i<j->inB ([d0,d1,d2,d3,d4,d5,d6,d7,d8,d9].getD i 0)=true)) (fun i=>10-(intOf i).toNat)
   case atStart=>exact ⟨0,by omega,rfl,fun i hi=>absurd hi (Nat.not_lt_zero _)⟩
   case round=>
    obtain ⟨j,hj,rfl,HJ⟩:=hrel
    by_cases hlt:j<10
    · have hcx:=HD.out j hlt
      have hnd:=HND.out j hlt
      obtain ⟨x,hx⟩:∃ x,x=[d0,d1,d2,d3,d4,d5,d6,d7,d8,d9].getD j 0:=⟨_,rfl⟩
      rw[<- hx] at hcx hnd
      have HX:=Lib.hid hx
      have ej:(j:Int)<10:=by omega
      obtain ⟨Bx,hbx⟩:∃ b,inB x=b:=⟨_,rfl⟩
      have KX:=Lib.hid (rPlace_is x Bx hbx)
      have HBX:=Lib.hid hbx
      clear hx hbx
      cases Bx
      · obtain rfl:B=false:=hnd HBX.out
        go_wp2_with (go_at_call 169;with_reducible refine (KX.out _).mono ?_;rintro e w' ⟨rfl,rfl⟩)
        go_ret
        exact ⟨rfl,hb1⟩
      · clear hnd
        go_wp2_with (go_at_call 169;with_reducible refine (KX.out _).mono ?_;rintro e w' ⟨rfl,rfl⟩)
        go_round
        case rel=>
         refine ⟨j+1,by omega,by go_num,fun i hi=>?_⟩
         by_cases e:i=j
         · subst e;rw[<- HX.out];exact HBX.out
         · exact HJ.out i (by omega)
        case measure=>simp[intOf];omega
    · obtain rfl:j=10:=by omega
      obtain rfl:B=true:=HYE2.out ((locS_iff _).2 HJ.out)
      go_wp2
      go_ret
      exact ⟨rfl,hb1⟩
 case neg=>
  have hk3:(kd==3)=false:=by simp[h3]
  cases B4
  case false=>
   obtain rfl:B=false:=HN4.out rfl
   go_enter Tryz.func131,Tryz.ntmps131
   go_wp2_with (go_at_call 169;with_reducible refine (K4.out _).mono ?_;rintro e w' ⟨rfl,rfl⟩)
   go_ret
   exact ⟨rfl,hb⟩
  case true=>
   have hyes:=HYE.out ⟨by omega,by omega,by omega,by omega,by omega⟩ rfl
   have HYE2:=Lib.hid hyes
   clear hyes HYE HNO HN4
   go_enter Tryz.func131,Tryz.ntmps131
   go_wp2_with (go_at_call 169;with_reducible refine (K4.out _).mono ?_;rintro e w' ⟨rfl,rfl⟩)
   rw[H2.out]
   go_loop [54] (fun i=>∃ j:Nat,j<=10/\i=.int .i64 j/\Hid (∀ i,i<j->inB ([d0,d1,d2,d3,d4,d5,d6,d7,d8,d9].getD i 0)=true)) (fun i=>10-(intOf i).toNat)
   case atStart=>exact ⟨0,by omega,rfl,fun i hi=>absurd hi (Nat.not_lt_zero _)⟩
   case round=>
    obtain ⟨j,hj,rfl,HJ⟩:=hrel
    by_cases hlt:j<10
    · have hcx:=HD.out j hlt
      have hnd:=HND.out j hlt
      obtain ⟨x,hx⟩:∃ x,x=[d0,d1,d2,d3,d4,d5,d6,d7,d8,d9].getD j 0:=⟨_,rfl⟩
      rw[<- hx] at hcx hnd
      have HX:=Lib.hid hx
      have ej:(j:Int)<10:=by omega
      obtain ⟨Bx,hbx⟩:∃ b,inB x=b:=⟨_,rfl⟩
      have KX:=Lib.hid (rPlace_is x Bx hbx)
      have HBX:=Lib.hid hbx
      clear hx hbx
      cases Bx
      · obtain rfl:B=false:=hnd HBX.out
        go_wp2_with (go_at_call 169;with_reducible refine (KX.out _).mono ?_;rintro e w' ⟨rfl,rfl⟩)
        go_ret
        exact ⟨rfl,hb1⟩
      · clear hnd
        go_wp2_with (go_at_call 169;with_reducible refine (KX.out _).mono ?_;rintro e w' ⟨rfl,rfl⟩)
        go_round
        case rel=>
         refine ⟨j+1,by omega,by go_num,fun i hi=>?_⟩
         by_cases e:i=j
         · subst e;rw[<- HX.out];exact HBX.out
         · exact HJ.out i (by omega)
        case measure=>simp[intOf];omega
    · obtain rfl:j=10:=by omega
      obtain rfl:B=true:=HYE2.out ((locS_iff _).2 HJ.out)
      go_wp2
      go_ret
      exact ⟨rfl,hb1⟩
theorem rForm_of {L:List Int} (hL:L.length=14) (w:World):Calls Tryz.prog 131 #[.agg (iC L).toArray] w fun e w'=>e=.returned (.bool (frmI L))/\Below w.heap.size w w':=by
 match L,hL with
 |[kd,ln,sz,d0,d1,d2,d3,d4,d5,d6,d7,d8,d9,mp],_=>
  show Calls Tryz.prog 131 #[.agg #[.int .i64 kd,.int .i64 ln,.int .i64 sz,.int .i64 d0,.int .i64 d1,.int .i64 d2,.int .i64 d3,.int .i64 d4,.int .i64 d5,.int .i64 d6,.int .i64 d7,.int .i64 d8,.int .i64 d9,.int .i64 mp]] w fun e w'=>e=.returned (.bool (if kd=0 then decide ([kd,ln,sz,d0,d1,d2,d3,d4,d5,d6,d7,d8,d9,mp]=zeroI) else frmN kd ln sz mp [d0,d1,d2,d3,d4,d5,d6,d7,d8,d9]))/\Below w.heap.size w w'
  by_cases h0:kd=0
  · rw[if_pos h0];exact rForm_zero kd ln sz d0 d1 d2 d3 d4 d5 d6 d7 d8 d9 mp h0 w
  · rw[if_neg h0];exact rForm_n kd ln sz d0 d1 d2 d3 d4 d5 d6 d7 d8 d9 mp h0 _ rfl w
theorem rForm_is {L:List Int} (hL:L.length=14) (B:Bool) (h:frmI L=B) (w:World):Calls Tryz.prog 131 #[.agg (iC L).toArray] w fun e w'=>e=.returned (.bool B)/\Below w.heap.size w w':=by
 rw[<- h];exact rForm_of hL w
theorem bsl_cells (w:World) (l:List Int) (hl:Byt l) (C:Array Value) (hC:C=(l.map (Value.int .u8)).toArray) (n:Nat) (hn:l.length=n):BSl (w.alloc (.cells C 5)) (.slice (some ⟨w.heap.size,0,none⟩) n n) l:=by
 subst hC hn
 refine ⟨hl,.inr ⟨⟨w.heap.size,0,none⟩,l.length,rfl,Nat.le_refl _,fun j hj=>⟨by simp,rfl,?_⟩⟩⟩
 show (w.alloc _).cell? ⟨w.heap.size,0+j,none⟩=_
 rw[Nat.zero_add,cell_of_row _ _ _ _ _ _ (heap_alloc_new w _)]
 simp[List.getD_eq_getElem?_getD,hj]
theorem low_one (n:Int) (h:0<=n/\n<=255):lowB n 1=[n]:=by
 rw[lowB_succ,lowB_zero,List.nil_append]
 simp only[Nat.mul_zero,Int.pow_zero,Int.ediv_one]
 rw[Int.emod_eq_of_lt h.1 (by omega)]
theorem con7_two (x:List Int) (h0:0<=x.getD 0 0/\x.getD 0 0<=255) (h1:0<=x.getD 1 0/\x.getD 1 0<=255):con7 x 2=[x.getD 0 0,x.getD 1 0]:=by
 show ([] ++ lowB (x.getD 0 0) 1) ++ lowB (x.getD 1 0) 1=_
 rw[low_one _ h0,low_one _ h1];rfl
theorem grown_row {w w':World}{row:Option Nat} (h:w.grownBy w' row) (b:Nat) (hb:b<w.heap.size) (hne:∀ k,row=some k->k≠b):w'.heap[b]? =w.heap[b]? :=
 h.block b hb (fun e=>hne b e.symm rfl)
theorem infoR7:(Tryz.prog.info? 146).map (·.size)=some 14:=by kernel_rfl
theorem rEncI_len {w:World} (ao:Option Addr) (len cap:Nat) (h:len≠8):Calls Tryz.prog 83 #[.slice ao len cap] w fun e w'=>e=.returned (.tuple #[.slice none 0 0,.int .i64 1])/\w=w':=by
 have hne:((len:Int) != 8)=true:=by simp;omega
 go_enter Tryz.func83,Tryz.ntmps83
 go_wp2
 go_ret2
 exact ⟨rfl,rfl⟩
set_option maxHeartbeats 4000000 in
theorem rEncI_8 {w:World}{v:Value}{O:List (List Int)} (hs:NSl w v O) (h8:O.length=8):Calls Tryz.prog 83 #[v] w (EncT7 O w):=by
 obtain ⟨b,off,cap,rfl,hb,hc⟩:=hs.at (by omega)
 have H14:=Lib.hid hs.1
 have HYE:=Lib.hid (allF_yes h8)
 have HNO:=Lib.hid (fun k hk h=>allF_no (k:=k) h8 hk h)
 have H8:=Lib.hid h8
 rw[h8] at hc |-
 have HC:=Lib.hid hc
 clear hs hc h8
 go_enter Tryz.func83,Tryz.ntmps83
 go_wp2
 go_loopw [4,13] (fun u i wr=>∃ k:Nat,k<=8/\i=.int .i64 k/\Hid (OB wr w.heap.size u (encK7 O k))/\Hid (∀ j,j<k->frmI (O.getD j [])=true)/\Below w.heap.size w wr) (fun _ i _=>8-(intOf i).toNat)
 case atStart=>exact ⟨0,by omega,rfl,⟨byt_nil,World.ownsRow_nil w _ _ _⟩,fun j hj=>absurd hj (Nat.not_lt_zero _),Below.refl _ _⟩
 case round=>
  obtain ⟨k,hk,rfl,HOB,HK,hbr⟩:=hrel
  by_cases hlt:k<8
  · have hrg:=range_low (HC.out k hlt) hbr hb
    have hno:=HNO.out k hlt
    have h14:=len14_get H14.out k (by rw[H8.out];exact hlt)
    have hpk:encK7 O (k+1)=encK7 O k ++ enc7 (O.getD k []):=rfl
    obtain ⟨x,hx⟩:∃ x,x=O.getD k []:=⟨_,rfl⟩
    rw[<- hx] at hrg hpk hno h14
    have ek:(k:Int)<8:=by omega
    have HX:=Lib.hid hx
    have HPK:=Lib.hid hpk
    have HL:=Lib.hid (encK7_length O k)
    have HN1:=Lib.hid hno
    have HRG:=Lib.hid hrg
    have HX14:Hid (zeroI.length=x.length):=Lib.hid h14.symm
    have HL14:=Lib.hid h14
    have HI14:Hid ((Tryz.prog.info? 146).map (·.size)=some x.length):=Lib.hid (by rw[infoR7,h14])
    have hz:(wr.alloc (.cells #[.int .i64 0,.int .i64 0,.int .i64 0,.int .i64 0,.int .i64 0,.int .i64 0,.int .i64 0,.int .i64 0,.int .i64 0,.int .i64 0,.int .i64 0,.int .i64 0,.int .i64 0,.int .i64 0] 146)).heap[wr.heap.size]? =some (iO zeroI 146):=heap_alloc_new wr _
    have hbz:=below_box wr (.cells #[.int .i64 0,.int .i64 0,.int .i64 0,.int .i64 0,.int .i64 0,.int .i64 0,.int .i64 0,.int .i64 0,.int .i64 0,.int .i64 0,.int .i64 0,.int .i64 0,.int .i64 0,.int .i64 0] 146)
    have HZ:=Lib.hid hz
    have HBZ:=Lib.hid hbz
    have u1:=Tryz.underlying146
    obtain ⟨B,hf⟩:∃ B,frmI x=B:=⟨_,rfl⟩
    have HF:=Lib.hid hf
    have KF:=Lib.hid (rForm_is h14 B hf)
    clear hx hpk hno hrg h14 hz hbz hf
    cases B
    · go_wp2_with (first
       |(with_reducible refine wpList_load_nums rfl 146 (.tmp 18) rfl b (off+k*14) rfl x _ HRG.out u1 rfl HI14.out ?_)
       |(with_reducible refine wpList_store_nums rfl 146 (.tmp 6) (.tmp 19) rfl wr.heap.size rfl x zeroI rfl HX14.out HI14.out _ HZ.out ?_
         intro w4 hw4 hr4
         have hrg4:=io_range hr4
         have hb4:=HBZ.out.trans (hw4.below (Nat.le_refl _)))
       |(with_reducible refine wpList_load_nums rfl 146 (.tmp 6) rfl wr.heap.size 0 rfl x _ hrg4 u1 rfl HI14.out ?_)
       |(go_at_call 131;refine (KF.out _).mono ?_;rintro e w5 ⟨rfl,hb5⟩))
      go_ret2
      exact .inr ⟨HN1.out HF.out,rfl,(hbr.trans (hb4.mono hbr.size)).trans (hb5.mono (Nat.le_trans hbr.size hb4.size))⟩
    · have n0:=frm7_num HL14.out HF.out 0 (by decide)
      have n1:=frm7_num HL14.out HF.out 1 (by decide)
      have n2:=frm7_num HL14.out HF.out 2 (by decide)
      have n13:=frm7_num HL14.out HF.out 13 (by decide)
      rw[show w7 0=1 from rfl,show (256:Int) ^ 1=256 from rfl] at n0
      rw[show w7 1=1 from rfl,show (256:Int) ^ 1=256 from rfl] at n1
      rw[show w7 2=4 from rfl,show (256:Int) ^ 4=4294967296 from rfl] at n2
      rw[show w7 13=2 from rfl,show (256:Int) ^ 2=65536 from rfl] at n13
      have hcon2:=con7_two x (by omega) (by omega)
      have hcon3:con7 x 3=con7 x 2 ++ lowB (x.getD 2 0) 4:=rfl
      have hcon14:con7 x 14=con7 x 13 ++ lowB (x.getD 13 0) 2:=rfl
      have HD:=Lib.hid (fun j (hj:j<10)=>frm7_num HL14.out HF.out (3+j) (by omega))
      have HGX:=Lib.hid (fun (W:World) (h:W.heap[wr.heap.size]? =some (iO x 146)) j (hj:j<14)=>io_cell h j (by rw[HL14.out];exact hj))
      obtain ⟨a0,e0⟩:∃ a,a=x.getD 0 0:=⟨_,rfl⟩
      obtain ⟨a1,e1⟩:∃ a,a=x.getD 1 0:=⟨_,rfl⟩
      obtain ⟨a2,e2⟩:∃ a,a=x.getD 2 0:=⟨_,rfl⟩
      obtain ⟨a13,e13⟩:∃ a,a=x.getD 13 0:=⟨_,rfl⟩
      rw[<- e0] at n0 hcon2
      rw[<- e1] at n1 hcon2
      rw[<- e2] at n2 hcon3
      rw[<- e13] at n13 hcon14
      have E0:=Lib.hid e0
      have E1:=Lib.hid e1
      have E2:=Lib.hid e2
      have E13:=Lib.hid e13
      have HC2:=Lib.hid hcon2
      have HC3:=Lib.hid hcon3
      have HC14:=Lib.hid hcon14
      have HBB:Hid (Byt [a0,a1]):=Lib.hid (byt_of_mem fun y hy=>by simp at hy;omega)
      obtain ⟨n00,n01⟩:=n0
      obtain ⟨n10,n11⟩:=n1
      obtain ⟨n20,n21⟩:=n2
      obtain ⟨n30,n31⟩:=n13
      clear e0 e1 e2 e13 hcon2 hcon3 hcon14
      go_wp2_with (first
       |(with_reducible refine wpList_load_nums rfl 146 (.tmp 18) rfl b (off+k*14) rfl x _ HRG.out u1 rfl HI14.out ?_)
       |(with_reducible refine wpList_store_nums rfl 146 (.tmp 6) (.tmp 19) rfl wr.heap.size rfl x zeroI rfl HX14.out HI14.out _ HZ.out ?_
         intro w4 hw4 hr4
         have hrg4:=io_range hr4
         have hb4:=HBZ.out.trans (hw4.below (Nat.le_refl _)))
       |(with_reducible refine wpList_load_nums rfl 146 (.tmp 6) rfl wr.heap.size 0 rfl x _ hrg4 u1 rfl HI14.out ?_)
       |(go_at_call 131;refine (KF.out _).mono ?_;rintro e w5 ⟨rfl,hb5⟩
         have hr5:=(hb5.block _ (Array.getElem?_eq_some_iff.1 hr4).1).trans hr4
         have hg5:wr.heap.size<w5.heap.size:=(Array.getElem?_eq_some_iff.1 hr5).1
         have c0:=HGX.out _ hr5 0 (by decide)
         have c1:=HGX.out _ hr5 1 (by decide)
         rw[<- E0.out] at c0
         rw[<- E1.out] at c1
         have HR5:=Lib.hid hr5
         have HB5:=Lib.hid (hb4.trans (hb5.mono hb4.size))
         clear hrg4 hb4 hb5 hw4 hr4 hr5)
       |(at_builtin
         have hbx:=below_box w5 (.cells #[.int .u8 a0,.int .u8 a1] 5)
         have hsb:=bsl_cells w5 [a0,a1] HBB.out #[.int .u8 a0,.int .u8 a1] rfl 2 rfl
         generalize w5.alloc (.cells #[.int .u8 a0,.int .u8 a1] 5)=w6 at hbx hsb |-
         have hown:=HOB.out.2.lt
         have h56:=HB5.out.trans (hbx.mono HB5.out.size)
         refine wpList_append_bytes w6 rfl _ _ rfl w.heap.size _ (encK7 O k) rfl (HOB.out.below h56) w6 _ [a0,a1] rfl hsb (fun _ _=>rfl) (by rw[HL.out];simp;omega) (Nat.le_trans hbr.size h56.size) ?_
         intro v7 w7' hob7 hb7 hg7
         have hr7:=(grown_row hg7 wr.heap.size (Nat.lt_of_lt_of_le hg5 hbx.size) (fun k hk e=>by have:=hown k hk;omega)).trans ((hbx.block _ hg5).trans HR5.out)
         have c2:=HGX.out _ hr7 2 (by decide)
         rw[<- E2.out] at c2
         have hg7':wr.heap.size<w7'.heap.size:=(Array.getElem?_eq_some_iff.1 hr7).1
         have HR7:=Lib.hid hr7
         have HB7:=Lib.hid ((hbr.trans (h56.mono hbr.size)).trans hb7)
         clear hbx hsb hown h56 hb7 hg7 hr7 c0 c1)
       |(go_at_call 127;refine (rPut_at hob7.bsl (by rw[List.length_append,HL.out];simp;omega) a2 4 4 (by omega) (by omega) rfl n20 (by omega)).mono ?_;rintro e w8 ⟨v8,rfl,hob8,hb8⟩))
      have hr8:=(hb8.block _ hg7').trans HR7.out
      have hg8:wr.heap.size<w8.heap.size:=(Array.getElem?_eq_some_iff.1 hr8).1
      have h78:Below w.heap.size w w8:=HB7.out.trans (hb8.mono HB7.out.size)
      have hl8:(encK7 O k ++ [a0,a1]) ++ lowB a2 4=encK7 O k ++ con7 x 3:=by rw[HC3.out,HC2.out,List.append_assoc]
      rw[hl8] at hob8
      have HOB8:=Lib.hid (hob8.more HB7.out.size)
      have HR8:=Lib.hid hr8
      have HB8:=Lib.hid h78
      obtain ⟨g,hg⟩:∃ g,g=wr.heap.size:=⟨_,rfl⟩
      rw[<- hg] at HGX HR8 hg8 |-
      have HZF:Hid (Byt [0,0,0,0]):=Lib.hid (byt_replicate 4)
      clear hr8 h78 hl8 hob8 hb8 c2 hob7 HR7 HB7 HR5 HB5 HZ HBZ hg5 hg7' hg
      have hbw8:Below w8.heap.size w8 w8:=Below.refl _ _
      go_loopw [4,37] (fun u i wi=>∃ j:Nat,j<=10/\i=.int .i64 j/\Hid (OB wi w.heap.size u (encK7 O k ++ con7 x (3+j)))/\Below w8.heap.size w8 wi) (fun _ i _=>10-(intOf i).toNat)
      case atStart=>exact ⟨0,by omega,rfl,HOB8,hbw8⟩
      case round=>
       obtain ⟨j,hj,rfl,HOI,hbi⟩:=hrel
       clear HOB8 hbw8
       have hri:=(hbi.block _ hg8).trans HR8.out
       have hwi:=HB8.out.trans (hbi.mono HB8.out.size)
       by_cases hlj:j<10
       · have cj:=HGX.out _ hri (3+j) (by omega)
         have nj:=HD.out j hlj
         have hcj:con7 x (3+j+1)=con7 x (3+j) ++ lowB (x.getD (3+j) 0) (w7 (3+j)):=rfl
         rw[w7_two,show (256:Int) ^ 2=65536 from rfl] at nj
         rw[w7_two] at hcj
         have hlen:(encK7 O k ++ con7 x (3+j)).length<=140737488355300:=by rw[List.length_append,HL.out,con7_length,p7_two];omega
         obtain ⟨y,hy⟩:∃ y,y=x.getD (3+j) 0:=⟨_,rfl⟩
         rw[<- hy] at cj nj hcj
         obtain ⟨nj0,nj1⟩:=nj
         have HCJ:=Lib.hid hcj
         have HLE:=Lib.hid hlen
         have HWI:=Lib.hid hwi
         have ej:(j:Int)<10:=by omega
         clear hy hcj hlen hri hwi
         go_wp2_with (go_at_call 127;refine (rPut_at HOI.out.bsl HLE.out y 2 2 (by omega) (by omega) rfl nj0 (by omega)).mono ?_;rintro e w9 ⟨v9,rfl,hob9,hb9⟩)
         go_roundw
         case rel=>
          refine ⟨j+1,by omega,by go_num,?_,hbi.trans (hb9.mono hbi.size)⟩
          show OB _ _ _ (encK7 O k ++ con7 x (3+j+1))
          rw[HCJ.out,<- List.append_assoc]
          exact hob9.more HWI.out.size
         case measure=>simp[intOf];omega
       · obtain rfl:j=10:=by omega
         have c13:=HGX.out _ hri 13 (by decide)
         rw[<- E13.out] at c13
         have HO13:=HOI
         change Hid (OB _ _ _ (encK7 O k ++ con7 x 13)) at HO13
         have hlen:(encK7 O k ++ con7 x 13).length<=140737488355300:=by rw[List.length_append,HL.out,con7_length];have:p7 13=26:=rfl;omega
         have HLE:=Lib.hid hlen
         have HWI:=Lib.hid hwi
         clear hlen hri hwi HOI
         go_wp2_with (first
          |(go_at_call 127;refine (rPut_at HO13.out.bsl HLE.out a13 2 2 (by omega) (by omega) rfl n30 (by omega)).mono ?_;rintro e w10 ⟨v10,rfl,hob10,hb10⟩
            have HB10:=Lib.hid (HWI.out.trans (hb10.mono HWI.out.size))
            have hob10':=hob10.more HWI.out.size
            clear hb10 hob10)
          |(at_builtin
            have hbx:=below_box w10 (.cells #[.int .u8 0,.int .u8 0,.int .u8 0,.int .u8 0] 5)
            have hsb:=bsl_cells w10 [0,0,0,0] HZF.out #[.int .u8 0,.int .u8 0,.int .u8 0,.int .u8 0] rfl 4 rfl
            generalize w10.alloc (.cells #[.int .u8 0,.int .u8 0,.int .u8 0,.int .u8 0] 5)=w11 at hbx hsb |-
            have h011:=HB10.out.trans (hbx.mono HB10.out.size)
            refine wpList_append_bytes w11 rfl _ _ rfl w.heap.size _ _ rfl (hob10'.below hbx) w11 _ [0,0,0,0] rfl hsb (fun _ _=>rfl) (by rw[List.length_append,lowB_length];have:=HLE.out;simp only[List.length_cons,List.length_nil];omega) h011.size ?_
            intro v12 w12 hob12 hb12 _))
         go_roundw
         case rel=>
          refine ⟨k+1,by omega,by go_num,?_,fun j hj=>?_,h011.trans hb12⟩
          · show OB _ _ _ (encK7 O (k+1))
            rw[HPK.out,enc7,HC14.out,<- List.append_assoc,<- List.append_assoc]
            exact hob12
          · by_cases e:j=k
            · subst e;rw[<- HX.out];exact HF.out
            · exact HK.out j (by omega)
         case measure=>simp[intOf];omega
  · obtain rfl:k=8:=by omega
    go_wp2
    go_ret2
    exact .inl ⟨HYE.out HK.out,_,rfl,HOB.out,hbr⟩
theorem rEncI_any {w:World}{v:Value}{O:List (List Int)} (hs:NSl w v O):Calls Tryz.prog 83 #[v] w (EncT7 O w):=by
 by_cases h:O.length=8
 · exact rEncI_8 hs h
 · obtain ⟨ao,cap,rfl⟩:=hs.shape
   refine (rEncI_len ao _ cap h).mono fun e w' ⟨he,hw⟩=>.inr ⟨?_,he,by rw[<- hw];exact Below.refl _ _⟩
   unfold allF;rw[decide_eq_false h];rfl
theorem rEncI_yes {w:World}{v:Value}{O:List (List Int)} (hs:NSl w v O) (h:allF O=true):Calls Tryz.prog 83 #[v] w fun e w'=>∃ u,e=.returned (.tuple #[u,.int .i64 0])/\OB w' w.heap.size u (encT O)/\Below w.heap.size w w':=
 (rEncI_any hs).mono fun e w' ho=>ho.elim (fun h1=>h1.2) fun h1=>by rw[h] at h1;cases h1.1
theorem belt_zero {w:World}{B g:Nat} (hg:w.heap[g]? =some (.cells (Array.replicate 256 (.int .u8 0)) 5 (0,0))):BElt w B (.slice (some ⟨g,0,none⟩) 256 256) zb:=by
 refine ⟨bsl_zero hg,fun _=>⟨g,0,256,by rw[zb_length],(Array.getElem?_eq_some_iff.1 hg).1,.inr ⟨_,hg⟩⟩⟩
section
variable {ops:Array Oper}{o:Oper}{a:Act}{w:World}{K:Act->World->Prop}{Q:Exit->Act->World->Prop}{E:Prop}
end
theorem wpList_store_bb {ops:Array Oper}{rest:List Oper}{op:Oper}{a:Act}{w:World}{Q:Exit->Act->World->Prop} (hgd:op.guard=none) (x y:Operand) (ho:op.op=.store 30 x y)
 (B g n cap k:Nat) (L:List (List Int)) (l:List Int) (u:Value) (hx:a.eval x=.pointer (some ⟨g,k,none⟩)) (hy:a.eval y=u) (hown:BBR w B (.slice (some ⟨g,0,none⟩) n cap) L) (hk:k<L.length) (hu:BElt w B u l)
 (h:∀ w',BBR w' B (.slice (some ⟨g,0,none⟩) n cap) (L.set k l)->Below B w w'->Wrote w w' g->wpList Tryz.prog ops Q rest (a.put op.dst undef) w'):wpList Tryz.prog ops Q (op :: rest) a w:=by
 obtain ⟨ao,cap',rfl,_⟩:=hu.1.shape
 obtain ⟨cur,hg,hsz,hB⟩:=hown.row
 have hf:=frozen_of_row w g k _ _ hg
 have hc:w.cell? ⟨g,k,none⟩=some (cur[k]'(by omega)):=by rw[cell_of_row _ _ _ _ _ _ hg];simp[show k<cur.size by omega]
 have hs:=hown.set hk hu
 have hw:=Wrote.setCell w g k (.slice ao l.length cap')
 refine wpList_plain hgd fun K hK=>?_
 unfold Oper.wp execOp
 simp only[ho,hx,hy]
 go_simp
 exact hK _ _ (h _ hs (hw.below hB) hw)
theorem rPut2_o {w0 w:World}{B:Nat}{u:Value}{l:List Int} (hs:BSl w0 u l) (hB:B<=w0.heap.size) (hl:l.length<=1000) (x:Int) (hx0:0<=x) (hx:x<=65535) (hb:Below w0.heap.size w0 w):
 Calls Tryz.prog 127 #[u,.int .u64 x,.int .i64 2] w fun e w'=>∃ v,e=.returned v/\OB w' B v (l ++ lowB x 2)/\Below w0.heap.size w0 w':=
 (rPut_at (hs.below hb) (by omega) x 2 2 (by omega) (by omega) rfl hx0 (by omega)).mono fun e w' ⟨v,he,hob,hb2⟩=>⟨v,he,hob.more (Nat.le_trans hB hb.size),hb.trans (hb2.mono hb.size)⟩
set_option maxHeartbeats 2000000 in
theorem rrPage_64o {w:World}{b off cap:Nat}{O:List (Int × Int)} (hO:O.length=64) (hB:OwB O) (hb:b<w.heap.size)
 (hc:∀ j,j<O.length->w.cell? ⟨b,off+j*2,none⟩=some (.int .u16 (O.getD j (0,0)).1)/\w.cell? ⟨b,off+j*2+1,none⟩=some (.int .u16 (O.getD j (0,0)).2))
 (hall:frmK O 64=true):Calls Tryz.prog 77 #[.slice (some ⟨b,off,none⟩) 64 cap] w fun e w'=>∃ v,e=.returned (.tuple #[v,.int .i64 0])/\OB w' w.heap.size v (pageS O)/\Below w.heap.size w w':=by
 have HC:=Lib.hid hc
 have HO:=Lib.hid hO
 have HBB:=Lib.hid hB
 have HAL:=Lib.hid ((frmK_iff O 64).1 hall)
 have hpo:pageS O=pageK O 64:=by unfold pageS;rw[hO]
 have HPO:=Lib.hid hpo
 clear hc hO hB hall hpo
 go_enter Tryz.func77,Tryz.ntmps77
 go_wp2
 go_loopw [4,11] (fun u i wr=>∃ k:Nat,k<=64/\i=.int .i64 k/\Hid (OB wr w.heap.size u (pageK O k))/\Below w.heap.size w wr) (fun _ i _=>64-(intOf i).toNat)
 case atStart=>exact ⟨0,by omega,rfl,(⟨byt_nil,World.ownsRow_nil _ _ _ _⟩:OB _ _ _ []),Below.refl _ _⟩
 case round=>
  obtain ⟨k,hk,rfl,HU,hbr⟩:=hrel
  by_cases hlt:k<64
  · have hck:=HC.out k (by rw[HO.out];exact hlt)
    have hbd:=HBB.out k
    have hj:frmJ O k=frmO (O.getD k (0,0)).1 (O.getD k (0,0)).2:=rfl
    obtain ⟨x,hx⟩:∃ x,x=(O.getD k (0,0)).1:=⟨_,rfl⟩
    obtain ⟨y,hy⟩:∃ y,y=(O.getD k (0,0)).2:=⟨_,rfl⟩
    rw[<- hx,<- hy] at hck hbd hj
    have c1:=(hbr.cell (p:=⟨b,off+k*2,none⟩) hb).trans hck.1
    have c2:=(hbr.cell (p:=⟨b,off+k*2+1,none⟩) hb).trans hck.2
    have ek:(k:Int)<64:=by omega
    have HPK:=Lib.hid (pageK_succ' O k x y hx hy)
    have hpl:=pageK_length O k
    have HL1:Hid ((pageK O k).length<=1000):=Lib.hid (by omega)
    have HL2:Hid ((pageK O k ++ lowB x 2).length<=1000):=Lib.hid (by rw[List.length_append,lowB_length];omega)
    clear hx hy hck hpl
    have hfk:=HAL.out k hlt
    rw[hj] at hfk
    have HF:=Lib.hid hfk
    clear hfk hj
    go_wp2_with (go_at_call 126;refine (rrForm_is x y hbd.1 hbd.2 true HF.out _).mono ?_;rintro e w2 ⟨rfl,hb2⟩)
    have b0:b<wr.heap.size:=Nat.lt_of_lt_of_le hb hbr.size
    have b2:b<w2.drew.heap.size:=Nat.lt_of_lt_of_le b0 hb2.size
    have hbd2:Below wr.heap.size wr w2.drew:=hb2.drew
    have d1:w2.drew.cell? ⟨b,off+k*2,none⟩=some (.int .u16 x):=(hbd2.cell (p:=⟨b,off+k*2,none⟩) b0).trans c1
    have d2:w2.drew.cell? ⟨b,off+k*2+1,none⟩=some (.int .u16 y):=(hbd2.cell (p:=⟨b,off+k*2+1,none⟩) b0).trans c2
    have HC1:=Lib.hid (fun W (h:Below wr.heap.size wr W)=>(hbr.trans (h.mono hbr.size)))
    have HX:=Lib.hid (fun W (h:Below wr.heap.size wr W)=>And.intro ((h.cell (p:=⟨b,off+k*2,none⟩) b0).trans c1) ((h.cell (p:=⟨b,off+k*2+1,none⟩) b0).trans c2))
    have HP1:=Lib.hid (fun W (h:Below wr.heap.size wr W)=>rPut2_o (B:=w.heap.size) HU.out.bsl hbr.size HL1.out x hbd.1.1 hbd.1.2 h)
    have hwx:IntKind.u64.wrap x=x:=u64_in x hbd.1.1 (by omega)
    have hwy:IntKind.u64.wrap y=y:=u64_in y hbd.2.1 (by omega)
    clear c1 c2 hb2 b2
    go_region_held3 (fun W=>W.cell? ⟨b,off+k*2,none⟩=some (.int .u16 x)/\W.cell? ⟨b,off+k*2+1,none⟩=some (.int .u16 y)) (first|exact ⟨f1,f2⟩|exact ⟨e1,e2⟩|exact ⟨d1,d2⟩) (first
     |(go_at_call 127;(with_reducible refine (HP1.out _ hbd2).mono ?_);rintro e w3 ⟨v3,rfl,hs3,hb3⟩
       obtain ⟨e1,e2⟩:=HX.out _ hb3
       have HP2:=Lib.hid (fun W (h:Below w3.heap.size w3 W)=>rPut2_o (B:=w.heap.size) hs3.bsl (Nat.le_trans hbr.size hb3.size) HL2.out y hbd.2.1 hbd.2.2 h))
     |(go_at_call 127;(with_reducible refine (HP2.out _ (Below.refl _ _)).mono ?_);rintro e w4 ⟨v4,rfl,hs4,hb4⟩
       obtain ⟨f1,f2⟩:=HX.out _ (hb3.trans (hb4.mono hb3.size))))
    go_wp2_with fail
    go_roundw
    case rel=>exact ⟨k+1,by omega,by go_num,by show OB _ _ _ (pageK O (k+1));rw[HPK.out];exact hs4,HC1.out _ (hb3.trans (hb4.mono hb3.size))⟩
    case measure=>simp[intOf];omega
  · obtain rfl:k=64:=by omega
    go_wp2
    go_ret2
    exact ⟨_,rfl,by rw[HPO.out];exact HU.out,hbr⟩
theorem rrPage_own {w:World}{v:Value}{O:List (Int × Int)} (hs:OwSl w v O) (h:allO O=true):Calls Tryz.prog 77 #[v] w fun e w'=>∃ v,e=.returned (.tuple #[v,.int .i64 0])/\OB w' w.heap.size v (pageS O)/\Below w.heap.size w w':=by
 have hl:=allO_len h
 obtain ⟨b,off,cap,rfl,hb,hc⟩:=hs.at (by omega)
 rw[hl]
 refine rrPage_64o hl hs.1 hb hc ?_
 rw[allO,hl] at h
 simpa using h
end Go.Proofs.YtedabomlfcghoaaGreat
