/- What the law rests on: part 14. -/
import Derived.Test.YtedabomlfcghoaaGreatKF13
set_option linter.unusedVariables false
namespace Go.Proofs.YtedabomlfcghoaaGreat
set_option maxRecDepth 100000
open Go.RowKit
theorem sFormed_is {L:List Int} (hL:L.length=12) (hT:Top L) (B:Bool) (h:frmS L=B) (w:World):
 Calls Tryz.prog 188 #[supV L] w fun e w'=>e=.returned (.bool B)/\Below w.heap.size w w':=by rw[<- h];exact sFormed_of hL hT w
theorem rLoop_of (b st tg cu io ba t0 t1 t2 t3 t4 t5:Int) (L:List Int) (hLL:L=[b,st,tg,cu,io,ba,t0,t1,t2,t3,t4,t5]) (hT:Top L) (hb1:b<=768) (w:World)
 (hF:∀ w,Calls Tryz.prog 50 #[.int .i64 b] w fun e w'=>e=.returned (.bool true)/\w=w')
 (hS:∀ w,Calls Tryz.prog 170 #[.agg #[.int .i64 b,.int .i64 st,.int .i64 tg,.int .i64 cu,.int .i64 io,.int .i64 ba,.int .i64 t0,.int .i64 t1,.int .i64 t2,.int .i64 t3,.int .i64 t4,.int .i64 t5]] w fun e w'=>e=.returned (.bool true)/\Below w.heap.size w w'):
 Calls Tryz.prog 132 #[.agg #[.int .i64 b,.int .i64 st,.int .i64 tg,.int .i64 cu,.int .i64 io,.int .i64 ba,.int .i64 t0,.int .i64 t1,.int .i64 t2,.int .i64 t3,.int .i64 t4,.int .i64 t5]] w fun e w'=>e=.returned (.bool (frmTS L))/\Below w.heap.size w w':=by
 have hob:=below_box w (supO L 143)
 have hh:=heap_alloc_new w (supO L 143)
 obtain ⟨W1,hW1⟩:∃ W1,W1=w.alloc (supO L 143):=⟨_,rfl⟩
 rw[<- hW1] at hob hh
 have hW2:w.alloc (.cells #[.int .i64 b,.int .i64 st,.int .i64 tg,.int .i64 cu,.int .i64 io,.int .i64 ba,.int .i64 t0,.int .i64 t1,.int .i64 t2,.int .i64 t3,.int .i64 t4,.int .i64 t5] 143)=W1:=by rw[hW1,hLL];rfl
 have eb:num L 0=b:=by rw[hLL];rfl
 have hlen:L.length=12:=by rw[hLL];rfl
 have H2:=Lib.hid hW2
 have HH:=Lib.hid hh
 have HL:=Lib.hid hLL
 have HLE:=Lib.hid hlen
 have HTO:=Lib.hid hT
 have K0:=Lib.hid hF
 have K1:=Lib.hid hS
 clear hF hS hh hW1 hW2 hT hLL hlen
 go_enter Tryz.func132,Tryz.ntmps132
 go_wp2_with (first
  |(go_at_call 50;with_reducible refine (K0.out _).mono ?_;rintro e w' ⟨rfl,rfl⟩)
  |(go_at_call 170;rw[H2.out];refine (K1.out _).mono ?_;rintro e w2 ⟨rfl,hb2⟩))
 have hbe:Below w.heap.size w w2:=hob.trans (hb2.mono hob.size)
 have hh2:w2.heap[w.heap.size]? =some (supO L 143):=(hb2.block _ (Array.getElem?_eq_some_iff.1 HH.out).1).trans HH.out
 have hcel:=fun k hk=>sup_cell hh2 k hk
 rw[HLE.out] at hcel
 have HC:=Lib.hid hcel
 clear hcel hh2 hb2
 go_loopw [14] (fun i wr=>∃ j:Nat,j<=6/\i=.int .i64 j/\Hid (frmTo L j=true)/\Below w.heap.size w wr/\Hid (∀ k,k<12->wr.cell? ⟨w.heap.size,k,none⟩=some (.int .i64 (num L k)))) (fun i _=>6-(intOf i).toNat)
 case atStart=>exact ⟨0,by omega,rfl,rfl,hbe,HC⟩
 case round=>
  clear HC hbe
  obtain ⟨j,hj,rfl,HF,hbe,HC⟩:=hrel
  by_cases hlt:j<6
  · have hcx:=HC.out (6+j) (by omega)
    have hxm:=HTO.out (6+j)
    have hcb:=HC.out 0 (by omega)
    rw[eb] at hcb
    obtain ⟨x,hx⟩:∃ x,x=num L (6+j):=⟨_,rfl⟩
    rw[<- hx] at hcx hxm
    have HX:=Lib.hid hx
    clear hx
    have hno:¬ okTS L j->frmTS L=false:=fun h=>by
     cases hf:frmTS L
     · rfl
     · exact absurd (frm_tab hf j hlt) h
    have HNO:=Lib.hid hno
    clear hno
    have ej:(j:Int)<6:=by omega
    rcases h1:decide (x<0) with _|_
    · have HH1:=Lib.hid (of_decide_eq_false h1)
      rcases h2:decide (b<=x) with _|_
      · have HH2:=Lib.hid (of_decide_eq_false h2)
        rcases h3:fixB x with _|_
        · have K2:=Lib.hid (rFixed_is x hxm false h3)
          have HH3:=Lib.hid h3
          clear h3
          go_wp2
          go_quiet ((go_at_call 51;exact quiet_back (K2.out _)))
          go_wp2
          clear h1 h2 hcb
          go_loopw [39] (fun i wr=>∃ k:Nat,k<=j/\i=.int .i64 k/\Hid (∀ m,m<k->num L (6+m)≠num L (6+j))/\Below w.heap.size w wr/\Hid (∀ k,k<12->wr.cell? ⟨w.heap.size,k,none⟩=some (.int .i64 (num L k)))) (fun i _=>j-(intOf i).toNat)
          case atStart=>exact ⟨0,by omega,rfl,fun m hm=>absurd hm (Nat.not_lt_zero _),below_drewN' hbe _,fun k hk=>HC.out k hk⟩
          case round=>
           clear HC hbe hcx
           obtain ⟨k,hk,rfl,HK,hbe,HC⟩:=hrel
           by_cases hlk:k<j
           · have hck:=HC.out (6+k) (by omega)
             have hcx:wr.cell? ⟨w.heap.size,6+j,none⟩=some (.int .i64 x):=by rw[HX.out];exact HC.out (6+j) (by omega)
             obtain ⟨y,hy⟩:∃ y,y=num L (6+k):=⟨_,rfl⟩
             rw[<- hy] at hck
             have HY:=Lib.hid hy
             clear hy
             have elk:(k:Int)<(j:Int):=by omega
             have ek:(k:Int)<6:=by omega
             rcases h3:(y==x) with _|_
             · go_wp2
               go_quiet (fail)
               go_wp2
               go_roundw
               case rel=>
                refine ⟨k+1,by omega,by go_num,fun m hm=>?_,below_drewN' hbe _,fun k hk=>HC.out k hk⟩
                by_cases e:m=k
                · subst e;rw[<- HY.out,<- HX.out];intro e;rw[e] at h3;simp at h3
                · exact HK.out m (by omega)
               case measure=>simp[intOf];omega
             · have hr:=HNO.out (fun h=>h.2.2 k hlk (by rw[<- HY.out,<- HX.out];simpa using h3))
               go_wp2
               go_quiet (fail)
               go_wp2
               go_ret
               exact ⟨by first|rfl|(rw [hr];rfl),below_drewN' hbe _⟩
           · go_wp2
             go_roundw
             case rel=>
              obtain rfl:k=j:=by omega
              refine ⟨k+1,by omega,by go_num,?_,hbe,HC⟩
              show frmTo L (k+1)=true
              exact frmTo_succ HF.out ⟨⟨by rw[<- HX.out];have:=HH1.out;omega,by rw[<- HX.out,eb];have:=HH2.out;omega⟩,by rw[<- HX.out];exact HH3.out,HK.out⟩
             case measure=>simp[intOf];omega
        · have hr:=HNO.out (fun h=>by have:=h.2.1;rw[<- HX.out,h3] at this;cases this)
          have K2:=Lib.hid (rFixed_is x hxm true h3)
          clear h3
          go_wp2
          go_quiet ((go_at_call 51;exact quiet_back (K2.out _)))
          go_wp2
          go_ret
          exact ⟨by first|rfl|(rw [hr];rfl),below_drewN' hbe _⟩
      · have hr:=HNO.out (fun h=>by have:=h.1.2;rw[<- HX.out,eb] at this;have:=of_decide_eq_true h2;omega)
        have g2:b<=x:=of_decide_eq_true h2
        go_wp2
        go_quiet (fail)
        go_wp2
        go_ret
        exact ⟨by first|rfl|(rw [hr];rfl),below_drewN' hbe _⟩
    · have hr:=HNO.out (fun h=>by have:=h.1.1;rw[<- HX.out] at this;have:=of_decide_eq_true h1;omega)
      have g1:x<0:=of_decide_eq_true h1
      go_wp2
      go_quiet (fail)
      go_wp2
      go_ret
      exact ⟨by first|rfl|(rw [hr];rfl),below_drewN' hbe _⟩
  · go_wp2
    go_ret
    obtain rfl:j=6:=by omega
    exact ⟨by rw[frmTS,HF.out];rfl,hbe⟩
theorem rFormS_of {L:List Int} (hL:L.length=12) (hT:Top L) (w:World):
 Calls Tryz.prog 132 #[supV L] w fun e w'=>e=.returned (.bool (frmS L))/\Below w.heap.size w w':=by
 have h0:frmB (num L 0)=false\/frmB (num L 0)=true:=by cases frmB (num L 0) <;> simp
 have h1:frmSt L=false\/frmSt L=true:=by cases frmSt L <;> simp
 have hm:=hT 0
 have hT':=hT
 have KF:∀ B,frmB (num L 0)=B->_:=fun B h=>rFormed_is (num L 0) hm B h
 have KS:∀ (hb:frmB (num L 0)=true) B,frmSt L=B->_:=fun hb B h=>rStates_is hL hT hb B h
 have hr:frmS L=(frmB (num L 0) && (frmSt L && frmTS L)):=rfl
 have hob:=below_box w (supO L 143)
 obtain ⟨W1,hW1⟩:∃ W1,W1=w.alloc (supO L 143):=⟨_,rfl⟩
 rw[<- hW1] at hob
 match L,hL with
 |[b,st,tg,cu,io,ba,t0,t1,t2,t3,t4,t5],_=>
  have hW2:w.alloc (.cells #[.int .i64 b,.int .i64 st,.int .i64 tg,.int .i64 cu,.int .i64 io,.int .i64 ba,.int .i64 t0,.int .i64 t1,.int .i64 t2,.int .i64 t3,.int .i64 t4,.int .i64 t5] 143)=W1:=by
   rw[hW1];rfl
  have H2:=Lib.hid hW2
  show Calls Tryz.prog 132 #[.agg #[.int .i64 b,.int .i64 st,.int .i64 tg,.int .i64 cu,.int .i64 io,.int .i64 ba,.int .i64 t0,.int .i64 t1,.int .i64 t2,.int .i64 t3,.int .i64 t4,.int .i64 t5]] w fun e w'=>e=.returned (.bool (frmS _))/\Below w.heap.size w w'
  rw[hr]
  change _<=_ at hm
  rcases h0 with h0|h0
  · rw[h0]
    have K0:Hid (∀ w,Calls Tryz.prog 50 #[.int .i64 b] w fun e w'=>e=.returned (.bool false)/\w=w'):=Lib.hid (KF _ h0)
    clear KF KS hr h0 h1 hW1 hW2 hT hm hT'
    go_enter Tryz.func132,Tryz.ntmps132
    go_wp2_with (first|(go_at_call 50;with_reducible refine (K0.out _).mono ?_;rintro e w' ⟨rfl,rfl⟩))
    go_ret
    exact ⟨rfl,below_box _ _⟩
  · rw[h0,Bool.true_and]
    have K0:Hid (∀ w,Calls Tryz.prog 50 #[.int .i64 b] w fun e w'=>e=.returned (.bool true)/\w=w'):=Lib.hid (KF _ h0)
    rcases h1 with h1|h1
    · rw[h1,Bool.false_and]
      have K1:Hid (∀ w,Calls Tryz.prog 170 #[.agg #[.int .i64 b,.int .i64 st,.int .i64 tg,.int .i64 cu,.int .i64 io,.int .i64 ba,.int .i64 t0,.int .i64 t1,.int .i64 t2,.int .i64 t3,.int .i64 t4,.int .i64 t5]] w fun e w'=>e=.returned (.bool false)/\Below w.heap.size w w'):=Lib.hid (KS h0 _ h1)
      clear KF KS hr h0 h1 hW1 hW2 hT hm hT'
      go_enter Tryz.func132,Tryz.ntmps132
      go_wp2_with (first
       |(go_at_call 50;with_reducible refine (K0.out _).mono ?_;rintro e w' ⟨rfl,rfl⟩)
       |(go_at_call 170;rw[H2.out];refine (K1.out _).mono ?_;rintro e w2 ⟨rfl,hb2⟩))
      go_ret
      exact ⟨rfl,hob.trans (hb2.mono hob.size)⟩
    · rw[h1,Bool.true_and]
      have K1:Hid (∀ w,Calls Tryz.prog 170 #[.agg #[.int .i64 b,.int .i64 st,.int .i64 tg,.int .i64 cu,.int .i64 io,.int .i64 ba,.int .i64 t0,.int .i64 t1,.int .i64 t2,.int .i64 t3,.int .i64 t4,.int .i64 t5]] w fun e w'=>e=.returned (.bool true)/\Below w.heap.size w w'):=Lib.hid (KS h0 _ h1)
      exact rLoop_of b st tg cu io ba t0 t1 t2 t3 t4 t5 _ rfl hT' (frm_div h0).2.1 w K0.out K1.out
theorem rFormS_is {L:List Int} (hL:L.length=12) (hT:Top L) (B:Bool) (h:frmS L=B) (w:World):
 Calls Tryz.prog 132 #[supV L] w fun e w'=>e=.returned (.bool B)/\Below w.heap.size w w':=by rw[<- h];exact rFormS_of hL hT w
def EncOut (L:List Int) (w:World) (e:Ending) (w':World):Prop:=
 (frmS L=true/\∃ v,e=.returned (.tuple #[v,.int .i64 0])/\OB w' w.heap.size v (encS L)/\Below w.heap.size w w')\/
 (frmS L=false/\e=.returned (.tuple #[.slice none 0 0,.int .i64 1])/\Below w.heap.size w w')
theorem num_fit {L:List Int} (h:frmS L=true) (j:Nat) (hj:j<12):0<=num L j/\num L j<65536:=by
 have h1:=frm_num h j hj
 have:=pow256_le (wid_le j).2
 have e:(256:Int) ^ 2=65536:=rfl
 omega
theorem pos_le:∀ j,pos j<=8+2*j
 |0=>Nat.le_refl _
 |j+1=>by have:=pos_le j;have:=wid_le j;rw[pos];omega
theorem put_con {L:List Int} (j:Nat) (hj:j<12) (x:Int) (hx:x=num L j) (hx0:0<=x/\x<65536) (k:Nat) (hk:k=wid j) (W:World) (u:Value) (hs:BSl W u (conS L j)):
 Calls Tryz.prog 177 #[u,.int .u64 x,.int .i64 (k:Int)] W (NewB W (conS L (j+1))):=by
 have h1:=wid_le j
 have h2:=pos_le j
 have h3:=conS_length L j
 rw[conS,<- hx,<- hk]
 exact pPut_at hs (by omega) x k k (by omega) (by omega) rfl hx0.1 (by omega)
theorem rput_con {L:List Int} (j:Nat) (hj:j<12) (x:Int) (hx:x=num L j) (hx0:0<=x/\x<65536) (k:Nat) (hk:k=wid j) (W:World) (u:Value) (hs:BSl W u (conS L j)):
 Calls Tryz.prog 127 #[u,.int .u64 x,.int .i64 (k:Int)] W (NewB W (conS L (j+1))):=by
 have h1:=wid_le j
 have h2:=pos_le j
 have h3:=conS_length L j
 rw[conS,<- hx,<- hk]
 exact rPut_at hs (by omega) x k k (by omega) (by omega) rfl hx0.1 (by omega)
theorem bsl_magic (w2:World):BSl (w2.alloc (.cells #[.int .u8 97,.int .u8 115,.int .u8 104,.int .u8 108,.int .u8 97,.int .u8 114,.int .u8 32,.int .u8 49] 5 (8,9))) (.slice (some ⟨w2.heap.size,0,none⟩) 8 8) magicB:=by
 refine ⟨byt_of_mem byt_magic,.inr ⟨_,8,rfl,by decide,fun j hj=>⟨by simp,rfl,?_⟩⟩⟩
 have hj:j<8:=hj
 have hh:(w2.alloc (.cells #[.int .u8 97,.int .u8 115,.int .u8 104,.int .u8 108,.int .u8 97,.int .u8 114,.int .u8 32,.int .u8 49] 5 (8,9))).heap[w2.heap.size]? =some (.cells #[.int .u8 97,.int .u8 115,.int .u8 104,.int .u8 108,.int .u8 97,.int .u8 114,.int .u8 32,.int .u8 49] 5 (8,9)):=by
  show (w2.heap.push _)[w2.heap.size]? =_
  simp
 rw[Nat.zero_add,cell_of_row _ _ _ _ _ _ hh]
 have:j=0\/j=1\/j=2\/j=3\/j=4\/j=5\/j=6\/j=7:=by omega
 rcases this with rfl|rfl|rfl|rfl|rfl|rfl|rfl|rfl <;> rfl
theorem sEnc_yes (b st tg cu io ba t0 t1 t2 t3 t4 t5:Int) (L:List Int) (hLL:L=[b,st,tg,cu,io,ba,t0,t1,t2,t3,t4,t5]) (hf:frmS L=true) (w:World)
 (hF:∀ w,Calls Tryz.prog 188 #[.agg #[.int .i64 b,.int .i64 st,.int .i64 tg,.int .i64 cu,.int .i64 io,.int .i64 ba,.int .i64 t0,.int .i64 t1,.int .i64 t2,.int .i64 t3,.int .i64 t4,.int .i64 t5]] w fun e w'=>e=.returned (.bool true)/\Below w.heap.size w w'):
 Calls Tryz.prog 152 #[.agg #[.int .i64 b,.int .i64 st,.int .i64 tg,.int .i64 cu,.int .i64 io,.int .i64 ba,.int .i64 t0,.int .i64 t1,.int .i64 t2,.int .i64 t3,.int .i64 t4,.int .i64 t5]] w fun e w'=>∃ v,e=.returned (.tuple #[v,.int .i64 0])/\OB w' w.heap.size v (encS L)/\Below w.heap.size w w':=by
 have hob:=below_box w (supO L 118)
 have hh:=heap_alloc_new w (supO L 118)
 obtain ⟨W1,hW1⟩:∃ W1,W1=w.alloc (supO L 118):=⟨_,rfl⟩
 rw[<- hW1] at hob hh
 have hW2:w.alloc (.cells #[.int .i64 b,.int .i64 st,.int .i64 tg,.int .i64 cu,.int .i64 io,.int .i64 ba,.int .i64 t0,.int .i64 t1,.int .i64 t2,.int .i64 t3,.int .i64 t4,.int .i64 t5] 118)=W1:=by rw[hW1,hLL];rfl
 have hlen:L.length=12:=by rw[hLL];rfl
 have hsz:w.heap.size<W1.heap.size:=by rw[hW1];simp
 have H2:=Lib.hid hW2
 have HH:=Lib.hid hh
 have HLE:=Lib.hid hlen
 have HFR:=Lib.hid hf
 have K0:=Lib.hid hF
 clear hF hh hW1 hW2 hLL hlen hf
 have kc:=fun (w:World) (C:Array Value) (n c:Nat)=>Lib.run_convert_bytes_const (P:=Tryz.prog) w 30 5 C n c Tryz.underlying30 Tryz.underlying5
 go_enter Tryz.func152,Tryz.ntmps152
 go_wp2_with (first
  |(go_at_call 188;rw[H2.out];refine (K0.out _).mono ?_;rintro e w2 ⟨rfl,hb2⟩;have hbe:Below w.heap.size w w2:=hob.trans (hb2.mono hob.size))
  |(go_at_call 187;refine (sFields_of _ _).mono ?_;rintro e w4 ⟨v4,rfl,hf4,hb4⟩;obtain ⟨gf,cap,rfl,hgf,hgB,hnc,hcf⟩:=hf4.shape (by decide)))
 have hbm:=bsl_magic w2
 obtain ⟨w3,hw3⟩:∃ w3,w3=w2.alloc (.cells #[.int .u8 97,.int .u8 115,.int .u8 104,.int .u8 108,.int .u8 97,.int .u8 114,.int .u8 32,.int .u8 49] 5 (8,9)):=⟨_,rfl⟩
 rw[<- hw3] at hb4 hbm
 have hb3:Below w2.heap.size w2 w3:=by rw[hw3];exact below_box _ _
 have hb24:Below w2.heap.size w2 w4:=hb3.trans (hb4.mono hb3.size)
 have hb04:Below w.heap.size w w4:=hbe.trans (hb24.mono hbe.size)
 have hlt2:w.heap.size<w2.heap.size:=Nat.lt_of_lt_of_le hsz hb2.size
 have hh4:w4.heap[w.heap.size]? =some (supO L 118):=by
  rw[hb24.block _ hlt2,hb2.block _ hsz];exact HH.out
 have hc4:=fun k hk=>sup_cell hh4 k hk
 rw[HLE.out] at hc4
 have hlt4:w.heap.size<w4.heap.size:=Nat.lt_of_lt_of_le hlt2 hb24.size
 have hm4:=hbm.below hb4
 have HC:=Lib.hid hc4
 have HCF:=Lib.hid hcf
 have HB04:=Lib.hid hb04
 clear hbm hw3 hb3 hb24 hh4 hc4 hcf hb4 hf4 hb2 hbe hob hlt2 hsz kc hb04
 go_loopw [4,14] (fun u i wr=>∃ j:Nat,j<=12/\i=.int .i64 j/\Hid (BSl wr u (conS L j))/\Hid (Below w4.heap.size w4 wr)) (fun _ i _=>12-(intOf i).toNat)
 case atStart=>exact ⟨0,by omega,rfl,hm4,Below.refl _ _⟩
 case round=>
  obtain ⟨j,hj,rfl,HBS,HBR⟩:=hrel
  clear hm4
  by_cases hlt:j<12
  · have hf:=HCF.out j hlt
    have hf1:wr.cell? ⟨gf,j*2,none⟩=some (.pointer (some ⟨w.heap.size,j,none⟩)):=by rw[HBR.out.cell hgf];exact hf.1
    have hf2:wr.cell? ⟨gf,j*2+1,none⟩=some (.int .i64 (wid j:Int)):=by rw[HBR.out.cell hgf];exact hf.2
    have hx0:=num_fit HFR.out j hlt
    obtain ⟨x,hx⟩:∃ x,x=num L j:=⟨_,rfl⟩
    have hcx:wr.cell? ⟨w.heap.size,j,none⟩=some (.int .i64 x):=by rw[HBR.out.cell hlt4,hx];exact HC.out j hlt
    rw[<- hx] at hx0
    have hwd:=wid_le j
    obtain ⟨k,hk⟩:∃ k,k=wid j:=⟨_,rfl⟩
    rw[<- hk] at hwd hf2
    have HX:=Lib.hid hx
    have HK:=Lib.hid hk
    have ej:(j:Int)<12:=by omega
    have HPU:=Lib.hid (put_con (L:=L) j hlt x hx hx0 k hk)
    clear hx hk hf
    have hgw:w.heap.size<wr.heap.size:=Nat.lt_of_lt_of_le hlt4 HBR.out.size
    go_wp2
    have hbx:=below_box wr (.cells #[.pointer (some ⟨w.heap.size,j,none⟩),.int .i64 (k:Int)] 253)
    have hhx:=heap_alloc_new wr (.cells #[.pointer (some ⟨w.heap.size,j,none⟩),.int .i64 (k:Int)] 253)
    generalize wr.alloc (.cells #[.pointer (some ⟨w.heap.size,j,none⟩),.int .i64 (k:Int)] 253)=W5 at hbx hhx |-
    have c0:W5.cell? ⟨wr.heap.size,0,none⟩=some (.pointer (some ⟨w.heap.size,j,none⟩)):=by rw[cell_of_row _ _ _ _ _ _ hhx];rfl
    have c1:W5.cell? ⟨wr.heap.size,1,none⟩=some (.int .i64 (k:Int)):=by rw[cell_of_row _ _ _ _ _ _ hhx];rfl
    have c2:W5.cell? ⟨w.heap.size,j,none⟩=some (.int .i64 x):=by rw[hbx.cell hgw];exact hcx
    have HBX:=Lib.hid (below_drewN' hbx 1)
    have HU:=Lib.hid (HBS.out.below HBX.out)
    change Hid (BSl W5.drew _ _) at HU
    change Hid (Below wr.heap.size wr W5.drew) at HBX
    clear hbx hhx hcx hf1 hf2 hgw
    go_still_tail 8,(by kernel_rfl)
    go_wp2_with (go_at_call 177;refine (HPU.out _ _ HU.out).mono ?_;rintro e w6 ⟨v6,rfl,hob6,hb6⟩)
    have HB6:=Lib.hid (HBX.out.trans (hb6.mono HBX.out.size))
    clear hb6
    go_roundw
    case rel=>exact ⟨j+1,by omega,by go_num,hob6.bsl,HBR.out.trans (HB6.out.mono HBR.out.size)⟩
    case measure=>simp[intOf];omega
  · obtain rfl:j=12:=by omega
    have HSE:=Lib.hid (pSeal_yes HBS.out (by rw[conS_length];decide))
    go_wp2_with (go_at_call 184;refine HSE.out.mono ?_;rintro e w7 ⟨v7,rfl,hob7,hb7⟩)
    go_ret2
    have hB:=HB04.out.trans (HBR.out.mono HB04.out.size)
    exact ⟨v7,rfl,hob7.more hB.size,hB.trans (hb7.mono hB.size)⟩
theorem sEnc_of {L:List Int} (hL:L.length=12) (hT:Top L) (w:World):Calls Tryz.prog 152 #[supV L] w (EncOut L w):=by
 have h0:frmS L=false\/frmS L=true:=by cases frmS L <;> simp
 have KF:∀ B,frmS L=B->_:=fun B h=>sFormed_is hL hT B h
 have hob:=below_box w (supO L 118)
 obtain ⟨W1,hW1⟩:∃ W1,W1=w.alloc (supO L 118):=⟨_,rfl⟩
 rw[<- hW1] at hob
 match L,hL with
 |[b,st,tg,cu,io,ba,t0,t1,t2,t3,t4,t5],_=>
  have hW2:w.alloc (.cells #[.int .i64 b,.int .i64 st,.int .i64 tg,.int .i64 cu,.int .i64 io,.int .i64 ba,.int .i64 t0,.int .i64 t1,.int .i64 t2,.int .i64 t3,.int .i64 t4,.int .i64 t5] 118)=W1:=by rw[hW1];rfl
  have H2:=Lib.hid hW2
  show Calls Tryz.prog 152 #[.agg #[.int .i64 b,.int .i64 st,.int .i64 tg,.int .i64 cu,.int .i64 io,.int .i64 ba,.int .i64 t0,.int .i64 t1,.int .i64 t2,.int .i64 t3,.int .i64 t4,.int .i64 t5]] w (EncOut _ w)
  rcases h0 with h0|h0
  · refine Calls.mono ?_ fun e w' h=>.inr ⟨h0,h⟩
    have K0:Hid (∀ w,Calls Tryz.prog 188 #[.agg #[.int .i64 b,.int .i64 st,.int .i64 tg,.int .i64 cu,.int .i64 io,.int .i64 ba,.int .i64 t0,.int .i64 t1,.int .i64 t2,.int .i64 t3,.int .i64 t4,.int .i64 t5]] w fun e w'=>e=.returned (.bool false)/\Below w.heap.size w w'):=Lib.hid (KF _ h0)
    clear KF h0 hW1 hW2 hT
    go_enter Tryz.func152,Tryz.ntmps152
    go_wp2_with (first|(go_at_call 188;rw[H2.out];refine (K0.out _).mono ?_;rintro e w2 ⟨rfl,hb2⟩))
    go_ret2
    exact ⟨rfl,hob.trans (hb2.mono hob.size)⟩
  · refine Calls.mono ?_ fun e w' h=>.inl ⟨h0,h⟩
    exact sEnc_yes b st tg cu io ba t0 t1 t2 t3 t4 t5 _ rfl h0 w (KF _ h0)
def Kept (w w':World) (g:Nat):Prop:=w'.os=w.os/\w'.tape=w.tape/\w'.output=w.output/\w.heap.size<=w'.heap.size/\∀ k,k<w.heap.size->k≠g->w'.heap[k]? =w.heap[k]?
theorem Kept.refl (w:World) (g:Nat):Kept w w g:=⟨rfl,rfl,rfl,Nat.le_refl _,fun _ _ _=>rfl⟩
theorem Kept.then {w w' w'':World}{g:Nat} (h:Kept w w' g) (hb:Below w'.heap.size w' w''):Kept w w'' g:=
 ⟨hb.os.trans h.1,hb.tape.trans h.2.1,hb.output.trans h.2.2.1,Nat.le_trans h.2.2.2.1 hb.size,fun k hk hne=>by rw[hb.block k (Nat.lt_of_lt_of_le hk h.2.2.2.1)];exact h.2.2.2.2 k hk hne⟩
theorem Kept.wrote {w w' w'':World}{g:Nat} (h:Kept w w' g) (hb:Wrote w' w'' g):Kept w w'' g:=
 ⟨hb.1.trans h.1,hb.2.1.trans h.2.1,hb.2.2.1.trans h.2.2.1,by rw[hb.2.2.2.1];exact h.2.2.2.1,fun k hk hne=>by rw[hb.2.2.2.2 k hne];exact h.2.2.2.2 k hk hne⟩
theorem Kept.below {w w':World}{g B:Nat} (h:Kept w w' g) (hB:B<=g) (hw:B<=w.heap.size):Below B w w':=
 ⟨h.1,h.2.1,h.2.2.1,h.2.2.2.1,fun k hk=>h.2.2.2.2 k (Nat.lt_of_lt_of_le hk hw) (by omega)⟩
theorem Kept.cell {w w':World}{g:Nat} (h:Kept w w' g) {b o:Nat} (hb:b<w.heap.size) (hne:b≠g):w'.cell? ⟨b,o,none⟩=w.cell? ⟨b,o,none⟩:=by
 simp only[World.cell?];rw[h.2.2.2.2 b hb hne]
def rdTo (c:List Int) (j:Nat):List Int:=(List.range 12).map fun i=>if i<j then getV c (pos i) (wid i) else 0
theorem rdTo_length (c:List Int) (j:Nat):(rdTo c j).length=12:=by simp[rdTo]
theorem rdTo_set (c:List Int) (j:Nat) (hj:j<12):(rdTo c j).set j (getV c (pos j) (wid j))=rdTo c (j+1):=by
 apply List.ext_getElem (by rw[List.length_set,rdTo_length,rdTo_length])
 intro i h1 h2
 simp only[rdTo,List.getElem_set,List.getElem_map,List.getElem_range]
 by_cases e:j=i
 · subst e;rw[if_pos rfl,if_pos (by omega)]
 · rw[if_neg e]
   by_cases h:i<j
   · rw[if_pos h,if_pos (by omega)]
   · rw[if_neg h,if_neg (by omega)]
theorem rdTo_full (c:List Int):rdTo c 12=rdS c:=by
 unfold rdTo rdS
 apply List.map_congr_left
 intro i hi
 rw[if_pos (List.mem_range.1 hi)]
theorem supO_set {W:World}{g:Nat}{L:List Int}{T:TypeId} (h:W.heap[g]? =some (supO L T)) (j:Nat) (y:Int):(W.setCell ⟨g,j,none⟩ (.int .i64 y)).heap[g]? =some (supO (L.set j y) T):=by
 rw[heap_setCell_same W g j _ _ _ h]
 simp[supO]
theorem pos_in (j:Nat) (hj:j<12):pos j+wid j<=252:=by
 have:∀ i,i<=12->pos i<=8+2*i:=fun i _=>by
  induction i with
  |zero=>exact Nat.le_refl _
  |succ i ih=>have:=ih (by omega);rw[pos];unfold wid;split <;> omega
 have:=this (j+1) (by omega)
 rw[pos] at this;omega
theorem getN_pos {c:List Int} (hc:c.length=252) (j:Nat) (hj:j<12) (k:Nat) (hk:k=wid j):getN c (pos j:Int) (k:Int)=getV c (pos j) (wid j):=by
 have:=pos_in j hj
 have h1:1<=wid j/\wid j<=2:=by unfold wid;split <;> omega
 unfold getN
 rw[if_pos (by omega),hk];rfl
theorem getV_fit {c:List Int} (hb:Byt c) (j:Nat):0<=getV c (pos j) (wid j)/\getV c (pos j) (wid j)<65536:=by
 have h:=getV_bound (byt_mem hb) (pos j) (wid j)
 have h1:1<=wid j/\wid j<=2:=by unfold wid;split <;> omega
 have:=pow256_le h1.2
 have e:(256:Int) ^ 2=65536:=rfl
 omega
theorem infoS:(Tryz.prog.info? 118).map (·.size)=some 12:=by kernel_rfl
theorem wpList_loadS {ops:Array Oper}{rest:List Oper}{o:Oper}{a:Act}{w:World}{Q:Exit->Act->World->Prop} (hgd:o.guard=none) (x:Operand) (ho:o.op=.load 118 x)
 (g:Nat) (hx:a.eval x=.pointer (some ⟨g,0,none⟩)) (L:List Int) (hL:L.length=12) (T:TypeId) (hg:w.heap[g]? =some (supO L T)) (h:wpList Tryz.prog ops Q rest (a.put o.dst (supV L)) w):wpList Tryz.prog ops Q (o :: rest) a w:=
 wpList_load_row hgd 118 x ho g hx T _ (0,0) _ hg Tryz.underlying118 rfl (by rw[infoS];simp[hL]) h
theorem ints_one (L:List Int):(L.map (Value.int .i64)).toArray.all (·.oneCell')=true:=by
 rw[Array.all_eq_true']
 intro v hv
 simp at hv
 obtain ⟨x,_,rfl⟩:=hv
 rfl
theorem wpList_storeS {ops:Array Oper}{rest:List Oper}{o:Oper}{a:Act}{w:World}{Q:Exit->Act->World->Prop} (hgd:o.guard=none) (x y:Operand) (ho:o.op=.store 118 x y)
 (g:Nat) (hx:a.eval x=.pointer (some ⟨g,0,none⟩)) (L M:List Int) (hy:a.eval y=supV L) (hL:L.length=12) (hM:M.length=12) (T:TypeId) (hg:w.heap[g]? =some (supO M T))
 (h:∀ w',Wrote w w' g->w'.heap[g]? =some (supO L T)->wpList Tryz.prog ops Q rest (a.put o.dst undef) w'):wpList Tryz.prog ops Q (o :: rest) a w:=
 wpList_store_row hgd 118 x y ho g _ hx hy T _ hg (by rw[infoS];simp[hL]) (by simp[hL,hM]) (ints_one L) (h _ (Wrote.setRow _ _ _) (setRow_heap _ _ _ _ _ _ hg))
theorem ret_sup {fn:Func}{p:Tmp} (h:fn.results=#[.cell p 118]) (tmps:Array Value) (w:World) (g:Nat) (T:TypeId) (L:List Int) (hL:L.length=12) (hp:tmps.getD p undef=.pointer (some ⟨g,0,none⟩)) (hg:w.heap[g]? =some (supO L T)):
 (results fn tmps).run Tryz.prog w=.ok (supV L) w:=
 results_cell_row h tmps w g T _ (0,0) _ hp hg Tryz.underlying118 rfl (by rw[infoS];simp[hL])
theorem sRead_of {w:World}{v:Value}{c:List Int} (hs:BSl w v c) (hc:c.length=252):Calls Tryz.prog 151 #[v] w fun e w'=>e=.returned (supV (rdS c))/\Below w.heap.size w w':=by
 have HS:=Lib.hid hs
 have HCL:=Lib.hid hc
 clear hs hc
 have hw2:∃ w2,w2=(w.alloc (supO (rdTo c 0) 118)).alloc (supO (rdTo c 0) 118):=⟨_,rfl⟩
 obtain ⟨w2,hw2⟩:=hw2
 have h2:(w.alloc (.cells #[.int .i64 0,.int .i64 0,.int .i64 0,.int .i64 0,.int .i64 0,.int .i64 0,.int .i64 0,.int .i64 0,.int .i64 0,.int .i64 0,.int .i64 0,.int .i64 0] 118)).alloc (.cells #[.int .i64 0,.int .i64 0,.int .i64 0,.int .i64 0,.int .i64 0,.int .i64 0,.int .i64 0,.int .i64 0,.int .i64 0,.int .i64 0,.int .i64 0,.int .i64 0] 118)=w2:=by rw[hw2];rfl
 have hb2:Below w.heap.size w w2:=by rw[hw2];exact ((Below.refl _ _).alloc (Nat.le_refl _) _).alloc (by simp) _
 have hr0:w2.heap[w.heap.size]? =some (supO (rdTo c 0) 118):=by rw[hw2,@heap_alloc_old _ _ _ (by simp)];exact heap_alloc_new _ _
 have hr1:w2.heap[w.heap.size+1]? =some (supO (rdTo c 0) 118):=by rw[hw2];exact heap_alloc2_new _ _ _
 have hz2:w2.heap.size=w.heap.size+2:=by rw[hw2];simp
 have H2:=Lib.hid h2
 have HR0:=Lib.hid hr0
 have HR1:=Lib.hid hr1
 clear h2 hw2 hr0 hr1
 go_enter Tryz.func151,Tryz.ntmps151
 go_wp2_with (first
  |(go_at_call 187;rw[H2.out];refine (sFields_of _ _).mono ?_;rintro e w4 ⟨v4,rfl,hf4,hb4⟩;obtain ⟨gf,cap,rfl,hgf,hgB,hnc,hcf⟩:=hf4.shape (by decide)))
 obtain ⟨gs,hgs⟩:∃ gs,gs=w.heap.size+1:=⟨_,rfl⟩
 have hgs4:w4.heap[gs]? =some (supO (rdTo c 0) 118):=by rw[hgs,hb4.block _ (by omega)];exact HR1.out
 have hgr4:w4.heap[w.heap.size]? =some (supO (rdTo c 0) 118):=by rw[hb4.block _ (by omega)];exact HR0.out
 have hb04:Below w.heap.size w w4:=hb2.trans (hb4.mono (by omega))
 have hgsl:gs<w4.heap.size:=(Array.getElem?_eq_some_iff.1 hgs4).1
 have hgfs:gf≠gs:=by omega
 have hwl:w.heap.size<w4.heap.size:=by omega
 rw[<- hgs] at hcf |-
 have HG:=Lib.hid hgs
 have HCF:=Lib.hid hcf
 have HB04:=Lib.hid hb04
 have HGR:=Lib.hid hgr4
 clear hgs hcf hb04 hgr4 hb4 hf4 hz2 hb2 hnc hgB
 go_loopw [4,11] (fun at_ i wr=>∃ j:Nat,j<=12/\i=.int .i64 j/\at_=.int .i64 (pos j:Int)/\Hid (wr.heap[gs]? =some (supO (rdTo c j) 118))/\Hid (Kept w4 wr gs)) (fun _ i _=>12-(intOf i).toNat)
 case atStart=>exact ⟨0,by omega,rfl,rfl,hgs4,Kept.refl _ _⟩
 case round=>
  obtain ⟨j,hj,rfl,rfl,HRW,HKP⟩:=hrel
  clear hgs4
  by_cases hlt:j<12
  · have hf:=HCF.out j hlt
    have hf1:wr.cell? ⟨gf,j*2,none⟩=some (.pointer (some ⟨gs,j,none⟩)):=by rw[HKP.out.cell hgf hgfs];exact hf.1
    have hf2:wr.cell? ⟨gf,j*2+1,none⟩=some (.int .i64 (wid j:Int)):=by rw[HKP.out.cell hgf hgfs];exact hf.2
    have hy0:=getV_fit HS.out.1 j
    have hwd:1<=wid j/\wid j<=2:=by unfold wid;split <;> omega
    have hps:=pos_in j hlt
    have hgn:=getN_pos HCL.out j hlt _ rfl
    obtain ⟨y,hy⟩:∃ y,y=getV c (pos j) (wid j):=⟨_,rfl⟩
    rw[<- hy] at hy0 hgn
    have hnx:pos (j+1)=pos j+wid j:=rfl
    obtain ⟨P,hP⟩:∃ P,P=pos j:=⟨_,rfl⟩
    obtain ⟨k,hk⟩:∃ k,k=wid j:=⟨_,rfl⟩
    have hset:=rdTo_set c j hlt
    rw[<- hy] at hset
    rw[<- hP] at hps hgn hnx |-
    rw[<- hk] at hwd hps hgn hnx hf2
    have HGET:Hid (∀ W,BSl W v c->Calls Tryz.prog 144 #[v,.int .i64 (P:Int),.int .i64 (k:Int)] W fun e w'=>∃ B,e=.returned (.tuple #[.int .u64 y,.bool B])/\W=w'):=Lib.hid fun W h=>by
     have:=pGet_any h (by have:=HCL.out;omega) (P:Int) (k:Int) (by omega) (by omega)
     rw[hgn] at this
     exact this.mono fun e w' ⟨h1,h2⟩=>⟨_,h1,h2⟩
    have HSET:=Lib.hid hset
    have ej:(j:Int)<12:=by omega
    have hgw:gs<wr.heap.size:=Nat.lt_of_lt_of_le hgsl HKP.out.2.2.2.1
    have HNX:=Lib.hid hnx
    have hbw:=HB04.out.trans (HKP.out.below (B:=w.heap.size) (by have:=HG.out;omega) (by omega))
    have HBW:=Lib.hid hbw
    clear hy hP hk hset hgn hf hnx hbw
    have hwsz:wr.heap.size≠gs:=by omega
    go_wp2_with (first
     |(go_at_call 144
       have hb5:=below_box wr (.cells #[.pointer (some ⟨gs,j,none⟩),.int .i64 (k:Int)] 253)
       have hh5:=heap_alloc_new wr (.cells #[.pointer (some ⟨gs,j,none⟩),.int .i64 (k:Int)] 253)
       generalize wr.alloc (.cells #[.pointer (some ⟨gs,j,none⟩),.int .i64 (k:Int)] 253)=W5 at hb5 hh5 |-
       have hr5:W5.heap[gs]? =some (supO (rdTo c j) 118):=(hb5.block _ hgw).trans HRW.out
       have c0:W5.cell? ⟨wr.heap.size,0,none⟩=some (.pointer (some ⟨gs,j,none⟩)):=by rw[cell_of_row _ _ _ _ _ _ hh5];rfl
       have c1:W5.cell? ⟨wr.heap.size,1,none⟩=some (.int .i64 (k:Int)):=by rw[cell_of_row _ _ _ _ _ _ hh5];rfl
       have ck:=sup_cell hr5 j (by rw[rdTo_length];exact hlt)
       have fk:W5.frozen? ⟨gs,j,none⟩=false:=by simp[World.frozen?,hr5,supO]
       have hw6:=Wrote.setCell W5 gs j (.int .i64 y)
       have c6:(W5.setCell ⟨gs,j,none⟩ (.int .i64 y)).cell? ⟨wr.heap.size,1,none⟩=some (.int .i64 (k:Int)):=by
        simp only[World.cell?];rw[hw6.2.2.2.2 _ hwsz];exact c1
       have hr6:=supO_set hr5 j y
       rw[HSET.out] at hr6
       have HK6:=Lib.hid ((HKP.out.then hb5).wrote hw6)
       have HR6:=Lib.hid hr6
       have HB5:=Lib.hid (HBW.out.trans (hb5.mono HBW.out.size))
       clear hb5 hh5 hr5 hr6 hw6 hf1 hf2 hwsz
       refine (HGET.out _ (HS.out.below HB5.out)).mono ?_
       rintro e w' ⟨B,rfl,rfl⟩))
    go_roundw
    case rel=>exact ⟨j+1,by omega,by go_num,by rw[HNX.out];go_num,HR6.out,HK6.out⟩
    case measure=>simp[intOf];omega
  · obtain rfl:j=12:=by omega
    have hgrw:wr.heap[w.heap.size]? =some (supO (rdTo c 0) 118):=by rw[HKP.out.2.2.2.2 _ hwl (by have:=HG.out;omega)];exact HGR.out
    have hlen:=rdTo_length c 12
    have hlen0:=rdTo_length c 0
    have HBW:=Lib.hid (HB04.out.trans (HKP.out.below (B:=w.heap.size) (by have:=HG.out;omega) (by omega)))
    go_wp2_with (first
     |(with_reducible refine wpList_loadS rfl _ rfl gs rfl _ hlen _ HRW.out ?_)
     |(with_reducible refine wpList_storeS rfl _ _ rfl w.heap.size rfl _ _ rfl hlen hlen0 _ hgrw ?_;intro w7 hw7 hr7))
    refine bodyPost_ret (ret_sup rfl _ _ w.heap.size _ _ hlen rfl hr7) rfl ⟨by rw[rdTo_full],HBW.out.trans (hw7.below (Nat.le_refl _) |>.mono (Nat.le_refl _))⟩
def zeroS:List Int:=List.replicate 12 0
def DecOut (l:List Int) (w:World) (e:Ending) (w':World):Prop:=
 Below w.heap.size w w'/\((hasS l/\e=.returned (.tuple #[supV (decS l),.int .i64 0]))\/(¬ hasS l/\e=.returned (.tuple #[supV zeroS,.int .i64 18])))
theorem top_rd {c:List Int} (hb:Byt c):Top (rdS c):=fun i=>by
 by_cases hi:i<12
 · rw[num_rdS _ _ hi];have:=getV_fit hb i;omega
 · unfold num;rw[List.getD_eq_getElem?_getD,List.getElem?_eq_none (by rw[rdS_length];omega)];decide
theorem sEnc_no {L:List Int} (hL:L.length=12) (hT:Top L) (h:frmS L=false) (w:World):Calls Tryz.prog 152 #[supV L] w fun e w'=>e=.returned (.tuple #[.slice none 0 0,.int .i64 1])/\Below w.heap.size w w':=
 (sEnc_of hL hT w).mono fun e w' ho=>ho.elim (fun h1=>by rw[h] at h1;cases h1.1) fun h1=>h1.2
theorem sEnc_is {L:List Int} (hL:L.length=12) (hT:Top L) (h:frmS L=true) (w:World):Calls Tryz.prog 152 #[supV L] w fun e w'=>∃ v,e=.returned (.tuple #[v,.int .i64 0])/\OB w' w.heap.size v (encS L)/\Below w.heap.size w w':=
 (sEnc_of hL hT w).mono fun e w' ho=>ho.elim (fun h1=>h1.2) fun h1=>by rw[h] at h1;cases h1.1
theorem ret_sup2 {fn:Func}{p u:Tmp} (h:fn.results=#[.cell p 118,.tmp u]) (tmps:Array Value) (w:World) (g:Nat) (T:TypeId) (L:List Int) (x:Value) (hL:L.length=12) (hp:tmps.getD p undef=.pointer (some ⟨g,0,none⟩)) (hg:w.heap[g]? =some (supO L T)) (hx:tmps.getD u undef=x):
 (results fn tmps).run Tryz.prog w=.ok (.tuple #[supV L,x]) w:=by
 rw[results_cell_tmp h,hp,hx]
 simp only[asAddr,Sem.run_pure,Result.andThen_ok]
 rw[run_loadVar_row w g T 118 _ (0,0) _ hg Tryz.underlying118 rfl (by rw[infoS];simp[hL])]
 rfl
theorem sDec_not {w:World}{v:Value}{l:List Int} (hs:BSl w v l) (h:¬ sealed l):Calls Tryz.prog 109 #[v] w fun e w'=>e=.returned (.tuple #[supV zeroS,.int .i64 18])/\Below w.heap.size w w':=by
 have hb1:=below_box w (supO zeroS 118)
 have hr1:=heap_alloc_new w (supO zeroS 118)
 obtain ⟨w1,hw1⟩:∃ w1,w1=w.alloc (supO zeroS 118):=⟨_,rfl⟩
 rw[<- hw1] at hb1 hr1
 have h1:w.alloc (.cells #[.int .i64 0,.int .i64 0,.int .i64 0,.int .i64 0,.int .i64 0,.int .i64 0,.int .i64 0,.int .i64 0,.int .i64 0,.int .i64 0,.int .i64 0,.int .i64 0] 118)=w1:=by rw[hw1];rfl
 have hz1:w.heap.size<w1.heap.size:=by rw[hw1];simp
 have H1:=Lib.hid h1
 have HR1:=Lib.hid hr1
 have HO:=Lib.hid (pOpen_not (hs.below hb1) h)
 clear hs h h1 hw1 hr1
 go_enter Tryz.func109,Tryz.ntmps109
 go_wp2_with (first
  |(go_at_call 150;rw[H1.out];refine HO.out.mono ?_;rintro e w2 ⟨rfl,hb2⟩
    have hr2:w2.heap[w.heap.size]? =some (supO zeroS 118):=(hb2.block _ hz1).trans HR1.out)
  |(with_reducible refine wpList_storeS rfl (.tmp 2) (.tmp 16) rfl w.heap.size rfl zeroS zeroS rfl rfl rfl _ hr2 ?_;intro w3 hw3 hr3))
 exact bodyPost_ret (ret_sup2 rfl _ _ w.heap.size _ _ _ rfl rfl hr3 rfl) rfl ⟨rfl,(hb1.trans (hb2.mono hb1.size)).trans (hw3.below (Nat.le_refl _))⟩
theorem sDec_bad {w:World}{v:Value}{l:List Int} (hs:BSl w v l) (h:sealed l) (hf:frmS (rdS (l.take 252))=false):Calls Tryz.prog 109 #[v] w fun e w'=>e=.returned (.tuple #[supV zeroS,.int .i64 18])/\Below w.heap.size w w':=by
 have hb1:=below_box w (supO zeroS 118)
 have hr1:=heap_alloc_new w (supO zeroS 118)
 obtain ⟨w1,hw1⟩:∃ w1,w1=w.alloc (supO zeroS 118):=⟨_,rfl⟩
 rw[<- hw1] at hb1 hr1
 have h1:w.alloc (.cells #[.int .i64 0,.int .i64 0,.int .i64 0,.int .i64 0,.int .i64 0,.int .i64 0,.int .i64 0,.int .i64 0,.int .i64 0,.int .i64 0,.int .i64 0,.int .i64 0] 118)=w1:=by rw[hw1];rfl
 have hz1:w.heap.size<w1.heap.size:=by rw[hw1];simp
 have H1:=Lib.hid h1
 have HR1:=Lib.hid hr1
 have HO:=Lib.hid (pOpen_is (hs.below hb1) h)
 have hlt:=take_len h
 have htop:=top_rd (byt_take hs.1 252)
 have hrl:=rdS_length (l.take 252)
 obtain ⟨c,hc⟩:∃ c,c=l.take 252:=⟨_,rfl⟩
 rw[<- hc] at hlt HO hf htop hrl
 obtain ⟨L,hL⟩:∃ L,L=rdS c:=⟨_,rfl⟩
 rw[<- hL] at hf htop hrl
 have HL:=Lib.hid hL
 have HLT:=Lib.hid hlt
 have HEN:=Lib.hid (sEnc_no hrl htop hf)
 clear hs h h1 hw1 hr1 hc hf htop hlt hL
 go_enter Tryz.func109,Tryz.ntmps109
 go_wp2_with (first
  |(go_at_call 150;rw[H1.out];refine HO.out.mono ?_;rintro e w2 ⟨v2,rfl,hob2,hb2⟩)
  |(go_at_call 151;refine (sRead_of hob2.bsl HLT.out).mono ?_;rw[<- HL.out];rintro e w3 ⟨rfl,hb3⟩)
  |(with_reducible refine wpList_storeS rfl (.tmp 6) (.tmp 18) rfl w3.heap.size rfl L zeroS rfl hrl rfl _ (heap_alloc_new w3 _) ?_
    intro w5 hw5 hr5
    have hb5:Below w3.heap.size w3 w5:=(below_box w3 _).trans (hw5.below (Nat.le_refl _)))
  |(with_reducible refine wpList_loadS rfl (.tmp 6) rfl w3.heap.size rfl L hrl _ hr5 ?_)
  |(go_at_call 152;refine (HEN.out _).mono ?_;rintro e w6 ⟨rfl,hb6⟩
    have hz2:=Nat.lt_of_lt_of_le hz1 hb2.size
    have hz3:=Nat.lt_of_lt_of_le hz2 hb3.size
    have hz5:=Nat.lt_of_lt_of_le hz3 hb5.size
    have hr6:w6.heap[w.heap.size]? =some (supO zeroS 118):=by rw[hb6.block _ hz5,hb5.block _ hz3,hb3.block _ hz2,hb2.block _ hz1];exact HR1.out
    have hb26:Below w2.heap.size w2 w6:=(hb3.trans (hb5.mono hb3.size)).trans (hb6.mono (Nat.le_trans hb3.size hb5.size))
    have hb06:Below w.heap.size w w6:=(hb1.trans (hb2.mono hb1.size)).trans (hb26.mono (Nat.le_trans hb1.size hb2.size))
    clear hz2 hz3 hz5 hb26)
  |(with_reducible refine wpList_storeS rfl (.tmp 2) (.tmp 32) rfl w.heap.size rfl zeroS zeroS rfl rfl rfl _ hr6 ?_;intro w7 hw7 hr7))
 exact bodyPost_ret (ret_sup2 rfl _ _ w.heap.size _ _ _ rfl rfl hr7 rfl) rfl ⟨rfl,hb06.trans (hw7.below (Nat.le_refl _))⟩
theorem sDec_good {w:World}{v:Value}{l:List Int} (hs:BSl w v l) (h:sealed l) (hf:frmS (rdS (l.take 252))=true) (heq:encS (rdS (l.take 252))=l):Calls Tryz.prog 109 #[v] w fun e w'=>e=.returned (.tuple #[supV (rdS (l.take 252)),.int .i64 0])/\Below w.heap.size w w':=by
 have hb1:=below_box w (supO zeroS 118)
 have hr1:=heap_alloc_new w (supO zeroS 118)
 obtain ⟨w1,hw1⟩:∃ w1,w1=w.alloc (supO zeroS 118):=⟨_,rfl⟩
 rw[<- hw1] at hb1 hr1
 have h1:w.alloc (.cells #[.int .i64 0,.int .i64 0,.int .i64 0,.int .i64 0,.int .i64 0,.int .i64 0,.int .i64 0,.int .i64 0,.int .i64 0,.int .i64 0,.int .i64 0,.int .i64 0] 118)=w1:=by rw[hw1];rfl
 have hz1:w.heap.size<w1.heap.size:=by rw[hw1];simp
 have H1:=Lib.hid h1
 have HR1:=Lib.hid hr1
 have HS:=Lib.hid hs
 have HO:=Lib.hid (pOpen_is (hs.below hb1) h)
 have hlt:=take_len h
 have htop:=top_rd (byt_take hs.1 252)
 have hrl:=rdS_length (l.take 252)
 obtain ⟨c,hc⟩:∃ c,c=l.take 252:=⟨_,rfl⟩
 rw[<- hc] at hlt HO hf htop hrl heq |-
 obtain ⟨L,hL⟩:∃ L,L=rdS c:=⟨_,rfl⟩
 rw[<- hL] at hf htop hrl heq |-
 have HL:=Lib.hid hL
 have HLT:=Lib.hid hlt
 have HEN:=Lib.hid (sEnc_is hrl htop hf)
 have HD:Hid (decide (encS L=l)=true):=Lib.hid (decide_eq_true heq)
 clear hs h h1 hw1 hr1 hc hf htop hlt hL heq
 go_enter Tryz.func109,Tryz.ntmps109
 go_wp2_with (first
  |(go_at_call 150;rw[H1.out];refine HO.out.mono ?_;rintro e w2 ⟨v2,rfl,hob2,hb2⟩)
  |(go_at_call 151;refine (sRead_of hob2.bsl HLT.out).mono ?_;rw[<- HL.out];rintro e w3 ⟨rfl,hb3⟩)
  |(with_reducible refine wpList_storeS rfl (.tmp 6) (.tmp 18) rfl w3.heap.size rfl L zeroS rfl hrl rfl _ (heap_alloc_new w3 _) ?_
    intro w5 hw5 hr5
    have hb5:Below w3.heap.size w3 w5:=(below_box w3 _).trans (hw5.below (Nat.le_refl _)))
  |(with_reducible refine wpList_loadS rfl (.tmp 6) rfl w3.heap.size rfl L hrl _ hr5 ?_)
  |(go_at_call 152;refine (HEN.out _).mono ?_;rintro e w6 ⟨v6,rfl,hob6,hb6⟩
    have hz2:=Nat.lt_of_lt_of_le hz1 hb2.size
    have hz3:=Nat.lt_of_lt_of_le hz2 hb3.size
    have hz5:=Nat.lt_of_lt_of_le hz3 hb5.size
    have hr6:w6.heap[w.heap.size]? =some (supO zeroS 118):=by rw[hb6.block _ hz5,hb5.block _ hz3,hb3.block _ hz2,hb2.block _ hz1];exact HR1.out
    have hrs6:w6.heap[w3.heap.size]? =some (supO L 118):=by rw[hb6.block _ (Array.getElem?_eq_some_iff.1 hr5).1];exact hr5
    have hb26:Below w2.heap.size w2 w6:=(hb3.trans (hb5.mono hb3.size)).trans (hb6.mono (Nat.le_trans hb3.size hb5.size))
    have hb06:Below w.heap.size w w6:=(hb1.trans (hb2.mono hb1.size)).trans (hb26.mono (Nat.le_trans hb1.size hb2.size))
    clear hz2 hz3 hz5 hb26)
  |(go_at_call 99;refine (bEqual_of hob6.bsl (HS.out.below hb06)).mono ?_;rw[HD.out];rintro e w' ⟨rfl,rfl⟩)
  |(with_reducible refine wpList_loadS rfl (.tmp 6) rfl w3.heap.size rfl L hrl _ hrs6 ?_)
  |(with_reducible refine wpList_storeS rfl (.tmp 2) (.tmp 33) rfl w.heap.size rfl L zeroS rfl hrl rfl _ hr6 ?_;intro w7 hw7 hr7))
 exact bodyPost_ret (ret_sup2 rfl _ _ w.heap.size _ _ _ hrl rfl hr7 rfl) rfl ⟨rfl,hb06.trans (hw7.below (Nat.le_refl _))⟩
theorem sDec_other {w:World}{v:Value}{l:List Int} (hs:BSl w v l) (h:sealed l) (hf:frmS (rdS (l.take 252))=true) (heq:encS (rdS (l.take 252))≠l):Calls Tryz.prog 109 #[v] w fun e w'=>e=.returned (.tuple #[supV zeroS,.int .i64 18])/\Below w.heap.size w w':=by
 have hb1:=below_box w (supO zeroS 118)
 have hr1:=heap_alloc_new w (supO zeroS 118)
 obtain ⟨w1,hw1⟩:∃ w1,w1=w.alloc (supO zeroS 118):=⟨_,rfl⟩
 rw[<- hw1] at hb1 hr1
 have h1:w.alloc (.cells #[.int .i64 0,.int .i64 0,.int .i64 0,.int .i64 0,.int .i64 0,.int .i64 0,.int .i64 0,.int .i64 0,.int .i64 0,.int .i64 0,.int .i64 0,.int .i64 0] 118)=w1:=by rw[hw1];rfl
 have hz1:w.heap.size<w1.heap.size:=by rw[hw1];simp
 have H1:=Lib.hid h1
 have HR1:=Lib.hid hr1
 have HS:=Lib.hid hs
 have HO:=Lib.hid (pOpen_is (hs.below hb1) h)
 have hlt:=take_len h
 have htop:=top_rd (byt_take hs.1 252)
 have hrl:=rdS_length (l.take 252)
 obtain ⟨c,hc⟩:∃ c,c=l.take 252:=⟨_,rfl⟩
 rw[<- hc] at hlt HO hf htop hrl heq
 obtain ⟨L,hL⟩:∃ L,L=rdS c:=⟨_,rfl⟩
 rw[<- hL] at hf htop hrl heq
 have HL:=Lib.hid hL
 have HLT:=Lib.hid hlt
 have HEN:=Lib.hid (sEnc_is hrl htop hf)
 have HD:Hid (decide (encS L=l)=false):=Lib.hid (decide_eq_false heq)
 clear hs h h1 hw1 hr1 hc hf htop hlt hL heq
 go_enter Tryz.func109,Tryz.ntmps109
 go_wp2_with (first
  |(go_at_call 150;rw[H1.out];refine HO.out.mono ?_;rintro e w2 ⟨v2,rfl,hob2,hb2⟩)
  |(go_at_call 151;refine (sRead_of hob2.bsl HLT.out).mono ?_;rw[<- HL.out];rintro e w3 ⟨rfl,hb3⟩)
  |(with_reducible refine wpList_storeS rfl (.tmp 6) (.tmp 18) rfl w3.heap.size rfl L zeroS rfl hrl rfl _ (heap_alloc_new w3 _) ?_
    intro w5 hw5 hr5
    have hb5:Below w3.heap.size w3 w5:=(below_box w3 _).trans (hw5.below (Nat.le_refl _)))
  |(with_reducible refine wpList_loadS rfl (.tmp 6) rfl w3.heap.size rfl L hrl _ hr5 ?_)
  |(go_at_call 152;refine (HEN.out _).mono ?_;rintro e w6 ⟨v6,rfl,hob6,hb6⟩
    have hz2:=Nat.lt_of_lt_of_le hz1 hb2.size
    have hz3:=Nat.lt_of_lt_of_le hz2 hb3.size
    have hz5:=Nat.lt_of_lt_of_le hz3 hb5.size
    have hr6:w6.heap[w.heap.size]? =some (supO zeroS 118):=by rw[hb6.block _ hz5,hb5.block _ hz3,hb3.block _ hz2,hb2.block _ hz1];exact HR1.out
    have hrs6:w6.heap[w3.heap.size]? =some (supO L 118):=by rw[hb6.block _ (Array.getElem?_eq_some_iff.1 hr5).1];exact hr5
    have hb26:Below w2.heap.size w2 w6:=(hb3.trans (hb5.mono hb3.size)).trans (hb6.mono (Nat.le_trans hb3.size hb5.size))
    have hb06:Below w.heap.size w w6:=(hb1.trans (hb2.mono hb1.size)).trans (hb26.mono (Nat.le_trans hb1.size hb2.size))
    clear hz2 hz3 hz5 hb26)
  |(go_at_call 99;refine (bEqual_of hob6.bsl (HS.out.below hb06)).mono ?_;rw[HD.out];rintro e w' ⟨rfl,rfl⟩)
  |(with_reducible refine wpList_storeS rfl (.tmp 2) (.tmp 32) rfl w.heap.size rfl zeroS zeroS rfl rfl rfl _ hr6 ?_;intro w7 hw7 hr7))
 exact bodyPost_ret (ret_sup2 rfl _ _ w.heap.size _ _ _ rfl rfl hr7 rfl) rfl ⟨rfl,hb06.trans (hw7.below (Nat.le_refl _))⟩
theorem sDec_of {w:World}{v:Value}{l:List Int} (hs:BSl w v l):Calls Tryz.prog 109 #[v] w (DecOut l w):=by
 by_cases h:sealed l
 · by_cases hf:frmS (rdS (l.take 252))=true
   · by_cases heq:encS (rdS (l.take 252))=l
     · exact (sDec_good hs h hf heq).mono fun e w' ⟨h1,h2⟩=>⟨h2,.inl ⟨⟨h,hf,heq⟩,h1⟩⟩
     · exact (sDec_other hs h hf heq).mono fun e w' ⟨h1,h2⟩=>⟨h2,.inr ⟨fun hh=>heq hh.2.2,h1⟩⟩
   · exact (sDec_bad hs h (by simpa using hf)).mono fun e w' ⟨h1,h2⟩=>⟨h2,.inr ⟨fun hh=>hf hh.2.1,h1⟩⟩
 · exact (sDec_not hs h).mono fun e w' ⟨h1,h2⟩=>⟨h2,.inr ⟨fun hh=>h hh.1,h1⟩⟩
def cF (x:Value × Int):List Value:=[x.1,.int .i64 x.2]
theorem cF_len (x:Value × Int):(cF x).length=2:=rfl
def fl7 (g j:Nat):Value × Int:=(.pointer (some ⟨g,j,none⟩),(w7 j:Int))
def fldK7 (g k:Nat):List (Value × Int):=(List.range 14).map fun j=>if j<k then fl7 g j else (.pointer none,0)
theorem fldK7_length (g k:Nat):(fldK7 g k).length=14:=by simp[fldK7]
theorem fldK7_set (g k:Nat):(fldK7 g k).set k (fl7 g k)=fldK7 g (k+1):=by
 apply List.ext_getElem (by rw[List.length_set,fldK7_length,fldK7_length])
 intro i h1 h2
 simp only[fldK7,List.getElem_set,List.getElem_map,List.getElem_range]
 by_cases e:k=i
 · subst e;rw[if_pos rfl,if_pos (by omega)]
 · rw[if_neg e]
   by_cases h:i<k
   · rw[if_pos h,if_pos (by omega)]
   · rw[if_neg h,if_neg (by omega)]
def fldC (g k:Nat):List Value:=(fldK7 g k).flatMap cF
theorem fldC_length (g k:Nat):(fldC g k).length=28:=by rw[fldC,flat_length (s:=2) (fun x _=>cF_len x),fldK7_length]
theorem fldC_one (g k:Nat):∀ v∈fldC g k,v.oneCell'=true:=fun v hv=>by
 obtain ⟨x,hx,hv⟩:=List.mem_flatMap.1 hv
 obtain ⟨j,_,rfl⟩:=List.mem_map.1 hx
 simp[cF] at hv
 rcases hv with rfl|rfl
 · split <;> rfl
 · rfl
theorem infoF7:(Tryz.prog.info? 245).map (·.size)=some 2:=by kernel_rfl
theorem infoFs7:(Tryz.prog.info? 246).map (·.size)=some 28:=by kernel_rfl
theorem ret_fs7 {fn:Func}{p:Tmp} (h:fn.results=#[.cell p 246]) (tmps:Array Value) (w:World) (g:Nat) (T:TypeId) (C:List Value) (hC:C.length=28) (hp:tmps.getD p undef=.pointer (some ⟨g,0,none⟩)) (hg:w.heap[g]? =some (.cells C.toArray T (0,0))):
 (results fn tmps).run Tryz.prog w=.ok (.agg C.toArray) w:=
 results_cell_row h tmps w g T _ (0,0) _ hp hg Tryz.underlying246 rfl (by rw[infoFs7];simp[hC])
theorem wpList_store_fs {ops:Array Oper}{rest:List Oper}{o:Oper}{a:Act}{w:World}{Q:Exit->Act->World->Prop} (hgd:o.guard=none) (x y:Operand) (ho:o.op=.store 246 x y)
 (g:Nat) (hx:a.eval x=.pointer (some ⟨g,0,none⟩)) (C D:List Value) (hy:a.eval y=.agg C.toArray) (hC:C.length=28) (hD:D.length=28) (h1:∀ v∈C,v.oneCell'=true) (T:TypeId) (hg:w.heap[g]? =some (.cells D.toArray T (0,0)))
 (h:∀ w',Wrote w w' g->w'.heap[g]? =some (.cells C.toArray T (0,0))->wpList Tryz.prog ops Q rest (a.put o.dst undef) w'):wpList Tryz.prog ops Q (o :: rest) a w:=
 wpList_store_row hgd 246 x y ho g _ hx hy T _ hg (by rw[infoFs7];simp[hC]) (by simp[hC,hD]) (all_oneCell_toArray h1) (h _ (Wrote.setRow _ _ _) (setRow_heap _ _ _ _ _ _ hg))
theorem wpList_store_f7 {ops:Array Oper}{rest:List Oper}{op:Oper}{a:Act}{w:World}{Q:Exit->Act->World->Prop} (hgd:op.guard=none) (x y:Operand) (ho:op.op=.store 245 x y)
 (b g k:Nat) (hk:k<14) (m:Int) (hm:m=(w7 k:Int)) (hx:a.eval x=.pointer (some ⟨b,k*2,none⟩)) (hy:a.eval y=.agg #[.pointer (some ⟨g,k,none⟩),.int .i64 m])
 (hg:w.heap[b]? =some (.cells (fldC g k).toArray 246 (0,0)))
 (h:∀ w',Wrote w w' b->w'.heap[b]? =some (.cells (fldC g (k+1)).toArray 246 (0,0))->wpList Tryz.prog ops Q rest (a.put op.dst undef) w'):wpList Tryz.prog ops Q (op :: rest) a w:=by
 subst hm
 refine wpList_store_flat (f:=cF) (s:=2) hgd 245 x y ho infoF7 b k (fldK7 g k) (fl7 g k) 246 hx hy hg (by rw[fldK7_length];exact hk) (fun x _=>cF_len x) (cF_len _) ?_ fun w' h1 h2=>h w' h1 ?_
 · intro v hv
   simp[cF,fl7] at hv
   rcases hv with rfl|rfl <;> rfl
 · rw[fldK7_set] at h2;exact h2
theorem fldC_zero (g:Nat):fldC g 0=[.pointer none,.int .i64 0,.pointer none,.int .i64 0,.pointer none,.int .i64 0,.pointer none,.int .i64 0,.pointer none,.int .i64 0,.pointer none,.int .i64 0,.pointer none,.int .i64 0,.pointer none,.int .i64 0,.pointer none,.int .i64 0,.pointer none,.int .i64 0,.pointer none,.int .i64 0,.pointer none,.int .i64 0,.pointer none,.int .i64 0,.pointer none,.int .i64 0]:=rfl
theorem fldC_three (g:Nat):fldC g 3=[.pointer (some ⟨g,0,none⟩),.int .i64 1,.pointer (some ⟨g,1,none⟩),.int .i64 1,.pointer (some ⟨g,2,none⟩),.int .i64 4,.pointer none,.int .i64 0,.pointer none,.int .i64 0,.pointer none,.int .i64 0,.pointer none,.int .i64 0,.pointer none,.int .i64 0,.pointer none,.int .i64 0,.pointer none,.int .i64 0,.pointer none,.int .i64 0,.pointer none,.int .i64 0,.pointer none,.int .i64 0,.pointer none,.int .i64 0]:=rfl
theorem setCells_whole {W:World}{g:Nat}{T:TypeId}{D C:List Value} (hg:W.heap[g]? =some (.cells D.toArray T (0,0))) (hl:C.length=D.length) (h1:∀ v∈C,v.oneCell'=true):
 (W.setCells g 0 C).heap[g]? =some (.cells C.toArray T (0,0))/\Wrote W (W.setCells g 0 C) g:=by
 have e:=setCells_row hg (o:=0) (vs:=C) (by omega) h1
 rw[e,splice_whole D C hl]
 exact ⟨setRow_heap _ _ _ _ _ _ hg,Wrote.setRow _ _ _⟩
set_option maxHeartbeats 2000000 in
theorem iFields_of (w:World) (g:Nat):Calls Tryz.prog 176 #[.pointer (some ⟨g,0,none⟩)] w fun e w'=>e=.returned (.agg (fldC g 14).toArray)/\Below w.heap.size w w':=by
 have hr0:=heap_alloc_new w (.cells (fldC g 0).toArray 246)
 have hb0:=below_box w (.cells (fldC g 0).toArray 246)
 obtain ⟨w1,hw1⟩:∃ w1,w1=w.alloc (.cells (fldC g 0).toArray 246):=⟨_,rfl⟩
 rw[<- hw1] at hr0 hb0
 have hsz:w1.heap.size=w.heap.size+1:=by rw[hw1];simp
 rw[fldC_zero] at hw1
 have HW1:=Lib.hid hw1
 have HR0:=Lib.hid hr0
 have hr1:=heap_alloc_new w1 (.cells (fldC g 0).toArray 246)
 have hb1:=below_box w1 (.cells (fldC g 0).toArray 246)
 have hth:(w1.alloc (.cells #[.pointer none,.int .i64 0,.pointer none,.int .i64 0,.pointer none,.int .i64 0,.pointer none,.int .i64 0,.pointer none,.int .i64 0,.pointer none,.int .i64 0,.pointer none,.int .i64 0,.pointer none,.int .i64 0,.pointer none,.int .i64 0,.pointer none,.int .i64 0,.pointer none,.int .i64 0,.pointer none,.int .i64 0,.pointer none,.int .i64 0,.pointer none,.int .i64 0] 246)).drew.there w1.heap.size 0 ([.pointer (some ⟨g,0,none⟩),.int .i64 1,.pointer (some ⟨g,1,none⟩),.int .i64 1,.pointer (some ⟨g,2,none⟩),.int .i64 4,.pointer none,.int .i64 0,.pointer none,.int .i64 0,.pointer none,.int .i64 0,.pointer none,.int .i64 0,.pointer none,.int .i64 0,.pointer none,.int .i64 0,.pointer none,.int .i64 0,.pointer none,.int .i64 0,.pointer none,.int .i64 0,.pointer none,.int .i64 0,.pointer none,.int .i64 0]:List Value).toArray.size:=there_row (w:=(w1.alloc (.cells #[.pointer none,.int .i64 0,.pointer none,.int .i64 0,.pointer none,.int .i64 0,.pointer none,.int .i64 0,.pointer none,.int .i64 0,.pointer none,.int .i64 0,.pointer none,.int .i64 0,.pointer none,.int .i64 0,.pointer none,.int .i64 0,.pointer none,.int .i64 0,.pointer none,.int .i64 0,.pointer none,.int .i64 0,.pointer none,.int .i64 0,.pointer none,.int .i64 0] 246)).drew) (t:=246) (cur:=fldC g 0) hr1 (by rw[fldC_length];exact Nat.le_refl _)
 have hone:∀ v∈([.pointer (some ⟨g,0,none⟩),.int .i64 1,.pointer (some ⟨g,1,none⟩),.int .i64 1,.pointer (some ⟨g,2,none⟩),.int .i64 4,.pointer none,.int .i64 0,.pointer none,.int .i64 0,.pointer none,.int .i64 0,.pointer none,.int .i64 0,.pointer none,.int .i64 0,.pointer none,.int .i64 0,.pointer none,.int .i64 0,.pointer none,.int .i64 0,.pointer none,.int .i64 0,.pointer none,.int .i64 0,.pointer none,.int .i64 0]:List Value),v.oneCell'=true:=by have:=fldC_one g 3;rw[fldC_three] at this;exact this
 have hset:=setCells_whole (W:=(w1.alloc (.cells #[.pointer none,.int .i64 0,.pointer none,.int .i64 0,.pointer none,.int .i64 0,.pointer none,.int .i64 0,.pointer none,.int .i64 0,.pointer none,.int .i64 0,.pointer none,.int .i64 0,.pointer none,.int .i64 0,.pointer none,.int .i64 0,.pointer none,.int .i64 0,.pointer none,.int .i64 0,.pointer none,.int .i64 0,.pointer none,.int .i64 0,.pointer none,.int .i64 0] 246)).drew) (g:=w1.heap.size) (T:=246) (D:=fldC g 0) (C:=[.pointer (some ⟨g,0,none⟩),.int .i64 1,.pointer (some ⟨g,1,none⟩),.int .i64 1,.pointer (some ⟨g,2,none⟩),.int .i64 4,.pointer none,.int .i64 0,.pointer none,.int .i64 0,.pointer none,.int .i64 0,.pointer none,.int .i64 0,.pointer none,.int .i64 0,.pointer none,.int .i64 0,.pointer none,.int .i64 0,.pointer none,.int .i64 0,.pointer none,.int .i64 0,.pointer none,.int .i64 0,.pointer none,.int .i64 0]) hr1 rfl hone
 have hb12:=hb1.drew.trans (hset.2.below (Nat.le_refl _))
 have HB12:=Lib.hid (hb0.trans (hb12.mono hb0.size))
 have HBX:=Lib.hid hb12
 have HR3:=Lib.hid hset.1
 have HSZ:=Lib.hid hsz
 clear hw1 hr0 hset hr1 hb1 hb12 hsz
 have hinf:(Tryz.prog.info? 246).map (·.size)=some ([.pointer (some ⟨g,0,none⟩),.int .i64 1,.pointer (some ⟨g,1,none⟩),.int .i64 1,.pointer (some ⟨g,2,none⟩),.int .i64 4,.pointer none,.int .i64 0,.pointer none,.int .i64 0,.pointer none,.int .i64 0,.pointer none,.int .i64 0,.pointer none,.int .i64 0,.pointer none,.int .i64 0,.pointer none,.int .i64 0,.pointer none,.int .i64 0,.pointer none,.int .i64 0,.pointer none,.int .i64 0,.pointer none,.int .i64 0]:List Value).toArray.size:=infoFs7
 go_enter Tryz.func176,Tryz.ntmps176
 go_wp2
 rw[<- HW1.out]
 go_region_held3 (fun W=>True) (trivial) (fail)
 generalize (w1.alloc (.cells #[.pointer none,.int .i64 0,.pointer none,.int .i64 0,.pointer none,.int .i64 0,.pointer none,.int .i64 0,.pointer none,.int .i64 0,.pointer none,.int .i64 0,.pointer none,.int .i64 0,.pointer none,.int .i64 0,.pointer none,.int .i64 0,.pointer none,.int .i64 0,.pointer none,.int .i64 0,.pointer none,.int .i64 0,.pointer none,.int .i64 0,.pointer none,.int .i64 0] 246)).drew.setCells w1.heap.size 0 [.pointer (some ⟨g,0,none⟩),.int .i64 1,.pointer (some ⟨g,1,none⟩),.int .i64 1,.pointer (some ⟨g,2,none⟩),.int .i64 4,.pointer none,.int .i64 0,.pointer none,.int .i64 0,.pointer none,.int .i64 0,.pointer none,.int .i64 0,.pointer none,.int .i64 0,.pointer none,.int .i64 0,.pointer none,.int .i64 0,.pointer none,.int .i64 0,.pointer none,.int .i64 0,.pointer none,.int .i64 0,.pointer none,.int .i64 0]=w2 at HB12 HBX HR3 |-
 rw[<- fldC_three] at HR3
 have hr02:w2.heap[w.heap.size]? =some (.cells (fldC g 0).toArray 246 (0,0)):=(HBX.out.block _ (by have:=HSZ.out;omega)).trans HR0.out
 have HR02:=Lib.hid hr02
 have hb2:=HB12.out
 obtain ⟨b,hb⟩:∃ b,b=w1.heap.size:=⟨_,rfl⟩
 have hne:w.heap.size≠b:=by have:=HSZ.out;omega
 have hle:w.heap.size<=b:=by have:=HSZ.out;omega
 rw[<- hb] at HR3 |-
 clear hinf hth hone hr02 hb HBX HB12 HR0 HW1 HSZ hb0
 go_wp2
 go_loopw [18] (fun i wr=>∃ j:Nat,j<=10/\i=.int .i64 j/\Hid (wr.heap[b]? =some (.cells (fldC g (3+j)).toArray 246 (0,0)))/\Hid (wr.heap[w.heap.size]? =some (.cells (fldC g 0).toArray 246 (0,0)))/\Below w.heap.size w wr) (fun i _=>10-(intOf i).toNat)
 case atStart=>exact ⟨0,by omega,rfl,HR3,HR02,hb2⟩
 case round=>
  obtain ⟨j,hj,rfl,HR,HRZ,hbr⟩:=hrel
  clear HR3 HR02 hb2
  by_cases hlt:j<10
  · have ej:(j:Int)<10:=by omega
    have hw2:(2:Int)=(w7 (3+j):Int):=by simp[w7_two]
    have HW2:=Lib.hid hw2
    clear hw2
    go_wp2_with (with_reducible refine wpList_store_f7 rfl (.tmp 29) (.tmp 28) rfl b g (3+j) (by omega) 2 HW2.out rfl rfl HR.out ?_;intro w4 hw4 hr4)
    go_roundw
    case rel=>exact ⟨j+1,by omega,by go_num,hr4,(hw4.2.2.2.2 _ hne).trans HRZ.out,hbr.trans (hw4.below hle)⟩
    case measure=>simp[intOf];omega
  · obtain rfl:j=10:=by omega
    go_wp2_with (first
     |(with_reducible refine wpList_store_f7 rfl (.tmp 35) (.tmp 34) rfl b g 13 (by omega) 2 rfl rfl rfl HR.out ?_;intro w4 hw4 hr4
       have hz4:=(hw4.2.2.2.2 _ hne).trans HRZ.out)
     |(with_reducible refine wpList_load_row rfl 246 (.tmp 3) rfl b rfl 246 _ (0,0) _ hr4 Tryz.underlying246 rfl (by rw[infoFs7];simp[fldC_length]) ?_)
     |(with_reducible refine wpList_store_fs rfl (.tmp 2) (.tmp 36) rfl w.heap.size rfl (fldC g 14) (fldC g 0) rfl (fldC_length g 14) (fldC_length g 0) (fldC_one g 14) _ hz4 ?_;intro w5 hw5 hr5))
    exact bodyPost_ret (ret_fs7 rfl _ _ w.heap.size _ _ (fldC_length g 14) rfl hr5) rfl ⟨rfl,(hbr.trans (hw4.below hle)).trans (hw5.below (Nat.le_refl _))⟩
end Go.Proofs.YtedabomlfcghoaaGreat
