/- What the law rests on: part 10. -/
import Derived.OrdersHeld
import Derived.Test.YtedabomlfcghoaaGreatKF9
set_option linter.unusedVariables false
namespace Go.Proofs.YtedabomlfcghoaaGreat
set_option maxRecDepth 100000
open Go.RowKit
theorem StSl.drew {w:World}{P:Nat->Prop}{b off:Nat}{St:List (Nat × List (List Int))} (h:StSl w P b off St):StSl w.drew P b off St:=h.chg (Chg.of_below (below_drewN' (Below.refl _ _) 1))
theorem below_drew10 {B:Nat}{w w':World} (h:Below B w w'):Below B w w'.drew:=below_drewN' h 1
section
variable {w:World}{P:Nat->Prop}{p:Value}{s:DS}
set_option maxHeartbeats 2000000 in
theorem gWrite_yes (h:Dk w P p s) {v:Value}{q:Int}{N:List Int}{D:List (List Int)} (hv:TxV w v q N D) (q0:0<=q) (q1:q<4294967296) (hB:takesT s.F.length N D=true) (hU:s.U.length<=900000):
 Calls Tryz.prog 122 #[p,v] w (RunQ (layA q (layWs q N D)) w P p s):=by
 have hv':=hv
 obtain ⟨no,nc,ao,dc,rfl,hN,hD⟩:=hv
 have hB':=hB
 unfold takesT at hB'
 rw[Bool.and_eq_true,Bool.and_eq_true,decide_eq_true_eq] at hB'
 obtain ⟨h64,hF,hH⟩:=hB'
 obtain ⟨f1,f2,f3⟩:=frmT_of hF
 have KT:=Lib.hid (fun W (hb:Below w.heap.size w W)=>gTakes_is (h.below hb) (hv'.below hb) true hB)
 have KP:=Lib.hid (fun W (hb:Below w.heap.size w W)=>tPack_own (hv'.below hb) hF q0 q1)
 obtain ⟨M,hM⟩:∃ M,M=(packT q N D).length:=⟨_,rfl⟩
 obtain ⟨K,hK⟩:∃ K,K=D.length+1:=⟨_,rfl⟩
 have hMK:K+1=M:=by rw[hM,packT_length,hK]
 have hM40:M<=40:=by omega
 have KL:Hid (∀ W g U3,Below w.heap.size w W->(W.heap.size+1+1=g)->(StSl U3 P g 0 (strT q N D))->Below W.heap.size W U3->Calls Tryz.prog 163 #[p,.slice (some ⟨g,0,none⟩) 4 4] U3 (fun e w'=>e=.returned (.int .i64 (runA (layA q (layWs q N D)) s).1)/\∃ P',Dk w' P' p (runA (layA q (layWs q N D)) s).2/\Chg P P' w w')):=Lib.hid (fun W g U3 hb _ hs hb2=>by
  have:=gLay_of (cap:=4) (h.below (hb.trans (hb2.mono hb.size))) hs hU (by
   unfold cntS;rw[layS_strT];unfold layA;simp[layWs];omega) (by show 4<=1000;omega) (fun j hj i hi=>by
   have hj4:j<4:=hj
   obtain rfl|rfl|rfl|rfl:j=0\/j=1\/j=2\/j=3:=by omega
   · exact absurd hi (Nat.not_lt_zero _)
   · obtain rfl:i=0:=by have:i<1:=hi;omega
     exact ⟨by show 42+0<_;omega,by show z256.length=256;exact List.length_replicate⟩
   · have hi':i<D.length+1:=hi
     refine ⟨by show 3+i<_;omega,?_⟩
     show ((sealS (headL q N) :: D).getD i []).length=256
     cases i with
     |zero=>exact sealS_length _ (by rw[headL_length];omega)
     |succ i=>exact (f3 i (by omega)).2.1
   · obtain rfl:i=0:=by have:i<1:=hi;omega
     exact ⟨by show 42+0<_;omega,by show (sealS (endL q)).length=256;exact sealS_length _ (by rw[endL_length];omega)⟩) (fun j hj=>by
   have hj4:j<4:=hj
   obtain rfl|rfl|rfl|rfl:j=0\/j=1\/j=2\/j=3:=by omega
   · exact ⟨by show 0<=1000;omega,by show 0<=1000;omega⟩
   · exact ⟨by show 42<=1000;omega,by show 1<=1000;omega⟩
   · exact ⟨by show 3<=1000;omega,by show D.length+1<=1000;omega⟩
   · exact ⟨by show 42<=1000;omega,by show 1<=1000;omega⟩)
  rw[layS_strT] at this
  refine this.mono ?_
  rintro e w' ⟨he,P',hd,hc⟩
  exact ⟨he,P',hd,(Chg.of_below (hb.trans (hb2.mono hb.size))).trans hc⟩)
 have hlt:=fun k hk=>h.lt k hk
 have HAP:=Lib.hid (fun W (hb:Below w.heap.size w W) u (hu:BB2 W W.heap.size 0 u (packT q N D))=>hu.zero.apart (h.below hb))
 have HAP2:=Lib.hid (fun W (hb:Below w.heap.size w W) B u (hu:BB2 W B 0 u (packT q N D))=>hu.zero.apart (h.below hb))
 have HSM:=Lib.hid (fun W (hb:Below w.heap.size w W) b off cap (hu:BBa W P (.slice (some ⟨b,off,none⟩) M cap) (packT q N D))=>stSl_made (W:=W) (P:=P) (fun k hk=>Nat.lt_of_lt_of_le (hlt k hk) hb.size) hu hM.symm hK.symm)
 have HSH:=Lib.hid (fun W u (hu:BBSl W u (packT q N D))=>hu.open')
 rw[<- hM] at HSH
 obtain ⟨bp,rfl⟩:=h.ptr
 unfold RunQ
 obtain ⟨A,hA⟩:∃ A,A=layA q (layWs q N D):=⟨_,rfl⟩
 rw[<- hA] at KL |-
 obtain ⟨rr,hrr⟩:∃ rr,rr=(runA A s).1:=⟨_,rfl⟩
 obtain ⟨rs,hrs⟩:∃ rs,rs=(runA A s).2:=⟨_,rfl⟩
 rw[<- hrr,<- hrs] at KL |-
 generalize N.length=n at KT KP |-
 generalize D.length=m at KT KP |-
 have hbx:=below_box w (.cells #[.int .u32 q,.slice no n nc,.slice ao m dc] 183)
 have hnx:=heap_alloc_new w (.cells #[.int .u32 q,.slice no n nc,.slice ao m dc] 183)
 have hMc:((K:Nat):Int)=(M:Int)-1:=by omega
 have HMK:=Lib.hid hMK
 have HM40:=Lib.hid hM40
 have HMC:=Lib.hid hMc
 clear h hN hD hv' hB hF hH f1 f2 f3 h64 hlt hU q0 q1 hM hK hA hrr hrs hMK hMc
 go_enter Tryz.func122,Tryz.ntmps122
 go_upto_region 1 with (fail)
 generalize w.alloc (.cells #[.int .u32 q,.slice no n nc,.slice ao m dc] 183)=u at hbx hnx |-
 have KT1:=Lib.hid (KT.out _ hbx)
 have d0:u.cell? ⟨w.heap.size,0,none⟩=some (.int .u32 q):=by rw[cell_of_row _ _ _ _ _ _ hnx];rfl
 have d1:u.cell? ⟨w.heap.size,1,none⟩=some (.slice no n nc):=by rw[cell_of_row _ _ _ _ _ _ hnx];rfl
 have d2:u.cell? ⟨w.heap.size,2,none⟩=some (.slice ao m dc):=by rw[cell_of_row _ _ _ _ _ _ hnx];rfl
 have hzu:w.heap.size<u.heap.size:=(Array.getElem?_eq_some_iff.1 hnx).1
 obtain ⟨d,hd⟩:∃ d,d=w.heap.size:=⟨_,rfl⟩
 have HBX:=Lib.hid hbx
 have HM0:Hid (0<M):=Lib.hid (by have:=HMK.out;omega)
 rw[<- hd] at d0 d1 d2 hzu |-
 have e1:1<=M:=HM0.out
 clear hnx KT hbx hd
 go_wp2_with (first
  |(go_at_call 161;(with_reducible refine KT1.out.mono ?_);rintro e w2 ⟨rfl,hb2⟩
    have HB2:=Lib.hid (HBX.out.trans (hb2.mono HBX.out.size))
    have g0:=(hb2.cell (p:=⟨d,0,none⟩) hzu).trans d0
    have g1:=(hb2.cell (p:=⟨d,1,none⟩) hzu).trans d1
    have g2:=(hb2.cell (p:=⟨d,2,none⟩) hzu).trans d2
    clear hb2 d0 d1 d2)
  |(go_at_call 162;(with_reducible refine (KP.out _ HB2.out).mono ?_);rintro e w3 ⟨u3,rfl,hu3,hb3⟩
    have HB3:=Lib.hid (HB2.out.trans (hb3.mono HB2.out.size))
    have HA3:=Lib.hid (HAP2.out _ HB3.out _ _ hu3)
    obtain ⟨bo,cap,rfl,hcap,hq3⟩:=HSH.out _ _ hu3.zero.sl
    obtain ⟨b,off,rfl,_,_⟩:=hq3 HM0.out
    have HCAP:=Lib.hid hcap
    clear hu3 hb3 hq3 hcap g0 g1 g2))
 have hwr:IntKind.i64.wrap ((M:Int)-1)=(M:Int)-1:=IntWalk.i64_in _ (by have:=HM40.out;have:=HM0.out;omega)
 obtain ⟨Z,hZ⟩:∃ Z,Z=Array.replicate 256 (Value.int .u8 0):=⟨_,rfl⟩
 have hmk:=fun W=>make_n W 256 (by decide) 256 rfl
 have hs1:=fun W=>slice_to b off M cap K ((M:Int)-1) HMC.out.symm (by have:=HCAP.out;have:=HMK.out;omega) (by have:=HCAP.out;have:=HM0.out;omega) W
 have hs2:=fun W=>slice_from b off M cap K ((M:Int)-1) HMC.out.symm HMK.out HCAP.out W
 obtain ⟨h1,h2⟩:=HSM.out _ HB3.out _ _ _ HA3.out
 have KL1:=Lib.hid (KL.out _ _ _ HB3.out rfl h2.drew (below_drew10 h1))
 rw[<- hZ] at hmk KL1
 clear h1 h2 hZ HA3
 go_region_held3 (fun W=>True) (trivial) (first|(go_at_call 163;(with_reducible refine KL1.out.mono ?_);rintro e w5 ⟨rfl,hx5⟩))
 go_wp2
 go_ret
 exact ⟨rfl,hx5⟩
end
def RecQ (A:List PA) (hd:Prop) (w:World) (P:Nat->Prop) (p:Value) (s:DS) (e:Ending) (w':World):Prop:=
 ∃ x,e=.returned (.tuple #[.int .u32 x,.int .i64 (runA A s).1])/\(∃ P',Dk w' P' p (runA A s).2/\Chg P P' w w')/\(hd->(runA A s).1=0->x=1)/\(0<=x/\x<4294967296)
theorem u32_in (x:Int):0<=IntKind.u32.wrap x/\IntKind.u32.wrap x<4294967296:=by
 have:IntKind.u32.wrap x=x%4294967296:=by simp[IntKind.wrap,IntKind.signed,IntKind.bits]
 omega
theorem runA_two (A:List PA) (s:DS):(runA A s).1=0\/(runA A s).1=2:=by
 obtain ⟨_,_,_,h⟩:=runA_pre A s
 exact h.imp (fun x=>x.1) id
theorem RecQ.early {A:List PA}{hd:Prop}{w W:World}{P P':Nat->Prop}{p:Value}{s:DS} (h:(runA A s).1=2) (hk:Dk W P' p (runA A s).2) (hc:Chg P P' w W):RecQ (A ++ [.f]) hd w P p s (.returned (.tuple #[.int .u32 0,.int .i64 2])) W:=by
 have e:runA (A ++ [.f]) s=runA A s:=by rw[runA_append,if_neg (by rw[h];decide)]
 unfold RecQ
 rw[e,h]
 exact ⟨0,rfl,⟨P',hk,hc⟩,fun _ h=>absurd h (by decide),by decide,by decide⟩
theorem RecQ.stop {A:List PA}{hd:Prop}{w W:World}{P P':Nat->Prop}{p:Value}{s:DS} (h:(runA A s).1=0) (hok:(runA A s).2.ok=false) (hk:Dk W P' p (runA A s).2.pay) (hc:Chg P P' w W):RecQ (A ++ [.f]) hd w P p s (.returned (.tuple #[.int .u32 0,.int .i64 2])) W:=by
 unfold RecQ
 rw[runA_stop h hok]
 exact ⟨0,rfl,⟨P',hk,hc⟩,fun _ h=>absurd (show (2:Int)=0 from h) (by decide),by decide,by decide⟩
theorem RecQ.done {A:List PA}{hd:Prop}{w W:World}{P P':Nat->Prop}{p:Value}{s:DS}{x:Int} (h:(runA A s).1=0) (hok:(runA A s).2.ok=true) (hk:Dk W P' p (runA A s).2.flush) (hc:Chg P P' w W) (hx:hd->x=1) (hx2:0<=x/\x<4294967296):RecQ (A ++ [.f]) hd w P p s (.returned (.tuple #[.int .u32 x,.int .i64 0])) W:=by
 unfold RecQ
 rw[runA_next h hok]
 exact ⟨x,rfl,⟨P',hk,hc⟩,fun h _=>hx h,hx2⟩
section
variable {w:World}{P:Nat->Prop}{p:Value}{s:DS}
theorem tSeq_some {W:World}{v:Value}{J:List (List Int)} (hv:BBSl W v J) (hJ:0<J.length):
 Calls Tryz.prog 137 #[v] W fun e w'=>∃ y z,e=.returned (.tuple #[.int .u32 y,.bool z])/\Below W.heap.size W w'/\((∀ q N,¬ isHead (J.getD 0 []) q N)->y=0):=
 (tSeq_any hv).mono fun e w' ⟨hb,hc⟩=>by
   rcases hc with ⟨q,N,h0,hh,he⟩| ⟨_,he⟩
   · exact ⟨q,true,he,hb,fun h=>absurd hh (h q N)⟩
   · exact ⟨0,false,he,hb,fun _=>rfl⟩
theorem gRecover_yes (h:Dk w P p s) (h64:64<=s.F.length) (hd:s.dn=false) (hU:s.U.length<=900000) {q:Int}{N:List Int}{D:List (List Int)} (ht:holdsT s.F.length (jour s.vis) q N D):
 Calls Tryz.prog 89 #[p] w (RecQ (homeA N D ++ [.f]) (∀ q N,¬ isHead ((jour s.vis).getD 0 []) q N) w P p s):=by
 have hjl:(jour s.vis).length=40:=jour_length (by rw[DS.vis_length];omega)
 obtain ⟨hF,q0,q1⟩:=isTxn_frm ht.1
 have hlen:=runA_len (homeA N D) s
 rw[homeA_length] at hlen
 have h37:=(frmT_of hF).1
 have KJ:=Lib.hid (gJour_of h h64 hd)
 have KS:=Lib.hid (fun W (hb:Below w.heap.size w W) v (hv:BBSl W v (jour s.vis))=>gStored_yes (h.below hb) hv (by omega) ht)
 have HTV:=Lib.hid (fun W (hb:Below w.heap.size w W) vN vD (hN:IR W 0 vN N) (hD:BBR W 0 vD D)=>TxVa.own (h.below hb) (q:=q) hN hD)
 have KH:=Lib.hid (fun W (hb:Below w.heap.size w W) v (hv:TxVa W P v q N D)=>gHome_yes (h.below hb) hv (by
  unfold takesT
  rw[decide_eq_true h64,hF,ht.2];rfl) hU)
 have KF:=Lib.hid (fun W Pk (hk:Dk W Pk p (runA (homeA N D) s).2)=>kFlush hk (by omega))
 have KQ:=Lib.hid (fun W v (hv:BBSl W v (jour s.vis))=>tSeq_some hv (by omega))
 obtain ⟨bp,rfl⟩:=h.ptr
 obtain ⟨J,hJ⟩:∃ J,J=jour s.vis:=⟨_,rfl⟩
 rw[<- hJ] at KJ KS KQ |-
 obtain ⟨HD,hHD⟩:∃ HD,HD=(∀ q N,¬ isHead (J.getD 0 []) q N):=⟨_,rfl⟩
 rw[<- hHD]
 have HHD:Hid (HD->(∀ q N,¬ isHead (J.getD 0 []) q N)):=Lib.hid (fun h=>by rw[hHD] at h;exact h)
 obtain ⟨A,hA⟩:∃ A,A=homeA N D:=⟨_,rfl⟩
 rw[<- hA] at KF KH |-
 unfold RunQ at KH
 clear h h64 hd hU ht hjl hF q0 q1 hlen h37 hHD hA hJ
 rcases runA_two A s with hr|hr
 · rw[hr] at KH
   have HR:=Lib.hid hr
   clear hr
   cases hok:(runA A s).2.ok
   · rw[hok,if_neg Bool.false_ne_true,if_neg Bool.false_ne_true] at KF
     have HOK:=Lib.hid hok
     clear hok
     go_enter Tryz.func89,Tryz.ntmps89
     go_wp2_with (first
      |(go_at_call 135;(with_reducible refine KJ.out.mono ?_);rintro e w1 ⟨ao,cap,rfl,hv1,hb1⟩
        have HB1:=Lib.hid hb1
        have HV1:=Lib.hid hv1
        clear hb1 hv1)
      |(go_at_call 136;(with_reducible refine (KS.out _ HB1.out _ HV1.out.sl).mono ?_);rintro e w3 ⟨vN,vD,rfl,hN3,hD3,hb3⟩
        obtain ⟨_,no,nc,rfl,_⟩:=hN3.isc
        obtain ⟨co,dc,rfl,_⟩:=hD3.sl.shape
        have hns:=heap_alloc_new w3 (.cells #[.int .u32 0,.slice none 0 0,.slice none 0 0] 183)
        have hbs:=below_box w3 (.cells #[.int .u32 0,.slice none 0 0,.slice none 0 0] 183)
        have HN3:=Lib.hid (hN3.below hbs)
        have HD3:=Lib.hid (hD3.below hbs)
        have HB3:=Lib.hid hb3
        generalize hnn:N.length=n at HN3 |-
        generalize hmm:D.length=m at HD3 |-
        clear hN3 hD3 hnn hmm hb3)
      |(with_reducible refine wpList_store_t3 rfl 183 sizeT (.tmp 6) (.tmp 24) rfl w3.heap.size rfl _ _ _ _ _ _ rfl rfl rfl rfl _ hns ?_;intro w4 hw4 hr4
        have hb4:=hbs.trans (hw4.below (Nat.le_refl _))
        have HB14:=Lib.hid (HB3.out.trans (hb4.mono HB3.out.size))
        have HB4:=Lib.hid (HB1.out.trans (HB14.out.mono HB1.out.size))
        have x0:w4.cell? ⟨w3.heap.size,0,none⟩=some (.int .u32 q):=by rw[cell_of_row _ _ _ _ _ _ hr4];rfl
        have x1:w4.cell? ⟨w3.heap.size,1,none⟩=some (.slice no n nc):=by rw[cell_of_row _ _ _ _ _ _ hr4];rfl
        have x2:w4.cell? ⟨w3.heap.size,2,none⟩=some (.slice co m dc):=by rw[cell_of_row _ _ _ _ _ _ hr4];rfl
        have HTX:=Lib.hid (HTV.out _ HB4.out _ _ (HN3.out.wrote hw4 hns (by decide)) (HD3.out.wrote hw4 (Nat.zero_le _) hns (by decide) (by decide)))
        clear hns hbs hw4 hb4 HN3 HD3 hr4)
      |(go_at_call 123;(with_reducible refine (KH.out _ HB4.out _ HTX.out).mono ?_);rintro e w5 ⟨rfl,P5,hd5,hc5⟩
        have HC5:=Lib.hid ((Chg.of_below (P:=P) HB14.out).trans hc5)
        have HC05:=Lib.hid ((Chg.of_below (P:=P) HB1.out).trans HC5.out)
        have KF1:=Lib.hid (KF.out _ _ hd5)
        clear x0 x1 x2 hc5)
      |(go_at_call 124;(with_reducible refine KF1.out.mono ?_);rintro e w7 ⟨rfl,P7,hd7,hc7⟩))
     go_ret2
     exact RecQ.stop HR.out HOK.out hd7 (HC05.out.trans hc7)
   · rw[hok,if_pos rfl,if_pos rfl] at KF
     have HOK:=Lib.hid hok
     clear hok
     go_enter Tryz.func89,Tryz.ntmps89
     go_wp2_with (first
      |(go_at_call 135;(with_reducible refine KJ.out.mono ?_);rintro e w1 ⟨ao,cap,rfl,hv1,hb1⟩
        have HB1:=Lib.hid hb1
        have HV1:=Lib.hid hv1
        clear hb1 hv1)
      |(go_at_call 136;(with_reducible refine (KS.out _ HB1.out _ HV1.out.sl).mono ?_);rintro e w3 ⟨vN,vD,rfl,hN3,hD3,hb3⟩
        obtain ⟨_,no,nc,rfl,_⟩:=hN3.isc
        obtain ⟨co,dc,rfl,_⟩:=hD3.sl.shape
        have hns:=heap_alloc_new w3 (.cells #[.int .u32 0,.slice none 0 0,.slice none 0 0] 183)
        have hbs:=below_box w3 (.cells #[.int .u32 0,.slice none 0 0,.slice none 0 0] 183)
        have HN3:=Lib.hid (hN3.below hbs)
        have HD3:=Lib.hid (hD3.below hbs)
        have HB3:=Lib.hid hb3
        generalize hnn:N.length=n at HN3 |-
        generalize hmm:D.length=m at HD3 |-
        clear hN3 hD3 hnn hmm hb3)
      |(with_reducible refine wpList_store_t3 rfl 183 sizeT (.tmp 6) (.tmp 24) rfl w3.heap.size rfl _ _ _ _ _ _ rfl rfl rfl rfl _ hns ?_;intro w4 hw4 hr4
        have hb4:=hbs.trans (hw4.below (Nat.le_refl _))
        have HB14:=Lib.hid (HB3.out.trans (hb4.mono HB3.out.size))
        have HB4:=Lib.hid (HB1.out.trans (HB14.out.mono HB1.out.size))
        have x0:w4.cell? ⟨w3.heap.size,0,none⟩=some (.int .u32 q):=by rw[cell_of_row _ _ _ _ _ _ hr4];rfl
        have x1:w4.cell? ⟨w3.heap.size,1,none⟩=some (.slice no n nc):=by rw[cell_of_row _ _ _ _ _ _ hr4];rfl
        have x2:w4.cell? ⟨w3.heap.size,2,none⟩=some (.slice co m dc):=by rw[cell_of_row _ _ _ _ _ _ hr4];rfl
        have HTX:=Lib.hid (HTV.out _ HB4.out _ _ (HN3.out.wrote hw4 hns (by decide)) (HD3.out.wrote hw4 (Nat.zero_le _) hns (by decide) (by decide)))
        clear hns hbs hw4 hb4 HN3 HD3 hr4)
      |(go_at_call 123;(with_reducible refine (KH.out _ HB4.out _ HTX.out).mono ?_);rintro e w5 ⟨rfl,P5,hd5,hc5⟩
        have HC5:=Lib.hid ((Chg.of_below (P:=P) HB14.out).trans hc5)
        have HC05:=Lib.hid ((Chg.of_below (P:=P) HB1.out).trans HC5.out)
        have KF1:=Lib.hid (KF.out _ _ hd5)
        clear x0 x1 x2 hc5)
      |(go_at_call 124;(with_reducible refine KF1.out.mono ?_);rintro e w7 ⟨rfl,P7,hd7,hc7⟩)
      |(go_at_call 137;(with_reducible refine (KQ.out _ _ (HV1.out.chg (HC5.out.trans hc7)).sl).mono ?_);rintro e w8 ⟨y,z,rfl,hb8,hy⟩))
     go_ret2
     exact RecQ.done HR.out HOK.out (hd7.below hb8) ((HC05.out.trans hc7).trans (Chg.of_below hb8)) (fun h=>by rw[hy (HHD.out h)];rfl) (u32_in (y+1))
 · rw[hr] at KH
   have HR:=Lib.hid hr
   clear hr
   go_enter Tryz.func89,Tryz.ntmps89
   go_wp2_with (first
    |(go_at_call 135;(with_reducible refine KJ.out.mono ?_);rintro e w1 ⟨ao,cap,rfl,hv1,hb1⟩
      have HB1:=Lib.hid hb1
      have HV1:=Lib.hid hv1
      clear hb1 hv1)
    |(go_at_call 136;(with_reducible refine (KS.out _ HB1.out _ HV1.out.sl).mono ?_);rintro e w3 ⟨vN,vD,rfl,hN3,hD3,hb3⟩
      obtain ⟨_,no,nc,rfl,_⟩:=hN3.isc
      obtain ⟨co,dc,rfl,_⟩:=hD3.sl.shape
      have hns:=heap_alloc_new w3 (.cells #[.int .u32 0,.slice none 0 0,.slice none 0 0] 183)
      have hbs:=below_box w3 (.cells #[.int .u32 0,.slice none 0 0,.slice none 0 0] 183)
      have HN3:=Lib.hid (hN3.below hbs)
      have HD3:=Lib.hid (hD3.below hbs)
      have HB3:=Lib.hid hb3
      generalize hnn:N.length=n at HN3 |-
      generalize hmm:D.length=m at HD3 |-
      clear hN3 hD3 hnn hmm hb3)
    |(with_reducible refine wpList_store_t3 rfl 183 sizeT (.tmp 6) (.tmp 24) rfl w3.heap.size rfl _ _ _ _ _ _ rfl rfl rfl rfl _ hns ?_;intro w4 hw4 hr4
      have hb4:=hbs.trans (hw4.below (Nat.le_refl _))
      have HB14:=Lib.hid (HB3.out.trans (hb4.mono HB3.out.size))
      have HB4:=Lib.hid (HB1.out.trans (HB14.out.mono HB1.out.size))
      have x0:w4.cell? ⟨w3.heap.size,0,none⟩=some (.int .u32 q):=by rw[cell_of_row _ _ _ _ _ _ hr4];rfl
      have x1:w4.cell? ⟨w3.heap.size,1,none⟩=some (.slice no n nc):=by rw[cell_of_row _ _ _ _ _ _ hr4];rfl
      have x2:w4.cell? ⟨w3.heap.size,2,none⟩=some (.slice co m dc):=by rw[cell_of_row _ _ _ _ _ _ hr4];rfl
      have HTX:=Lib.hid (HTV.out _ HB4.out _ _ (HN3.out.wrote hw4 hns (by decide)) (HD3.out.wrote hw4 (Nat.zero_le _) hns (by decide) (by decide)))
      clear hns hbs hw4 hb4 HN3 HD3 hr4)
    |(go_at_call 123;(with_reducible refine (KH.out _ HB4.out _ HTX.out).mono ?_);rintro e w5 ⟨rfl,P5,hd5,hc5⟩
      have HC5:=Lib.hid ((Chg.of_below (P:=P) HB14.out).trans hc5)
      have HC05:=Lib.hid ((Chg.of_below (P:=P) HB1.out).trans HC5.out)
      have KF1:=Lib.hid (KF.out _ _ hd5)
      clear x0 x1 x2 hc5))
   go_ret2
   exact RecQ.early HR.out hd5 HC05.out
theorem gRecover_no (h:Dk w P p s) (h64:64<=s.F.length) (hd:s.dn=false) (hU:s.U.length<=900000) (hno:∀ q N D,¬ holdsT s.F.length (jour s.vis) q N D):
 Calls Tryz.prog 89 #[p] w (RecQ ([] ++ [.f]) (∀ q N,¬ isHead ((jour s.vis).getD 0 []) q N) w P p s):=by
 have hjl:(jour s.vis).length=40:=jour_length (by rw[DS.vis_length];omega)
 have KJ:=Lib.hid (gJour_of h h64 hd)
 have KS:=Lib.hid (fun W (hb:Below w.heap.size w W) v (hv:BBSl W v (jour s.vis))=>gStored_no (h.below hb) hv (by omega) hno)
 have KF:=Lib.hid (fun W (hb:Below w.heap.size w W)=>kFlush (h.below hb) (by omega))
 have KQ:=Lib.hid (fun W v (hv:BBSl W v (jour s.vis))=>tSeq_some hv (by omega))
 obtain ⟨bp,rfl⟩:=h.ptr
 obtain ⟨J,hJ⟩:∃ J,J=jour s.vis:=⟨_,rfl⟩
 rw[<- hJ] at KJ KS KQ |-
 obtain ⟨HD,hHD⟩:∃ HD,HD=(∀ q N,¬ isHead (J.getD 0 []) q N):=⟨_,rfl⟩
 rw[<- hHD]
 have HHD:Hid (HD->(∀ q N,¬ isHead (J.getD 0 []) q N)):=Lib.hid (fun h=>by rw[hHD] at h;exact h)
 have HR:Hid ((runA [] s).1=0):=Lib.hid rfl
 clear h h64 hd hU hno hjl hHD hJ
 cases hok:s.ok
 · rw[hok,if_neg Bool.false_ne_true,if_neg Bool.false_ne_true] at KF
   have HOK:Hid ((runA [] s).2.ok=false):=Lib.hid hok
   clear hok
   go_enter Tryz.func89,Tryz.ntmps89
   go_wp2_with (first
    |(go_at_call 135;(with_reducible refine KJ.out.mono ?_);rintro e w1 ⟨ao,cap,rfl,hv1,hb1⟩
      have HB1:=Lib.hid hb1
      have HV1:=Lib.hid hv1
      clear hb1 hv1)
    |(go_at_call 136;(with_reducible refine (KS.out _ HB1.out _ HV1.out.sl).mono ?_);rintro e w3 ⟨rfl,hb3⟩
      have hns:=heap_alloc_new w3 (.cells #[.int .u32 0,.slice none 0 0,.slice none 0 0] 183)
      have hbs:=below_box w3 (.cells #[.int .u32 0,.slice none 0 0,.slice none 0 0] 183)
      have HB3:=Lib.hid hb3
      clear hb3)
    |(with_reducible refine wpList_store_t3 rfl 183 sizeT (.tmp 6) (.tmp 24) rfl w3.heap.size rfl _ _ _ _ _ _ rfl rfl rfl rfl _ hns ?_;intro w4 hw4 hr4
      have hb4:=hbs.trans (hw4.below (Nat.le_refl _))
      have HB14:=Lib.hid (HB3.out.trans (hb4.mono HB3.out.size))
      have HB4:=Lib.hid (HB1.out.trans (HB14.out.mono HB1.out.size))
      have HC5:=Lib.hid (Chg.of_below (P:=P) HB14.out)
      have HC05:=Lib.hid (Chg.of_below (P:=P) HB4.out)
      have KF1:=Lib.hid (KF.out _ HB4.out)
      clear hns hbs hw4 hb4 hr4)
    |(go_at_call 124;(with_reducible refine KF1.out.mono ?_);rintro e w7 ⟨rfl,P7,hd7,hc7⟩))
   go_ret2
   exact RecQ.stop HR.out HOK.out hd7 (HC05.out.trans hc7)
 · rw[hok,if_pos rfl,if_pos rfl] at KF
   have HOK:Hid ((runA [] s).2.ok=true):=Lib.hid hok
   clear hok
   go_enter Tryz.func89,Tryz.ntmps89
   go_wp2_with (first
    |(go_at_call 135;(with_reducible refine KJ.out.mono ?_);rintro e w1 ⟨ao,cap,rfl,hv1,hb1⟩
      have HB1:=Lib.hid hb1
      have HV1:=Lib.hid hv1
      clear hb1 hv1)
    |(go_at_call 136;(with_reducible refine (KS.out _ HB1.out _ HV1.out.sl).mono ?_);rintro e w3 ⟨rfl,hb3⟩
      have hns:=heap_alloc_new w3 (.cells #[.int .u32 0,.slice none 0 0,.slice none 0 0] 183)
      have hbs:=below_box w3 (.cells #[.int .u32 0,.slice none 0 0,.slice none 0 0] 183)
      have HB3:=Lib.hid hb3
      clear hb3)
    |(with_reducible refine wpList_store_t3 rfl 183 sizeT (.tmp 6) (.tmp 24) rfl w3.heap.size rfl _ _ _ _ _ _ rfl rfl rfl rfl _ hns ?_;intro w4 hw4 hr4
      have hb4:=hbs.trans (hw4.below (Nat.le_refl _))
      have HB14:=Lib.hid (HB3.out.trans (hb4.mono HB3.out.size))
      have HB4:=Lib.hid (HB1.out.trans (HB14.out.mono HB1.out.size))
      have HC5:=Lib.hid (Chg.of_below (P:=P) HB14.out)
      have HC05:=Lib.hid (Chg.of_below (P:=P) HB4.out)
      have KF1:=Lib.hid (KF.out _ HB4.out)
      clear hns hbs hw4 hb4 hr4)
    |(go_at_call 124;(with_reducible refine KF1.out.mono ?_);rintro e w7 ⟨rfl,P7,hd7,hc7⟩)
    |(go_at_call 137;(with_reducible refine (KQ.out _ _ (HV1.out.chg (HC5.out.trans hc7)).sl).mono ?_);rintro e w8 ⟨y,z,rfl,hb8,hy⟩))
   go_ret2
   exact RecQ.done HR.out HOK.out (hd7.below hb8) ((HC05.out.trans hc7).trans (Chg.of_below hb8)) (fun h=>by rw[hy (HHD.out h)];rfl) (u32_in (y+1))
end
def inJS (N:List Int):Bool:=(List.range N.length).any fun k=>decide (3<=N.getD k 0) && decide (N.getD k 0<43)
theorem inJS_no (N:List Int):inJS N=false ↔ ∀ k,k<N.length->¬ (3<=N.getD k 0/\N.getD k 0<43):=by
 unfold inJS
 rw[List.any_eq_false]
 constructor
 · intro h k hk hc
   exact h k (List.mem_range.2 hk) (by rw[Bool.and_eq_true,decide_eq_true_eq,decide_eq_true_eq];exact hc)
 · intro h k hk
   have:=h k (List.mem_range.1 hk)
   simp only[Bool.and_eq_true,decide_eq_true_eq]
   exact this
theorem BBR.row {w:World}{B g n cap:Nat}{L:List (List Int)} (h:BBR w B (.slice (some ⟨g,0,none⟩) n cap) L):∃ cur:Array Value,w.heap[g]? =some (.cells cur 30 (0,0))/\L.length<=cur.size/\B<=g:=by
 obtain ⟨vs,hl,hr,ho⟩:=h
 rcases ho.2 with ⟨hv,_⟩| ⟨g',cap',cur,hv,hg,hh,hnc,hcm,hcs,ht⟩
 · simp at hv
 · obtain rfl:g=g':=by have:=Option.some.inj (Value.slice.inj hv).1;injection this
   exact ⟨cur,hh,by omega,hg⟩
theorem BBR.set {w:World}{B g n cap:Nat}{L:List (List Int)} (h:BBR w B (.slice (some ⟨g,0,none⟩) n cap) L) {x:Nat} (hx:x<L.length) {y:Value}{l:List Int} (hy:BElt w B y l):BBR (w.setCell ⟨g,x,none⟩ y) B (.slice (some ⟨g,0,none⟩) n cap) (L.set x l):=by
 obtain ⟨vs,hl,hr,ho⟩:=h
 rcases ho.2 with ⟨hv,_⟩| ⟨g',cap',cur,hv,hg,hh,hnc,hcm,hcs,ht⟩
 · simp at hv
 · obtain rfl:g=g':=by have:=Option.some.inj (Value.slice.inj hv).1;injection this
   have hw:=Wrote.setCell w g x y
   have hgr:w.grownBy (w.setCell ⟨g,x,none⟩ y) (some g):=
    ⟨hw.1,hw.2.1,hw.2.2.1,by rw[hw.2.2.2.1];exact Nat.le_refl _,fun b hb hne=>hw.2.2.2.2 b (fun e=>hne (by rw[e]))⟩
   have hrow:∀ g',some g=some g'->B<=g'/\∃ cur,w.heap[g']? =some (.cells cur 30 (0,0)):=fun g' e=>by
    obtain rfl:=Option.some.inj e
    exact ⟨hg,_,hh⟩
   refine ⟨vs.set x y,by rw[List.length_set,List.length_set];exact hl,fun j hj=>?_,by rw[List.length_set,List.length_set];exact ho.1,.inr ⟨g,cap',cur.setIfInBounds x y,by rw[List.length_set];exact hv,hg,?_,by rw[List.length_set];exact hnc,hcm,by rw[Array.size_setIfInBounds];exact hcs,?_⟩⟩
   · rw[List.length_set] at hj
     by_cases e:j=x
     · subst e
       have e1:(vs.set j y).getD j undef=y:=by simp[List.getD_eq_getElem?_getD,hl,hx]
       have e2:(L.set j l).getD j []=l:=by simp[List.getD_eq_getElem?_getD,hx]
       rw[e1,e2]
       exact hy.grown hrow hgr
     · have e1:(vs.set x y).getD j undef=vs.getD j undef:=by rw[List.getD_eq_getElem?_getD,List.getElem?_set_ne (by omega),<- List.getD_eq_getElem?_getD]
       have e2:(L.set x l).getD j []=L.getD j []:=by rw[List.getD_eq_getElem?_getD,List.getElem?_set_ne (by omega),<- List.getD_eq_getElem?_getD]
       rw[e1,e2]
       exact (hr j hj).grown hrow hgr
   · exact heap_setCell_same w g x _ _ _ hh
   · rw[List.length_set,Array.toList_setIfInBounds,List.take_set,ht]
theorem far_of {N:List Int}{D:List (List Int)}{z n:Nat} (hF:frmT N D=true) (hH:hasN z N=true) (hJ:inJS N=false) (hz:z<=n):farT n N:=fun j hj=>by
 have h1:=(frmT_of hF).2.2 j hj
 have h2:=(hasN_iff _ _).1 hH j hj
 have h3:=(inJS_no N).1 hJ j hj
 unfold OutJ
 omega
section
variable {q1 q2:Int}{N1 N2:List Int}{D1 D2 Z G:List (List Int)}{er:Int}
theorem vis_empty {s:DS} (h:s.U=[]):s.vis=s.F:=by unfold DS.vis;rw[h];rfl
end
def eqO (A B:List (List Int)):Prop:=A.length=B.length/\∀ i,OutJ i->i<B.length->A.getD i []=B.getD i []
theorem eqO.refl (A:List (List Int)):eqO A A:=⟨rfl,fun _ _ _=>rfl⟩
theorem eqO.trans {A B C:List (List Int)} (h:eqO A B) (k:eqO B C):eqO A C:=⟨h.1.trans k.1,fun i ho hi=>(h.2 i ho (by rw[k.1];exact hi)).trans (k.2 i ho hi)⟩
def okT (n:Nat) (N:List Int) (D:List (List Int)):Prop:=frmT N D=true/\hasN n N=true/\inJS N=false
theorem okT.far {n:Nat}{N:List Int}{D:List (List Int)} (h:okT n N D):farT n N:=far_of h.1 h.2.1 h.2.2 (Nat.le_refl _)
theorem okT.takes {n:Nat}{N:List Int}{D:List (List Int)} (h:okT n N D) (h64:64<=n):takesT n N D=true:=by
 unfold takesT
 rw[decide_eq_true h64,h.1,h.2.1];rfl
theorem appU_eqO {N:List Int}{D A B:List (List Int)} (hF:frmT N D=true) (h:eqO A B):eqO (appU (homeW N D) A) (appU (homeW N D) B):=by
 refine ⟨by rw[appU_length,appU_length];exact h.1,fun i ho hi=>?_⟩
 rw[appU_length] at hi
 exact home_all hF A B h.1 i hi (.inl (h.2 i ho hi))
def Jst (n:Nat) (F G:List (List Int)):Prop:=
 F.length=n/\G.length=n/\((∃ q N D Z,okT n N D/\InvT F q N D Z/\eqO (appU (homeW N D) Z) G)\/InvN F G)
def Lst (n:Nat) (s:DS) (G:List (List Int)):Prop:=
 s.F.length=n/\eqO s.vis G/\((∃ q N D Z,okT n N D/\InvT s.F q N D Z/\(∀ x∈s.U,x∈homeW N D)/\eqO (appU (homeW N D) Z) G)\/(InvN s.F G/\s.U=[]))
theorem InvN.toO {F G G':List (List Int)} (h:InvN F G) (k:eqO G G'):InvN F G':=⟨h.1.trans k.1,h.2.1,fun i ho hi=>(h.2.2 i ho (by rw[k.1];exact hi)).trans (k.2 i ho hi)⟩
theorem Jst.toO {n:Nat}{F G G':List (List Int)} (h:Jst n F G) (k:eqO G G'):Jst n F G':=by
 obtain ⟨h1,h2,h3⟩:=h
 refine ⟨h1,k.1.symm.trans h2,h3.imp (fun ⟨q,N,D,Z,a,b,c⟩=>⟨q,N,D,Z,a,b,c.trans k⟩) (fun h=>h.toO k)⟩
theorem Lst.toO {n:Nat}{s:DS}{G G':List (List Int)} (h:Lst n s G) (k:eqO G G'):Lst n s G':=by
 obtain ⟨h1,h2,h3⟩:=h
 exact ⟨h1,h2.trans k,h3.imp (fun ⟨q,N,D,Z,a,b,c,e⟩=>⟨q,N,D,Z,a,b,c,e.trans k⟩) (fun h=>⟨h.1.toO k,h.2⟩)⟩
theorem Lst.glen {n:Nat}{s:DS}{G:List (List Int)} (h:Lst n s G):G.length=n:=by rw[<- h.2.1.1,DS.vis_length,h.1]
theorem Lst.pay {n:Nat}{s:DS}{G:List (List Int)} (h:Lst n s G):Lst n s.pay G:=h
theorem Lst.crash {n:Nat}{s:DS}{G:List (List Int)} (h:Lst n s G) (h43:43<=n) (kp:Nat->Bool):Jst n (appU (keepU kp s.U) s.F) G:=by
 have hg:=h.glen
 obtain ⟨h1,h2,h3⟩:=h
 refine ⟨by rw[appU_length];exact h1,hg,?_⟩
 rcases h3 with ⟨q,N,D,Z,a,b,c,e⟩| ⟨a,b⟩
 · have hz:Z.length=n:=b.1.symm.trans h1
   exact .inl ⟨q,N,D,Z,a,b.home a.1 (by rw[hz];exact a.far) (by omega) fun x hx=>c x (keepU_mem hx),e⟩
 · rw[b]
   exact .inr a
theorem layN_crash {q2:Int}{N2:List Int}{D2 G:List (List Int)} (hG:43<=G.length) {W:List (Nat × List Int)} (hW:layW q2 N2 D2 W) (hF2:frmT N2 D2=true) (hq2:0<=q2/\q2<4294967296) (s:DS) (hs:InvN s.F G) (hU:s.U=[]) (kp:Nat->Bool):
 let r:=runA (layA q2 W) s
 (InvN (appU (keepU kp r.2.U) r.2.F) G/\r.1=2\/InvT (appU (keepU kp r.2.U) r.2.F) q2 N2 D2 G)/\
   (r.1=0->r.2.U=[]/\InvT r.2.F q2 N2 D2 G/\∀ i,OutJ i->i<G.length->r.2.F.getD i []=G.getD i []):=by
 intro r
 obtain ⟨k,hk,hfu,hr⟩:=runA_pre (layA q2 W) s
 have hrF:r.2.F=(foldA ((layA q2 W).take k) s.fuP).1:=congrArg Prod.fst hfu
 have hrU:r.2.U=(foldA ((layA q2 W).take k) s.fuP).2:=congrArg Prod.snd hfu
 have hlen:(layA q2 W).length=6+W.length:=by simp[layA];omega
 have hfl:=hs.1
 obtain ⟨V0,hV0⟩:∃ V0,V0=s.F:=⟨_,rfl⟩
 have hfu0:s.fuP=(V0,[]):=by rw[hV0,<- hU];rfl
 have hN0:InvN V0 G:=by rw[hV0];exact hs
 rw[hfu0] at hrF hrU
 obtain ⟨V1,hV1⟩:∃ V1,V1=V0.set 42 z256:=⟨_,rfl⟩
 have hV0l:V0.length=G.length:=hN0.1
 have hV1l:V1.length=G.length:=by rw[hV1,List.length_set,hV0l]
 have out42:∀ i,OutJ i->42≠i:=fun i hi e=>by rcases hi with h|h <;> omega
 have hN1:InvN V1 G:=⟨hV1l,by rw[hV1];exact set_same _ _ _ (by omega),fun i hi hl=>by rw[hV1,set_other _ _ _ _ (out42 i hi)];exact hN0.2.2 i hi hl⟩
 have hWN:∀ X,(∀ x∈X,x∈W)->InvN (appU X V1) G:=fun X hX=>by
  refine ⟨by rw[appU_length,hV1l],?_,fun i hi hl=>?_⟩
  · rw[appU_other X V1 42 fun x hx e=>by have:=(hW.1 x (hX x hx)).2;omega];exact hN1.2.1
  · rw[appU_other X V1 i fun x hx e=>by have:=hW.1 x (hX x hx);rcases hi with h|h <;> omega]
    exact hN1.2.2 i hi hl
 obtain ⟨V2,hV2⟩:∃ V2,V2=appU W V1:=⟨_,rfl⟩
 have hV2l:V2.length=G.length:=by rw[hV2,appU_length,hV1l]
 have hN2:InvN V2 G:=by rw[hV2];exact hWN W fun x hx=>hx
 obtain ⟨V3,hV3⟩:∃ V3,V3=V2.set 42 (sealS (endL q2)):=⟨_,rfl⟩
 have hV3l:V3.length=G.length:=by rw[hV3,List.length_set,hV2l]
 obtain ⟨hd,hbl⟩:=hW.2 V1 (by omega)
 have h37:=(frmT_of hF2).1
 have hT3:isTxn (jour V3) q2 N2 D2:=by
  refine jour_txn (by omega) hF2 hq2 ?_ (fun j hj=>?_) ?_
  · rw[hV3,set_other _ _ _ _ (by omega),hV2];exact hd
  · rw[hV3,set_other _ _ _ _ (by omega),hV2];exact hbl j hj
  · rw[hV3];exact set_same _ _ _ (by omega)
 have hV3o:∀ i,OutJ i->i<G.length->V3.getD i []=G.getD i []:=fun i hi hl=>by rw[hV3,set_other _ _ _ _ (out42 i hi)];exact hN2.2.2 i hi hl
 have hI3:InvT V3 q2 N2 D2 G:=⟨hV3l,hT3,fun i hi hl=>.inl (hV3o i hi hl)⟩
 have a1:foldA [.f,.w 42 z256,.f] (V0,[])=(V1,[]):=by
  show (appU ([] ++ [(42,z256)]) (appU [] V0),([]:List (Nat × List Int)))=(V1,[])
  rw[hV1];rfl
 have full:k=(layA q2 W).length->r.2.F=V3/\r.2.U=[]:=fun e=>by
  rw[hrF,hrU,e,List.take_length]
  unfold layA
  rw[foldA_append,foldA_append,foldA_ws,a1]
  show (appU ([] ++ [(42,sealS (endL q2))]) (appU ([] ++ W) V1))=V3/\_
  rw[hV3,hV2]
  exact ⟨rfl,rfl⟩
 refine ⟨?_,fun h0=>?_⟩
 · have hcase:k=0\/k=1\/k=2\/(3<=k/\k<=3+W.length)\/k=4+W.length\/k=5+W.length\/k=6+W.length:=by omega
   have h2:k≠(layA q2 W).length->r.1=2:=fun hne=>by
    rcases hr with ⟨_,h⟩|h
    · exact absurd h hne
    · exact h
   have step:∀ j,(layA q2 W).take (3+j)=([PA.f,PA.w 42 z256,PA.f]:List PA) ++ ((W.map fun y:Nat × List Int=>PA.w y.1 y.2) ++ [PA.f,PA.w 42 (sealS (endL q2)),PA.f]).take j:=fun j=>by
    unfold layA
    rw[List.append_assoc]
    exact List.take_length_add_append (l₁:=([PA.f,PA.w 42 z256,PA.f]:List PA)) j
   rcases hcase with rfl|rfl|rfl| ⟨ha,hb⟩|rfl|rfl|rfl
   · have e1:r.2.F=V0:=hrF
     have e2:r.2.U=[]:=hrU
     rw[e1,e2]
     exact .inl ⟨hN0,h2 (by omega)⟩
   · have e1:r.2.F=V0:=hrF
     have e2:r.2.U=[]:=hrU
     rw[e1,e2]
     exact .inl ⟨hN0,h2 (by omega)⟩
   · have e1:r.2.F=V0:=hrF
     have e2:r.2.U=[(42,z256)]:=hrU
     rw[e1,e2]
     rcases keepU_one kp (42,z256) with e|e
     · rw[e];exact .inl ⟨hN0,h2 (by omega)⟩
     · rw[e]
       refine .inl ⟨?_,h2 (by omega)⟩
       show InvN (V0.set 42 z256) G
       rw[<- hV1];exact hN1
   · obtain ⟨j,rfl⟩:∃ j,k=3+j:=⟨k-3,by omega⟩
     have hj:j<=W.length:=by omega
     rw[step,List.take_append_of_le_length (by simpa using hj),<- List.map_take,foldA_append,a1,foldA_ws] at hrF hrU
     rw[hrF,hrU]
     refine .inl ⟨hWN _ fun x hx=>?_,h2 (by omega)⟩
     have:=keepU_mem hx
     rw[List.nil_append] at this
     exact List.mem_of_mem_take this
   · have e0:(layA q2 W).take (4+W.length)=[.f,.w 42 z256,.f] ++ ((W.map fun y=>PA.w y.1 y.2) ++ [.f]):=by
      rw[show 4+W.length=3+(W.length+1) by omega,step]
      congr 1
      rw[show W.length+1=(W.map fun y=>PA.w y.1 y.2).length+1 by simp,List.take_length_add_append];rfl
     rw[e0,foldA_append,foldA_append,a1,foldA_ws] at hrF hrU
     have e1:r.2.F=V2:=by rw[hV2];exact hrF
     have e2:r.2.U=[]:=hrU
     rw[e1,e2]
     exact .inl ⟨hN2,h2 (by omega)⟩
   · have e0:(layA q2 W).take (5+W.length)=[.f,.w 42 z256,.f] ++ ((W.map fun y=>PA.w y.1 y.2) ++ [.f,.w 42 (sealS (endL q2))]):=by
      rw[show 5+W.length=3+(W.length+2) by omega,step]
      congr 1
      rw[show W.length+2=(W.map fun y=>PA.w y.1 y.2).length+2 by simp,List.take_length_add_append];rfl
     rw[e0,foldA_append,foldA_append,a1,foldA_ws] at hrF hrU
     have e1:r.2.F=V2:=by rw[hV2];exact hrF
     have e2:r.2.U=[(42,sealS (endL q2))]:=hrU
     rw[e1,e2]
     rcases keepU_one kp (42,sealS (endL q2)) with e|e
     · rw[e];exact .inl ⟨hN2,h2 (by omega)⟩
     · rw[e]
       refine .inr ?_
       show InvT (V2.set 42 (sealS (endL q2))) q2 N2 D2 G
       rw[<- hV3];exact hI3
   · obtain ⟨e1,e2⟩:=full (by omega)
     rw[e1,e2]
     exact .inr hI3
 · have hkk:k=(layA q2 W).length:=by
    rcases hr with ⟨_,h⟩|h
    · exact h
    · have h0':(runA (layA q2 W) s).1=0:=h0
      rw[h0'] at h;cases h
   obtain ⟨e1,e2⟩:=full hkk
   rw[e1,e2]
   exact ⟨rfl,hI3,hV3o⟩
def Mst (n:Nat) (s:DS) (q:Int) (N:List Int) (D G:List (List Int)):Prop:=s.U=[]/\s.F.length=n/\InvT s.F q N D G/\eqO s.F G
theorem Lst.write {n:Nat}{s:DS}{G:List (List Int)} (h:Lst n s G) (h43:43<=n) {q:Int}{N:List Int}{D:List (List Int)} (hT:okT n N D) (hq:0<=q/\q<4294967296):
 let r:=runA (layA q (layWs q N D)) s
 (∀ kp,r.1=2->Jst n (appU (keepU kp r.2.U) r.2.F) G\/Jst n (appU (keepU kp r.2.U) r.2.F) (appU (homeW N D) G))/\(r.1=0->Mst n r.2 q N D G):=by
 intro r
 have hg:=h.glen
 obtain ⟨h1,h2,h3⟩:=h
 have hl:r.2.F.length=n:=(runA_len _ s).1.trans h1
 have hal:∀ kp,(appU (keepU kp r.2.U) r.2.F).length=n:=fun kp=>by rw[appU_length,hl]
 have hGn:(appU (homeW N D) G).length=n:=by rw[appU_length,hg]
 rcases h3 with ⟨q1,N1,D1,Z,a,b,c,e⟩| ⟨a,b⟩
 · have hz:Z.length=n:=b.1.symm.trans h1
   have hvis:∀ i,OutJ i->i<Z.length->s.vis.getD i []=(appU (homeW N1 D1) Z).getD i []:=fun i ho hi=>by
    rw[hz] at hi
    exact (h2.2 i ho (by omega)).trans (e.2 i ho (by omega)).symm
   have key:=fun kp=>lay_crash (q1:=q1) (q2:=q) (by omega) (layW_of hT.1) a.1 (by rw[hz];exact a.far) hT.1 hq s b c hvis kp
   refine ⟨fun kp h2'=>?_,fun h0=>?_⟩
   · rcases (key kp).1 with ⟨k1,_⟩| ⟨k1,_⟩|k1
     · exact .inl ⟨hal kp,hg,.inl ⟨q1,N1,D1,Z,a,k1,e⟩⟩
     · exact .inl ⟨hal kp,hg,.inr (k1.toO e)⟩
     · exact .inr ⟨hal kp,hGn,.inl ⟨q,N,D,_,hT,k1,appU_eqO hT.1 e⟩⟩
   · obtain ⟨k1,k2,k3⟩:=(key fun _=>true).2 h0
     have hge:eqO r.2.F G:=⟨by rw[hl,hg],fun i ho hi=>(k3 i ho (by omega)).trans (e.2 i ho hi)⟩
     refine ⟨k1,hl,⟨by rw[hl,hg],k2.2.1,fun i ho hi=>.inl (hge.2 i ho hi)⟩,hge⟩
 · have key:=fun kp=>layN_crash (q2:=q) (by omega) (layW_of hT.1) hT.1 hq s a b kp
   refine ⟨fun kp h2'=>?_,fun h0=>?_⟩
   · rcases (key kp).1 with ⟨k1,_⟩|k1
     · exact .inl ⟨hal kp,hg,.inr k1⟩
     · exact .inr ⟨hal kp,hGn,.inl ⟨q,N,D,_,hT,k1,eqO.refl _⟩⟩
   · obtain ⟨k1,k2,k3⟩:=(key fun _=>true).2 h0
     exact ⟨k1,hl,k2,⟨by rw[hl,hg],fun i ho hi=>k3 i ho hi⟩⟩
theorem Mst.home {n:Nat}{s:DS}{q:Int}{N:List Int}{D G:List (List Int)} (h:Mst n s q N D G) (h43:43<=n) (hT:okT n N D):
 let r:=runA (homeA N D) s
 (∀ kp,Jst n (appU (keepU kp r.2.U) r.2.F) (appU (homeW N D) G))/\(r.1=0->Lst n r.2 (appU (homeW N D) G)):=by
 intro r
 obtain ⟨h1,h2,h3,h4⟩:=h
 have hg:G.length=n:=h4.1.symm.trans h2
 have hl:r.2.F.length=n:=(runA_len _ s).1.trans h2
 have key:∀ kp,InvT (appU (keepU kp r.2.U) r.2.F) q N D G:=fun kp=>by
  have:=(home_crash hT.1 (by rw[hg];exact hT.far) (by omega) s h3 (by rw[h1];intro x hx;cases hx) false kp).1
  rw[show (if (false:Bool)=true then [PA.f] else [])=[] from rfl,List.append_nil] at this
  exact this
 refine ⟨fun kp=>⟨by rw[appU_length,hl],by rw[appU_length,hg],.inl ⟨q,N,D,G,hT,key kp,eqO.refl _⟩⟩,fun h0=>?_⟩
 obtain ⟨k,hk,hfu,hr⟩:=runA_pre (homeA N D) s
 have hkk:k=(homeA N D).length:=by
  rcases hr with ⟨_,h⟩|h
  · exact h
  · have h0':(runA (homeA N D) s).1=0:=h0
    rw[h0'] at h;cases h
 have hrF:r.2.F=(foldA ((homeA N D).take k) s.fuP).1:=congrArg Prod.fst hfu
 have hrU:r.2.U=(foldA ((homeA N D).take k) s.fuP).2:=congrArg Prod.snd hfu
 rw[hkk,foldA_home] at hrF hrU
 have e3:(homeW N D).take (homeA N D).length=homeW N D:=List.take_of_length_le (by simp[homeA])
 rw[e3] at hrU
 have e1:r.2.F=s.F:=hrF
 have e2:r.2.U=homeW N D:=by rw[hrU];show s.U ++ _=_;rw[h1,List.nil_append]
 refine ⟨hl,?_,.inl ⟨q,N,D,G,hT,by rw[e1];exact h3,(fun x hx=>by rw[e2] at hx;exact hx),eqO.refl _⟩⟩
 show eqO (appU r.2.U r.2.F) _
 rw[e1,e2]
 exact appU_eqO hT.1 h4
theorem run_fu (a:PA) (s:DS):(a.run s).fu=s.fu:=by cases a <;> rfl
theorem runA_fu:∀ (A:List PA) (s:DS),(runA A s).2.fu=s.fu
 |[],s=>rfl
 |a :: A,s=>by
  rw[runA_cons]
  split
  · exact (runA_fu A _).trans (run_fu a s)
  · rfl
theorem recover_any {w:World}{P:Nat->Prop}{p:Value}{s:DS} (h:Dk w P p s) {n:Nat}{G:List (List Int)} (h64:64<=n) (hU:s.U=[]) (hd:s.dn=false) (hJ:Jst n s.F G):
 Calls Tryz.prog 89 #[p] w fun e w'=>∃ x r s' P',e=.returned (.tuple #[.int .u32 x,.int .i64 r])/\Dk w' P' p s'/\Chg P P' w w'/\s'.U.length<=1000/\s'.F.length=n/\(r=0\/r=2)/\(∀ k,Jst n (s'.crash k).F G)/\(r=0->s'.dn=false/\s'.U=[]/\Lst n s' G)/\(s.fu=false->r=0)/\(0<=x/\x<4294967296)/\s'.fu=s.fu:=by
 have hJ':=hJ
 obtain ⟨hFl,hg,hI⟩:=hJ
 have hv:=vis_empty hU
 have hU0:s.U.length<=900000:=by rw[hU];show 0<=900000;omega
 have hpw:∀ (A:List PA) (t:DS),(runA A t).1=0->t.dn=false->(runA A t).2.dn=false:=by
  intro A
  induction A with
  |nil=>intro t _ h;exact h
  |cons a A ih=>
   intro t h0 hdn
   rw[runA_cons] at h0 |-
   cases hok:t.ok
   · rw[hok,if_neg Bool.false_ne_true] at h0
     exact absurd (show (2:Int)=0 from h0) (by decide)
   · rw[hok,if_pos rfl] at h0
     rw[if_pos rfl]
     refine ih _ h0 ?_
     have:pDn t.fu t.le t.dn=false:=by
      unfold DS.ok pOk at hok
      unfold pDn
      revert hok
      rw[hdn]
      cases t.fu <;> simp
     cases a <;> exact this
 rcases hI with ⟨q,N,D,Z,hT,hI,he⟩|hN
 · have hz:Z.length=n:=hI.1.symm.trans hFl
   have l37:=(frmT_of hT.1).1
   have hc:∀ kp,InvT (appU (keepU kp (runA (homeA N D ++ [.f]) s).2.U) (runA (homeA N D ++ [.f]) s).2.F) q N D Z/\InvT (runA (homeA N D ++ [.f]) s).2.F q N D Z/\(∀ x∈(runA (homeA N D ++ [.f]) s).2.U,x∈homeW N D):=fun kp=>home_crash hT.1 (by rw[hz];exact hT.far) (by omega) s hI (by rw[hU];intro x hx;cases hx) true kp
   have hlen:=runA_len (homeA N D ++ [.f]) s
   rw[List.length_append,homeA_length,hU] at hlen
   have hfree:=fun h1=>runA_free (homeA N D ++ [.f]) s h1 hd
   refine (gRecover_yes h (by omega) hd hU0 (q:=q) (N:=N) (D:=D) ⟨by rw[hv];exact hI.2.1,by rw[hFl];exact hT.2.1⟩).mono ?_
   rintro e w' ⟨x,rfl,⟨P',hk,hcg⟩,_,hx2⟩
   refine ⟨x,_,_,P',rfl,hk,hcg,by have:=hlen.2;simp at this;omega,hlen.1.trans hFl,runA_two _ _,fun k=>⟨by show (appU _ _).length=n;rw[appU_length,hlen.1,hFl],hg,.inl ⟨q,N,D,Z,hT,(hc (kpOf k)).1,he⟩⟩,fun h0=>?_,fun h1=>(hfree h1).1,hx2,runA_fu _ _⟩
   obtain ⟨k,hk',hfu,hr⟩:=runA_pre (homeA N D ++ [.f]) s
   have hkk:k=(homeA N D ++ [PA.f]).length:=by
    rcases hr with ⟨_,h⟩|h
    · exact h
    · rw[h0] at h;cases h
   rw[hkk,List.take_length,foldA_append] at hfu
   have e2:=foldA_home N D (homeA N D).length s.fuP
   rw[List.take_length] at e2
   have e3:(homeW N D).take (homeA N D).length=homeW N D:=List.take_of_length_le (by simp[homeA])
   rw[e3] at e2
   rw[e2] at hfu
   have a1:(runA (homeA N D ++ [.f]) s).2.F=appU (s.U ++ homeW N D) s.F:=congrArg Prod.fst hfu
   have a2:(runA (homeA N D ++ [.f]) s).2.U=[]:=congrArg Prod.snd hfu
   rw[hU,List.nil_append] at a1
   refine ⟨hpw _ _ h0 hd,a2,hlen.1.trans hFl,?_,.inl ⟨q,N,D,Z,hT,(hc fun _=>true).2.1,(fun x hx=>by rw[a2] at hx;cases hx),he⟩⟩
   rw[vis_empty a2,a1]
   exact eqO.trans ⟨by rw[appU_length,appU_length,hFl,hz],fun i ho hi=>hI.done hT.1 i ho (by rw[appU_length] at hi;exact hi)⟩ he
 · have hno:∀ q N D,¬ holdsT s.F.length (jour s.vis) q N D:=fun q N D ht=>jour_zero (by rw[DS.vis_length];omega) (by rw[hv];exact hN.2.1) q N D ht.1
   have hst:(runA ([] ++ [.f]) s).2.F=s.F/\(runA ([] ++ [.f]) s).2.U=[]:=by
    rw[List.nil_append,runA_cons]
    cases hok:s.ok
    · rw[if_neg Bool.false_ne_true]
      exact ⟨rfl,hU⟩
    · rw[if_pos rfl]
      exact ⟨hv,rfl⟩
   have hfree:=fun h1=>runA_free ([] ++ [.f]) s h1 hd
   refine (gRecover_no h (by omega) hd hU0 hno).mono ?_
   rintro e w' ⟨x,rfl,⟨P',hk,hcg⟩,_,hx2⟩
   refine ⟨x,_,_,P',rfl,hk,hcg,by rw[hst.2];show 0<=1000;omega,by rw[hst.1];exact hFl,runA_two _ _,fun k=>?_,fun h0=>?_,fun h1=>(hfree h1).1,hx2,runA_fu _ _⟩
   · show Jst n (appU (keepU (kpOf k) _) _) G
     rw[hst.1,hst.2]
     exact ⟨hFl,hg,.inr hN⟩
   · refine ⟨hpw _ _ h0 hd,hst.2,by rw[hst.1];exact hFl,?_,.inr ⟨by rw[hst.1];exact hN,hst.2⟩⟩
     rw[vis_empty hst.2,hst.1]
     exact ⟨by rw[hFl,hg],hN.2.2⟩
end Go.Proofs.YtedabomlfcghoaaGreat
namespace Go.Proofs.YtedabomlfcghoaaGreat
set_option maxRecDepth 100000
open Go.RowKit BM
theorem pageK_split (O:List (Int × Int)):∀ k j,j<k->∃ R,pageK O k=pageK O j ++ (lowB (O.getD j (0,0)).1 2 ++ (lowB (O.getD j (0,0)).2 2 ++ R))
 |0,j,h=>absurd h (Nat.not_lt_zero _)
 |k+1,j,h=>by
  rw[pageK]
  rcases Nat.lt_succ_iff_lt_or_eq.1 h with h|rfl
  · obtain ⟨R,e⟩:=pageK_split O k j h
    exact ⟨R ++ (lowB (O.getD k (0,0)).1 2 ++ lowB (O.getD k (0,0)).2 2),by rw[e];simp[List.append_assoc]⟩
  · exact ⟨[],by simp[List.append_assoc]⟩
theorem ownJ_page {O:List (Int × Int)} (hB:OwB O) {k j:Nat} (hj:j<k):ownJ (pageK O k) j=O.getD j (0,0):=by
 obtain ⟨R,e⟩:=pageK_split O k j hj
 have b:=hB j
 have e0:(256:Int) ^ 2=65536:=rfl
 have e1:getV (pageK O k) (4*j) 2=(O.getD j (0,0)).1:=by
  rw[e,getV_midst _ _ _ 2 b.1.1 (4*j) (pageK_length O j)];omega
 have e2:getV (pageK O k) (4*j+2) 2=(O.getD j (0,0)).2:=by
  rw[e,<- List.append_assoc,getV_midst _ _ _ 2 b.2.1 (4*j+2) (by rw[List.length_append,pageK_length,lowB_length])];omega
 exact Prod.ext e1 e2
theorem ownK_page {O:List (Int × Int)} (hB:OwB O) (h:O.length=64):ownK (pageS O) 64=O:=by
 apply List.ext_getElem (by rw[ownK_length,h])
 intro i h1 h2
 have h3:i<64:=by rwa [ownK_length] at h1
 have e:=ownJ_page hB (k:=64) h3
 simp only[ownK,List.getElem_map,List.getElem_range,pageS,h]
 rw[e,List.getD_eq_getElem?_getD,List.getElem?_eq_getElem h2];rfl
def grO (O:List (Int × Int)) (g:Nat):List (Int × Int):=(O.drop (64*g)).take 64
theorem grO_length {O:List (Int × Int)}{k g:Nat} (h:O.length=64*k) (hg:g<k):(grO O g).length=64:=by
 unfold grO;rw[List.length_take,List.length_drop];omega
theorem grO_getD (O:List (Int × Int)) (g:Nat) {j:Nat} (hj:j<64):(grO O g).getD j (0,0)=O.getD (64*g+j) (0,0):=by
 unfold grO
 rw[List.getD_eq_getElem?_getD,List.getElem?_take,if_pos hj,List.getElem?_drop,List.getD_eq_getElem?_getD]
theorem grO_set (O:List (Int × Int)) {n g:Nat} (o:Int × Int) (hg:n / 64≠g):grO (O.set n o) g=grO O g:=by
 apply List.ext_getElem?
 intro i
 unfold grO
 rw[List.getElem?_take,List.getElem?_take]
 split
 · rw[List.getElem?_drop,List.getElem?_drop,List.getElem?_set_ne (by omega)]
 · rfl
theorem grO_set_self (O:List (Int × Int)) (n:Nat) (o:Int × Int):grO (O.set n o) (n / 64)=(grO O (n / 64)).set (n%64) o:=by
 apply List.ext_getElem?
 intro i
 unfold grO
 rw[List.getElem?_take]
 by_cases hi:i<64
 · rw[if_pos hi,List.getElem?_drop]
   by_cases he:n%64=i
   · have e1:64*(n / 64)+i=n:=by omega
     rw[e1]
     by_cases hn:n<O.length
     · rw[List.getElem?_set_self hn,he,List.getElem?_set_self (by rw[List.length_take,List.length_drop];omega)]
     · rw[List.getElem?_eq_none (by rw[List.length_set];omega),List.getElem?_eq_none (by rw[List.length_set,List.length_take,List.length_drop];omega)]
   · rw[List.getElem?_set_ne (by omega),List.getElem?_set_ne he,List.getElem?_take,if_pos hi,List.getElem?_drop]
 · rw[if_neg hi,List.getElem?_eq_none]
   rw[List.length_set,List.length_take];omega
structure OOk (O:List (Int × Int)) (k:Nat):Prop where
 len:O.length=64*k
 k1:1<=k
 k12:k<=12
 bd:OwB O
 frm:∀ j,j<64*k->frmJ O j=true
 fx:∀ j,j<64*k->decide ((O.getD j (0,0)).1=65535)=fixB (j:Int)
theorem OwB.set {O:List (Int × Int)} (h:OwB O) (n:Nat) {i j:Int} (hi:0<=i/\i<=65535) (hj:0<=j/\j<=65535):OwB (O.set n (i,j)):=fun m=>by
 rw[List.getD_eq_getElem?_getD]
 by_cases hm:m=n
 · subst hm
   by_cases hl:m<O.length
   · rw[List.getElem?_set_self hl];exact ⟨hi,hj⟩
   · rw[List.getElem?_eq_none (by rw[List.length_set];omega)];decide
 · rw[List.getElem?_set_ne (Ne.symm hm),<- List.getD_eq_getElem?_getD];exact h m
theorem OOk.set {O:List (Int × Int)}{k n:Nat} (h:OOk O k) (hn:n<64*k) (hx:fixB (n:Int)=false) {i j:Int} (hi:0<=i/\i<=65535) (hj:0<=j/\j<=65535) (hf:frmO i j=true) (hne:i≠65535):OOk (O.set n (i,j)) k:=by
 have hl:=h.len
 have e:∀ m,(O.set n (i,j)).getD m (0,0)=if m=n then (i,j) else O.getD m (0,0):=fun m=>getD_set O n m (i,j) (0,0) (by omega)
 refine ⟨by rw[List.length_set];exact hl,h.k1,h.k12,h.bd.set n hi hj,fun m hm=>?_,fun m hm=>?_⟩
 · unfold frmJ;rw[e];split
   · exact hf
   · exact h.frm m hm
 · rw[e];split
   · next hmn=>rw[hmn,hx];exact decide_eq_false hne
   · exact h.fx m hm
theorem OOk.gr {O:List (Int × Int)}{k g:Nat} (h:OOk O k) (hg:g<k):OwB (grO O g)/\allO (grO O g)=true/\∀ j,j<64->decide (((grO O g).getD j (0,0)).1=65535)=fixB (64*(g:Int)+j):=by
 have hl:=grO_length h.len hg
 refine ⟨owB_of fun j hj=>?_,?_,fun j hj=>?_⟩
 · rw[grO_getD O g (by omega)];exact h.bd _
 · rw[allO,hl,(frmK_iff _ 64).2 fun j hj=>?_];· rfl
   have:=h.frm (64*g+j) (by omega)
   unfold frmJ at this |-
   rw[grO_getD O g hj];exact this
 · rw[grO_getD O g hj,h.fx _ (by omega)];congr 1
def dscN (g:Nat):Nat:=if g=0 then 1 else 64*g
theorem dscN_I {g:Nat} (hg:g<12):dscI (g:Int)=(dscN g:Int):=by
 unfold dscI dscN
 rw[if_pos (by omega)]
 by_cases h:g=0
 · subst h;rfl
 · rw[if_neg (by omega),if_neg h];omega
theorem ownN_I {g:Nat} (hg:g<12):ownI (g:Int)=(dscN g:Int)+1:=by
 unfold ownI;rw[if_pos (by omega),dscN_I hg]
theorem dscN_in {g k:Nat} (hg:g<k):dscN g+1<64*k/\OutJ (dscN g)/\OutJ (dscN g+1):=by
 unfold dscN OutJ;split <;> omega
theorem dscN_ne {g m:Nat} (h:g≠m):dscN g≠dscN m/\dscN g+1≠dscN m/\dscN g≠dscN m+1:=by
 unfold dscN;split <;> split <;> omega
structure Has (G:List (List Int)) (O:List (Int × Int)) (k:Nat):Prop where
 len:G.length=64*k
 ds:∀ g,g<k->G.getD (dscN g) []=descS (g:Int) (usedK (grO O g) 64)
 ow:∀ g,g<k->G.getD (dscN g+1) []=pageS (grO O g)
def putG (G:List (List Int)) (g:Nat) (D:List (Int × Int)):List (List Int):=(G.set (dscN g+1) (pageS D)).set (dscN g) (descS (g:Int) (usedK D 64))
theorem Has.put {G:List (List Int)}{O:List (Int × Int)}{k n:Nat} (h:Has G O k) (hn:n<64*k) (o:Int × Int):Has (putG G (n / 64) (grO (O.set n o) (n / 64))) (O.set n o) k:=by
 have hg:n / 64<k:=by omega
 have hl:=h.len
 have hi:=dscN_in hg
 have e:∀ m,(putG G (n / 64) (grO (O.set n o) (n / 64))).getD m []=if m=dscN (n / 64) then descS ((n / 64:Nat):Int) (usedK (grO (O.set n o) (n / 64)) 64) else if m=dscN (n / 64)+1 then pageS (grO (O.set n o) (n / 64)) else G.getD m []:=fun m=>by
  unfold putG
  rw[getD_set _ _ _ _ _ (by rw[List.length_set];omega),getD_set _ _ _ _ _ (by omega)]
 refine ⟨by unfold putG;rw[List.length_set,List.length_set];exact hl,fun g hgk=>?_,fun g hgk=>?_⟩
 · by_cases he:g=n / 64
   · subst he;rw[e,if_pos rfl]
   · have hne:=dscN_ne he
     rw[e,if_neg hne.1,if_neg hne.2.2,grO_set O o (Ne.symm he)];exact h.ds g hgk
 · by_cases he:g=n / 64
   · subst he;rw[e,if_neg (by omega),if_pos rfl]
   · have hne:=dscN_ne he
     rw[e,if_neg hne.2.1,if_neg (by omega),grO_set O o (Ne.symm he)];exact h.ow g hgk
theorem countB_snoc (L:List Bool) (b:Bool):countB (L ++ [b])=countB L+if b then 1 else 0:=by
 unfold countB;rw[List.filter_append];cases b <;> simp
theorem used_free (O:List (Int × Int)) (j:Nat):usedJ O j=!freeJ O j:=by
 unfold usedJ freeJ;by_cases h:(O.getD j (0,0)).1=0 <;> simp
theorem count_used {O:List (Int × Int)}{k:Nat} (h:OOk O k):∀ L,L<=64*k->countB (usedK O L)=cntU O L+cntF L
 |0,_=>rfl
 |L+1,hL=>by
  have ih:=count_used h L (by omega)
  have hf:=h.fx L (by omega)
  rw[usedK_succ,countB_snoc,ih,cntU,cntF,used_free]
  cases hx:fixB (L:Int)
  · cases hr:freeJ O L <;> simp <;> omega
  · rw[hx] at hf
    have hr:freeJ O L=false:=by
     have:=of_decide_eq_true hf
     unfold freeJ;exact decide_eq_false (by omega)
    rw[hr];simp;omega
theorem find_is {O:List (Int × Int)}{L:Nat} (h0:0<L) (goal:Int):firstS (usedK O L) goal=findS O L (goalS L goal):=by
 have hl:=usedK_length O L
 obtain ⟨g,hg⟩:∃ g,g=goalS L goal:=⟨_,rfl⟩
 have hgL:g<L:=by rw[hg];unfold goalS;split <;> omega
 have hu:∀ j,j<L->(usedK O L).getD j false=!freeJ O j:=fun j hj=>by rw[usedK_getD O L j hj,used_free]
 have hu1:∀ j,j<L->(usedK O L).getD j false=true->freeJ O j=false:=fun j hj h=>by rw[hu j hj] at h;simpa using h
 have hu0:∀ j,j<L->(usedK O L).getD j false=false->freeJ O j=true:=fun j hj h=>by rw[hu j hj] at h;simpa using h
 have e:firstS (usedK O L) goal=if 0<=firstZ (usedK O L) g then firstZ (usedK O L) g else firstZ (usedK O L) 0:=by
  unfold firstS
  rw[hl]
  unfold goalS at hg
  by_cases hin:0<=goal/\goal<L
  · rw[if_neg (show ¬ (goal<0\/(L:Int)<=goal) by omega)] at hg
    rw[if_pos hin,hg]
  · rw[if_pos (show goal<0\/(L:Int)<=goal by omega)] at hg
    rw[if_neg hin,hg];split <;> rfl
 rw[e,<- hg]
 clear e hg
 rcases firstZ_cases (usedK O L) g with ⟨e1,a1⟩| ⟨j,gj,jl,e1,z1,a1⟩
 · rw[e1,if_neg (by omega)]
   rcases firstZ_cases (usedK O L) 0 with ⟨e2,a2⟩| ⟨j,gj,jl,e2,z2,a2⟩
   · rw[e2,findS_none fun i hi=>?_]
     have hm:(g+i)%L<L:=Nat.mod_lt _ h0
     exact hu1 _ hm (a2 _ (Nat.zero_le _) (by omega))
   · rw[hl] at jl a1
     have hjg:j<g:=by
      apply Classical.byContradiction;intro hn
      have:=a1 j (by omega) jl
      rw[z2] at this;cases this
     have em:(g+(L-g+j))%L=j:=by
      rw[show g+(L-g+j)=j+L by omega,Nat.add_mod_right,Nat.mod_eq_of_lt jl]
     rw[e2,findS_hit (k:=L-g+j) (by omega) (by rw[em];exact hu0 j jl z2) fun i hi=>?_,em]
     by_cases hi2:g+i<L
     · rw[Nat.mod_eq_of_lt hi2];exact hu1 _ hi2 (a1 _ (by omega) hi2)
     · rw[show g+i=(g+i-L)+L by omega,Nat.add_mod_right,Nat.mod_eq_of_lt (by omega)]
       exact hu1 _ (by omega) (a2 _ (Nat.zero_le _) (by omega))
 · rw[hl] at jl
   have em:(g+(j-g))%L=j:=by rw[show g+(j-g)=j by omega,Nat.mod_eq_of_lt jl]
   rw[e1,if_pos (by omega),findS_hit (k:=j-g) (by omega) (by rw[em];exact hu0 j jl z1) fun i hi=>?_,em]
   rw[Nat.mod_eq_of_lt (by omega)]
   exact hu1 _ (by omega) (a1 _ (by omega) (by omega))
end Go.Proofs.YtedabomlfcghoaaGreat
namespace Go.Proofs.YtedabomlfcghoaaGreat
set_option maxRecDepth 100000
open Go.RowKit
def num (L:List Int) (i:Nat):Int:=L.getD i 0
def wid (i:Nat):Nat:=if i=1 then 1 else 2
def pos:Nat->Nat
 |0=>8
 |i+1=>pos i+wid i
def magicB:List Int:=[97,115,104,108,97,114,32,49]
def conS (L:List Int):Nat->List Int
 |0=>magicB
 |i+1=>conS L i ++ lowB (num L i) (wid i)
theorem conS_length (L:List Int):∀ i,(conS L i).length=pos i
 |0=>rfl
 |i+1=>by rw[conS,List.length_append,conS_length L i,lowB_length];rfl
def st0 (tg cu io ba:Int):Bool:=(tg==0) && ((cu==0) && ((io==0) && (ba==0)))
def st1 (b tg cu io ba:Int):Bool:=frmB tg && (decide (b<tg) && (decide (b / 64<=cu/\cu<=tg / 64) && ((io==0) && (ba==0))))
def st2 (b tg cu io ba:Int):Bool:=frmB tg && (decide (tg<b) && ((cu==0) && ((io==0) && (ba==0))))
def st3 (b tg cu io ba:Int):Bool:=(tg==0) && (decide (1<=io/\io<=47) && (decide (0<=ba/\ba<=b) && decide (0<=cu/\cu<=b)))
def stS (b st tg cu io ba:Int):Bool:=if st=0 then st0 tg cu io ba else if st=1 then st1 b tg cu io ba else if st=2 then st2 b tg cu io ba else if st=3 then st3 b tg cu io ba else false
def frmSt (L:List Int):Bool:=stS (num L 0) (num L 1) (num L 2) (num L 3) (num L 4) (num L 5)
def okTS (L:List Int) (i:Nat):Prop:=(0<=num L (6+i)/\num L (6+i)<=num L 0-1)/\fixB (num L (6+i))=false/\∀ k,k<i->num L (6+k)≠num L (6+i)
open Classical in
noncomputable def frmTo (L:List Int):Nat->Bool
 |0=>true
 |i+1=>frmTo L i && decide (okTS L i)
open Classical in
theorem frmTo_iff (L:List Int):∀ n,frmTo L n=true ↔ ∀ i,i<n->okTS L i
 |0=>⟨fun _ i h=>absurd h (Nat.not_lt_zero _),fun _=>rfl⟩
 |n+1=>by
  rw[frmTo,Bool.and_eq_true,frmTo_iff L n,decide_eq_true_eq]
  refine ⟨fun ⟨h1,h2⟩ i hi=>?_,fun h=>⟨fun i hi=>h i (by omega),h n (by omega)⟩⟩
  by_cases e:i=n
  · rw[e];exact h2
  · exact h1 i (by omega)
theorem frmTo_succ {L:List Int}{j:Nat} (h:frmTo L j=true) (hk:okTS L j):frmTo L (j+1)=true:=
 (frmTo_iff L (j+1)).2 fun i hi=>by
   by_cases e:i=j
   · rw[e];exact hk
   · exact (frmTo_iff L j).1 h i (by omega)
noncomputable def frmTS (L:List Int):Bool:=frmTo L 6
noncomputable def frmS (L:List Int):Bool:=frmB (num L 0) && (frmSt L && frmTS L)
noncomputable def limS (L:List Int):Int:=if frmS L=true then (if num L 1=2 then num L 2 else num L 0) else 0
def encS (L:List Int):List Int:=sealS (conS L 12)
def rdS (l:List Int):List Int:=(List.range 12).map fun i=>getV l (pos i) (wid i)
theorem rdS_length (l:List Int):(rdS l).length=12:=by simp[rdS]
theorem num_rdS (l:List Int) (i:Nat) (h:i<12):num (rdS l) i=getV l (pos i) (wid i):=by
 simp[num,rdS,List.getD_eq_getElem?_getD,h]
def hasS (l:List Int):Prop:=sealed l/\frmS (rdS (l.take 252))=true/\encS (rdS (l.take 252))=l
def decS (l:List Int):List Int:=rdS (l.take 252)
theorem frm_bound {L:List Int} (h:frmS L=true):frmB (num L 0)=true/\frmSt L=true/\frmTS L=true:=by
 simpa [frmS,Bool.and_eq_true] using h
theorem frm_tab {L:List Int} (h:frmTS L=true):∀ i,i<6->okTS L i:=(frmTo_iff L 6).1 h
theorem frm_num {L:List Int} (h:frmS L=true):∀ i,i<12->0<=num L i/\num L i<256 ^ wid i:=by
 obtain ⟨h1,h2,h3⟩:=frm_bound h
 have hb:=of_decide_eq_true h1
 have hst:num L 1=0\/num L 1=1\/num L 1=2\/num L 1=3:=by
  unfold frmSt stS at h2
  split at h2
  · exact .inl ‹_›
  · split at h2
    · exact .inr (.inl ‹_›)
    · split at h2
      · exact .inr (.inr (.inl ‹_›))
      · split at h2
        · exact .inr (.inr (.inr ‹_›))
        · cases h2
 have hfr:∀ {t:Int},frmB t=true->0<=t/\t<=768:=fun h=>by have:=of_decide_eq_true h;omega
 have hq:(0<=num L 2/\num L 2<=768)/\(0<=num L 3/\num L 3<=768)/\(0<=num L 4/\num L 4<=768)/\(0<=num L 5/\num L 5<=768):=by
  unfold frmSt stS at h2
  rcases hst with e|e|e|e
  · rw[e] at h2;simp only[if_true,st0,Bool.and_eq_true,beq_iff_eq] at h2;omega
  · rw[e] at h2
    simp only[show ¬ (1:Int)=0 by decide,if_false,if_true,st1,Bool.and_eq_true,beq_iff_eq,decide_eq_true_eq] at h2
    have:=hfr h2.1;omega
  · rw[e] at h2
    simp only[show ¬ (2:Int)=0 by decide,show ¬ (2:Int)=1 by decide,if_false,if_true,st2,Bool.and_eq_true,beq_iff_eq,decide_eq_true_eq] at h2
    have:=hfr h2.1;omega
  · rw[e] at h2
    simp only[show ¬ (3:Int)=0 by decide,show ¬ (3:Int)=1 by decide,show ¬ (3:Int)=2 by decide,if_false,if_true,st3,Bool.and_eq_true,beq_iff_eq,decide_eq_true_eq] at h2
    omega
 have ht:=frm_tab h3
 intro i hi
 have w2:∀ j,j≠1->(256:Int) ^ wid j=65536:=fun j hj=>by rw[wid,if_neg hj];rfl
 by_cases h0:i=0
 · subst h0;rw[w2 0 (by decide)];omega
 by_cases h1:i=1
 · subst h1;rw[show (256:Int) ^ wid 1=256 from rfl];omega
 rw[w2 i h1]
 by_cases h6:i<6
 · have:i=2\/i=3\/i=4\/i=5:=by omega
   rcases this with rfl|rfl|rfl|rfl <;> omega
 · obtain ⟨k,rfl⟩:∃ k,i=6+k:=⟨i-6,by omega⟩
   have:=(ht k (by omega)).1
   omega
theorem getV_mid (A B:List Int) (n:Int) (k:Nat) (h:0<=n) (h1:n<256 ^ k):getV (A ++ (lowB n k ++ B)) A.length k=n:=by
 unfold getV
 rw[List.drop_left,List.take_left' (lowB_length n k),leB_lowB n k h]
 exact Int.emod_eq_of_lt h h1
theorem conS_split (L:List Int) (i:Nat):∀ j,i<j->∃ B,conS L j=conS L i ++ (lowB (num L i) (wid i) ++ B):=by
 intro j
 induction j with
 |zero=>intro h;omega
 |succ j ih=>
  intro h
  by_cases e:i=j
  · subst e;exact ⟨[],by rw[conS];simp⟩
  · obtain ⟨B,hB⟩:=ih (by omega)
    exact ⟨B ++ lowB (num L j) (wid j),by rw[conS,hB];simp⟩
theorem con_le (L:List Int):(conS L 12).length=31:=conS_length L 12
theorem seal_take (c:List Int) (h:c.length<=252):(sealS c).take 252=fillS c:=by
 rw[sealS,List.take_left' (fillS_length c h)]
theorem list12 {L:List Int} (h:L.length=12) (M:List Int) (h':M.length=12) (e:∀ i,i<12->num L i=num M i):L=M:=by
 apply List.ext_getElem (by rw[h,h'])
 intro i h1 h2
 have:=e i (by omega)
 simpa [num,List.getD_eq_getElem?_getD,h1,h2] using this
theorem rd_enc {L:List Int} (hL:L.length=12) (h:frmS L=true):rdS ((encS L).take 252)=L:=by
 refine list12 (rdS_length _) _ hL fun i hi=>?_
 rw[num_rdS _ _ hi,encS,seal_take _ (by rw[con_le];decide),fillS]
 obtain ⟨B,hB⟩:=conS_split L i 12 hi
 obtain ⟨h0,h1⟩:=frm_num h i hi
 rw[hB,List.append_assoc,List.append_assoc,<- conS_length L i]
 exact getV_mid _ _ _ _ h0 h1
theorem has_enc {L:List Int} (hL:L.length=12) (h:frmS L=true):hasS (encS L)/\decS (encS L)=L:=by
 have e:=rd_enc hL h
 exact ⟨⟨sealed_sealS _ (by rw[con_le];decide),by rw[e];exact h,by rw[e]⟩,e⟩
theorem byt_magic:∀ x∈magicB,0<=x/\x<=255:=by decide
end Go.Proofs.YtedabomlfcghoaaGreat
