/- What the law rests on: part 19. -/
import Derived.Test.YtaakepjgpnaecaaGreatKP18
set_option linter.unusedVariables false
namespace Go.Proofs.YtaakepjgpnaecaaGreat
set_option maxRecDepth 100000
open Go.RowKit
theorem supL_full (n:Int) {k:Nat} (h:49<=k):supL n k=[n,0,0,0,0,0,43,44,45,46,47,48]:=by
 have e:tblL k=[43,44,45,46,47,48]:=by
  unfold tblL
  apply List.ext_getElem (by simp)
  intro i h1 h2
  simp only[List.getElem_map,List.getElem_range]
  simp at h1
  rw[if_pos (by omega)]
  have:i=0\/i=1\/i=2\/i=3\/i=4\/i=5:=by omega
  rcases this with rfl|rfl|rfl|rfl|rfl|rfl <;> rfl
 unfold supL;rw[e];rfl
theorem rSuper_at {kk:Nat} (h1:1<=kk) (h2:kk<=12) (w:World):Calls Tryz.prog 92 #[.int .i64 (64*(kk:Int))] w fun e w'=>e=.returned (.agg #[.int .i64 (64*(kk:Int)),.int .i64 0,.int .i64 0,.int .i64 0,.int .i64 0,.int .i64 0,.int .i64 43,.int .i64 44,.int .i64 45,.int .i64 46,.int .i64 47,.int .i64 48])/\Below w.heap.size w w':=by
 have:=rSuper_is h1 h2 w
 rw[supL_full _ (by omega)] at this
 exact this
theorem rEncS_new {kk:Nat} (h1:1<=kk) (h2:kk<=12) (w:World):Calls Tryz.prog 94 #[.agg #[.int .i64 (64*(kk:Int)),.int .i64 0,.int .i64 0,.int .i64 0,.int .i64 0,.int .i64 0,.int .i64 43,.int .i64 44,.int .i64 45,.int .i64 46,.int .i64 47,.int .i64 48]] w fun e w'=>∃ u,e=.returned (.tuple #[u,.int .i64 0])/\OB w' w.heap.size u (encS (newS kk))/\Below w.heap.size w w':=by
 have hT:Top (newS kk):=fun i=>by
  unfold num newS
  by_cases hi:i<12
  · have:i=0\/i=1\/i=2\/i=3\/i=4\/i=5\/i=6\/i=7\/i=8\/i=9\/i=10\/i=11:=by omega
    rcases this with rfl|rfl|rfl|rfl|rfl|rfl|rfl|rfl|rfl|rfl|rfl|rfl <;> simp <;> omega
  · rw[List.getD_eq_getElem?_getD,List.getElem?_eq_none (by simp;omega)];decide
 refine (rEnc_of (L:=newS kk) rfl hT w).mono fun e w' he=>?_
 rcases he with ⟨_,v,h1,h2,h3⟩| ⟨h0,_,_⟩
 · exact ⟨v,h1,h2,h3⟩
 · rw[newS_frm h1 h2] at h0;cases h0
theorem infoRN14:(Tryz.prog.info? 144).map (·.size)=some 14:=by kernel_rfl
theorem sup_tab {W:World}{g:Nat}{n:Int}{T:TypeId} (h:W.heap[g]? =some (.cells #[.int .i64 n,.int .i64 0,.int .i64 0,.int .i64 0,.int .i64 0,.int .i64 0,.int .i64 43,.int .i64 44,.int .i64 45,.int .i64 46,.int .i64 47,.int .i64 48] T (0,0))) {k:Nat} (hk:k<6):W.cell? ⟨g,6+k,none⟩=some (.int .i64 ((43+k:Nat):Int)):=by
 rw[cell_of_row _ _ _ _ _ _ h]
 have:k=0\/k=1\/k=2\/k=3\/k=4\/k=5:=by omega
 rcases this with rfl|rfl|rfl|rfl|rfl|rfl <;> rfl
set_option maxHeartbeats 4000000 in
theorem rFresh_is {kk:Nat} (h1:1<=kk) (h2:kk<=12) (w:World):Calls Tryz.prog 54 #[.int .i64 (64*(kk:Int)),.int .i64 (64*(kk:Int))] w fun e w'=>∃ v G,e=.returned v/\BBR w' 0 v G/\P2 G (newO kk) kk kk/\New3 G kk/\Below w.heap.size w w':=by
 have KN:=Lib.hid (fun (W:World)=>rSpNew_at h1 h2 W)
 have KG:=Lib.hid (fun (W:World)=>rGroups_yes kk h1 h2 W)
 have KSu:=Lib.hid (fun (W:World)=>rSuper_at h1 h2 W)
 have KES:=Lib.hid (fun (W:World)=>rEncS_new h1 h2 W)
 obtain ⟨M8,hM8⟩:∃ M:Nat,M=8:=⟨_,rfl⟩
 have HM8:Hid ((8:Int)=(M8:Int)):=Lib.hid (by omega)
 have hM8':1<M8:=by omega
 have hM82:M8<=1000:=by omega
 have HA0:Hid (allF ((List.replicate M8 zeroI).set 1 [2,1,0,0,0,0,0,0,0,0,0,0,0,0])=true/\encT ((List.replicate M8 zeroI).set 1 [2,1,0,0,0,0,0,0,0,0,0,0,0,0])=encT (inT newN 0)):=Lib.hid (by subst hM8;exact ⟨newT_frm.1,rfl⟩)
 have HA1:Hid (allF (List.replicate M8 zeroI)=true/\∀ k,k<6->k≠0->encT (List.replicate M8 zeroI)=encT (inT newN k)):=Lib.hid (by subst hM8;exact ⟨newT_frm.2,fun k h h0=>by rw[newT_other h h0]⟩)
 clear hM8
 have HOK:=Lib.hid (newO_ok h1 h2)
 obtain ⟨M,hM⟩:∃ M:Nat,M=256:=⟨_,rfl⟩
 have HM:Hid ((256:Int)=(M:Int)):=Lib.hid (by omega)
 have hM2:M<=1000:=by omega
 have HBZ:Hid (∀ (W:World) (B g:Nat),W.heap[g]? =some (.cells (Array.replicate M (.int .u8 0)) 5 (0,0))->BElt W B (.slice (some ⟨g,0,none⟩) M M) zb):=Lib.hid (by subst hM;exact fun W B g h=>belt_zero h)
 clear hM
 go_enter Tryz.func54,Tryz.ntmps54
 go_wp2
 go_loopw [5,23] (fun v i wr=>∃ k:Nat,k<=64*kk/\i=.int .i64 k/\Hid (BB2 wr w.heap.size 0 v (List.replicate k zb))/\Below w.heap.size w wr) (fun _ i _=>64*kk-(intOf i).toNat)
 case atStart=>exact ⟨0,by omega,rfl,⟨[],rfl,fun j hj=>absurd hj (Nat.not_lt_zero _),World.ownsRow_nil _ _ _ _⟩,Below.refl _ _⟩
 case round=>
  obtain ⟨k,hk,rfl,HV,hbr⟩:=hrel
  by_cases hlt:k<64*kk
  · have hlt':(k:Int)<64*(kk:Int):=by omega
    have hbz:=below_box wr (.cells (Array.replicate M (.int .u8 0)) 5)
    have HE:=Lib.hid (HBZ.out (wr.alloc (.cells (Array.replicate M (.int .u8 0)) 5)) 0 wr.heap.size (heap_alloc_new wr _))
    have HV2:=Lib.hid (HV.out.low hbz)
    have HZ:Hid (List.replicate (k+1) zb=List.replicate k zb ++ [zb]):=Lib.hid List.replicate_succ'
    have HL:Hid ((List.replicate k zb).length<=100000):=Lib.hid (by rw[List.length_replicate];omega)
    have hsz:=hbr.size
    go_wp2_with (first
     |(at_make;refine wpList_make_u8 _ rfl _ _ rfl _ M rfl rfl HM.out (by omega) ?_)
     |(at_builtin;refine wpList_append_bb2one 104 Tryz.underlying104 (wr.alloc (.cells (Array.replicate M (.int .u8 0)) 5)) (.slice (some ⟨wr.heap.size,0,none⟩) M M) zb rfl (.tmp 25) (.tmp 27) rfl w.heap.size 0 (Nat.zero_le _) _ (List.replicate k zb) rfl HV2.out HE.out _ rfl (by simp) HL.out (by simp;omega) ?_;intro v' w4 hv4 hb4;have HV4:Hid (BB2 w4 w.heap.size 0 v' (List.replicate (k+1) zb)):=Lib.hid (by rw[HZ.out];exact hv4);have HB4:=Lib.hid ((hbr.trans (hbz.mono hsz)).trans hb4);clear hv4 hb4))
    go_roundw
    case rel=>exact ⟨k+1,by omega,by go_num,HV4,HB4.out⟩
    case measure=>simp[intOf];omega
  · obtain rfl:k=64*kk:=by omega
    obtain ⟨g0,cap0,ev,hg0,hg0l⟩:=HV.out.shape0 (by rw[List.length_replicate];omega)
    rw[List.length_replicate] at ev
    subst ev
    have HV1:=Lib.hid (HV.out.lower (Nat.zero_le _)).bbr
    clear HV
    go_wp2_with (first
     |(go_at_call 85;refine (KN.out _).mono ?_;rintro e w3 ⟨b,go,capo,Ms,rfl,hR,c1,hab,hag,hMs,hbl,hgl,hcap,hcc,hb3⟩)
     |(go_at_call 86;refine (KG.out _).mono ?_;rintro e w' ⟨rfl,rfl⟩))
    have HP0:Hid (∃ G,BBR w3 0 (.slice (some ⟨g0,0,none⟩) (64*kk) cap0) G/\P2 G (newO kk) kk 0):=Lib.hid ⟨_,HV1.out.below hb3,P2.zero _ h1⟩
    have HB0:Hid (Below w.heap.size w w3/\w3.heap.size<=w3.heap.size):=Lib.hid ⟨hbr.trans (hb3.mono hbr.size),Nat.le_refl _⟩
    have HC1:=Lib.hid c1
    have HCC:=Lib.hid hcc
    obtain ⟨A,hA⟩:∃ A,A=wr.heap.size:=⟨_,rfl⟩
    have HG0:Hid (w.heap.size<=g0/\g0<A):=Lib.hid (by rw[hA];exact ⟨hg0,hg0l⟩)
    have HBG:Hid (A<=b/\A<=go/\b<w3.heap.size/\go<w3.heap.size):=Lib.hid (by rw[hA];exact ⟨hab,hag,hbl,hgl⟩)
    clear hR c1 hMs hcc hb3 hab hag hbl hgl hg0 hg0l HV1 hbr HBZ HM hA
    go_loopw [34] (fun i WI=>∃ g:Nat,g<=kk/\i=.int .i64 g/\Hid (∃ G,BBR WI 0 (.slice (some ⟨g0,0,none⟩) (64*kk) cap0) G/\P2 G (newO kk) kk g)/\Hid (∀ x,A<=x->x<w3.heap.size->WI.heap[x]? =w3.heap[x]?)/\Hid (Below w.heap.size w WI/\w3.heap.size<=WI.heap.size)) (fun i _=>kk-(intOf i).toNat)
    case atStart=>exact ⟨0,by omega,rfl,HP0,Lib.hid fun _ _ _=>rfl,HB0⟩
    case round=>
     obtain ⟨g,hg,rfl,HP,HF,HB⟩:=hrel
     clear HP0 HB0
     by_cases hgt:g<kk
     · obtain ⟨G,hG,hP⟩:=HP.out
       have hGl:=hP.len
       have eg:(g:Int)<12:=by omega
       have egk:(g:Int)<(kk:Int):=by omega
       have hin:=dscN_in hgt
       have i1:(dscN g:Int)<64*(kk:Int):=by omega
       have i2:(dscN g:Int)+1<64*(kk:Int):=by omega
       have cc1:=(World.cell?_of_block (a:=⟨b,1,none⟩) (HF.out b HBG.out.1 HBG.out.2.2.1)).trans HC1.out
       have hcw:∀ j,j<64*kk->wr.cell? ⟨go,j*2,none⟩=some (.int .u16 (tabJ (64*kk) j).1)/\wr.cell? ⟨go,j*2+1,none⟩=some (.int .u16 (tabJ (64*kk) j).2):=fun j hj=>
        ⟨(World.cell?_of_block (a:=⟨go,j*2,none⟩) (HF.out go HBG.out.2.1 HBG.out.2.2.2)).trans (HCC.out j hj).1,(World.cell?_of_block (a:=⟨go,j*2+1,none⟩) (HF.out go HBG.out.2.1 HBG.out.2.2.2)).trans (HCC.out j hj).2⟩
       have hos:=owSl_part (cap:=capo-64*g) (Nat.lt_of_lt_of_le HBG.out.2.2.2 HB.out.2) hgt hcw
       obtain ⟨_,gA,_⟩:=HOK.out.gr hgt
       obtain ⟨Og,hOg⟩:∃ Og,Og=grO (newO kk) g:=⟨_,rfl⟩
       obtain ⟨D,hD⟩:∃ D,D=descS (g:Int) (usedK Og 64):=⟨_,rfl⟩
       have hP3:=hP.group hgt
       rw[<- hOg] at hos gA hP3
       rw[<- hD] at hP3
       have KP:=Lib.hid (rrPage_own hos gA)
       have KO:Hid (∀ W,Below wr.heap.size wr W->Calls Tryz.prog 88 #[.int .i64 g,.slice (some ⟨go,64*g*2,none⟩) 64 (capo-64*g)] W fun e w'=>∃ aL nL cL,e=.returned (.tuple #[.agg #[.int .i64 g,.slice aL nL cL],.int .i64 0])/\KSl w' (.slice aL nL cL) (usedK Og 64)/\Below W.heap.size W w'):=Lib.hid fun W hb=>(rrOf_good (hos.below hb) (g:Int) (by omega) (by omega) gA).mono fun e w' ⟨v,h1,h2,h3⟩=>by
        obtain ⟨aL,cL,rfl⟩:=h2.ksl.shape
        exact ⟨_,_,_,h1,h2.ksl,h3⟩
       have KE:Hid (∀ (W:World) (v:Value),KSl W v (usedK Og 64)->Calls Tryz.prog 89 #[.agg #[.int .i64 g,v]] W fun e w'=>∃ v,e=.returned (.tuple #[v,.int .i64 0])/\OB w' W.heap.size v D/\Below W.heap.size W w'):=Lib.hid fun W v hk=>by
        rw[hD];exact rrEnc_yes hk (g:Int) (by omega) (by omega) (usedK_length _ _)
       have KGd:=Lib.hid (fun (W:World)=>rDesc_any (g:Int) W)
       have KGo:=Lib.hid (fun (W:World)=>rOwners_any (g:Int) W)
       rw[dscN_I (show g<12 by omega)] at KGd
       rw[ownN_I (show g<12 by omega)] at KGo
       have HGG:=Lib.hid hG
       have HP3:=Lib.hid hP3
       have HGL:Hid (dscN g<G.length/\dscN g+1<G.length):=Lib.hid (by omega)
       have hcg:64*g+64<=capo:=by omega
       clear hG hP hGl hin hcw hos gA hOg hD hP3
       go_wp2_with (first
        |(with_reducible refine wpList_slice_ows rfl (.tmp 40) (.tmp 42) (.tmp 45) rfl go 0 (64*kk) capo rfl (64*(g:Int)) (64*(g:Int)+64) rfl rfl (64*g) (64*g+64) 64 (by omega) (by omega) (by omega) (by omega) hcg (by omega) (64*g*2) (by omega) ?_)
        |(go_at_call 87;refine KP.out.mono ?_;rintro e w4 ⟨vp,rfl,hvp,hb4⟩)
        |(go_at_call 88;refine (KO.out _ hb4).mono ?_;rintro e w5 ⟨aL,nL,cL,rfl,hkl,hb5⟩;have hb45:=hb4.trans (hb5.mono hb4.size);have hbx:=below_box w5 (.cells #[.int .i64 g,.slice aL nL cL] 135);have hkl2:=hkl.below hbx)
        |(go_at_call 89;refine (KE.out _ _ hkl2).mono ?_;rintro e w6 ⟨vd,rfl,hvd,hb6⟩;have hb46:=(hb45.trans (hbx.mono hb45.size)).trans (hb6.mono (Nat.le_trans hb45.size hbx.size));have hb466:=(hb5.trans (hbx.mono hb5.size)).trans (hb6.mono (Nat.le_trans hb5.size hbx.size));have hG6:=HGG.out.below hb46;have hvp6:=(hvp.below hb466).elt (B:=0);have hvd6:=hvd.elt (B:=0);obtain ⟨cur6,hr6,_,_⟩:=hG6.row)
        |(with_reducible refine wpList_store_bb rfl (.tmp 71) (.tmp 69) rfl 0 g0 (64*kk) cap0 (dscN g) G D vd rfl rfl hG6 HGL.out.1 hvd6 ?_;intro w7 hG7 hb7 hw7;have hvp7:=hvp6.wrote hw7 (Nat.zero_le _) hr6 (by decide))
        |(with_reducible refine wpList_store_bb rfl (.tmp 72) (.tmp 70) rfl 0 g0 (64*kk) cap0 (dscN g+1) (G.set (dscN g) D) (pageS Og) vp rfl rfl hG7 (by rw[List.length_set];exact HGL.out.2) hvp7 ?_;intro w8 hG8 hb8 hw8)
        |(go_at_call 90;refine (KGd.out _).mono ?_;rintro e w' ⟨rfl,rfl⟩)
        |(go_at_call 91;refine (KGo.out _).mono ?_;rintro e w' ⟨rfl,rfl⟩))
       have HP8:Hid (∃ G,BBR w8 0 (.slice (some ⟨g0,0,none⟩) (64*kk) cap0) G/\P2 G (newO kk) kk (g+1)):=Lib.hid ⟨_,hG8,HP3.out⟩
       have HF8:Hid (∀ x,A<=x->x<w3.heap.size->w8.heap[x]? =w3.heap[x]?):=Lib.hid fun x hx1 hx2=>by
        have hne:x≠g0:=by have:=HG0.out.2;omega
        exact (hw8.2.2.2.2 x hne).trans ((hw7.2.2.2.2 x hne).trans ((hb46.block x (Nat.lt_of_lt_of_le hx2 HB.out.2)).trans (HF.out x hx1 hx2)))
       have HB8:Hid (Below w.heap.size w w8/\w3.heap.size<=w8.heap.size):=Lib.hid ⟨((HB.out.1.trans (hb46.mono HB.out.1.size)).trans (hw7.below HG0.out.1)).trans (hw8.below HG0.out.1),by
        have h1:=HB.out.2
        have h2:=hb46.size
        have h3:=hb7.size
        have h4:=hb8.size
        omega⟩
       clear hvp hvd hkl hkl2 hbx hb4 hb5 hb6 hb45 hb46 hb466 hG6 hvp6 hvd6 hr6 hG7 hb7 hw7 hvp7 hG8 hb8 hw8
       go_roundw
       case rel=>exact ⟨g+1,by omega,by go_num,HP8,HF8,HB8⟩
       case measure=>simp[intOf];omega
     · have e0:g=kk:=by omega
       subst e0
       have HP1:=Lib.hid HP.out
       have hbr:=HB.out.1
       have hgs:g0<wr.heap.size:=by
        have a1:=HG0.out.2
        have a2:=HBG.out.1
        have a3:=HBG.out.2.2.1
        have a4:=HB.out.2
        omega
       clear HP HF HB hgt HBG HCC HC1 KN
       go_wp2_with (first
        |(go_at_call 92;refine (KSu.out _).mono ?_;rintro e w9 ⟨rfl,hb9⟩;have hbx:=below_box w9 (.cells #[.int .i64 (64*(g:Int)),.int .i64 0,.int .i64 0,.int .i64 0,.int .i64 0,.int .i64 0,.int .i64 43,.int .i64 44,.int .i64 45,.int .i64 46,.int .i64 47,.int .i64 48] 141);have hnx:=heap_alloc_new w9 (.cells #[.int .i64 (64*(g:Int)),.int .i64 0,.int .i64 0,.int .i64 0,.int .i64 0,.int .i64 0,.int .i64 43,.int .i64 44,.int .i64 45,.int .i64 46,.int .i64 47,.int .i64 48] 141)))
       obtain ⟨s0,hs0⟩:∃ s0,s0=w9.heap.size:=⟨_,rfl⟩
       have hb90:=hb9.trans (hbx.mono hb9.size)
       generalize w9.alloc (.cells #[.int .i64 (64*(g:Int)),.int .i64 0,.int .i64 0,.int .i64 0,.int .i64 0,.int .i64 0,.int .i64 43,.int .i64 44,.int .i64 45,.int .i64 46,.int .i64 47,.int .i64 48] 141)=W0 at hbx hnx hb90 |-
       rw[<- hs0] at hnx |-
       have HS0:=Lib.hid hnx
       have hgs0:g0<s0:=by have:=hb9.size;omega
       have HSL:Hid (s0<W0.heap.size):=Lib.hid (Array.getElem?_eq_some_iff.1 hnx).1
       have HQ0:Hid (∃ G,BBR W0 0 (.slice (some ⟨g0,0,none⟩) (64*g) cap0) G/\P2 G (newO g) g g/\T3 G 0):=Lib.hid (by obtain ⟨G,a,b⟩:=HP1.out;exact ⟨G,a.below hb90,b,T3.zero _⟩)
       have HB0:Hid (Below w.heap.size w W0):=Lib.hid (hbr.trans (hb90.mono hbr.size))
       have HNS:Hid (∀ (W:World) (gI:Nat) (O:List (List Int)),Len14 O->O.length=M8->W.heap[gI]? =some (.cells (O.flatMap iC).toArray 144 (0,0))->NSl W (.slice (some ⟨gI,0,none⟩) M8 M8) O):=Lib.hid fun W gI O h1 h2 h3=>by
        have:=(NR.of_row (B:=0) h1 (Nat.zero_le _) h3 (by rw[h2];simp only[maxLen];omega)).sl
        rwa [h2] at this
       have hZ:Len14 (List.replicate M8 zeroI):=fun x hx=>by rw[List.eq_of_mem_replicate hx];rfl
       have HZ:=Lib.hid hZ
       have HZ1:Hid (Len14 ((List.replicate M8 zeroI).set 1 [2,1,0,0,0,0,0,0,0,0,0,0,0,0])):=Lib.hid fun x hx=>by
        rcases List.mem_or_eq_of_mem_set hx with h|h
        · exact hZ x h
        · rw[h];rfl
       have HI:Hid (∀ x∈List.replicate M8 zeroI,(iC x).length=14):=Lib.hid fun x hx=>by rw[iC_length];exact hZ x hx
       clear hbx hnx hb90 hb9 hs0 hZ hgs hbr HP1
       go_wp2
       go_loopw [76] (fun i WI=>∃ k:Nat,k<=6/\i=.int .i64 k/\Hid (WI.heap[s0]? =some (.cells #[.int .i64 (64*(g:Int)),.int .i64 0,.int .i64 0,.int .i64 0,.int .i64 0,.int .i64 0,.int .i64 43,.int .i64 44,.int .i64 45,.int .i64 46,.int .i64 47,.int .i64 48] 141 (0,0)))/\Hid (∃ G,BBR WI 0 (.slice (some ⟨g0,0,none⟩) (64*g) cap0) G/\P2 G (newO g) g g/\T3 G k)/\Hid (Below w.heap.size w WI)) (fun i _=>6-(intOf i).toNat)
       case atStart=>exact ⟨0,by omega,rfl,HS0,HQ0,HB0⟩
       case round=>
        obtain ⟨k,hk,rfl,HS,HQ,HB⟩:=hrel
        clear HS0 HQ0 HB0
        by_cases hk6:k<6
        · have ek6:(k:Int)<6:=by omega
          obtain ⟨G,hG,hP,hT3⟩:=HQ.out
          have hsl:=(Array.getElem?_eq_some_iff.1 HS.out).1
          have hbI:=below_box wr (.cells (nC (List.replicate M8 zeroI)).toArray 144)
          have hnI:(wr.alloc (.cells (nC (List.replicate M8 zeroI)).toArray 144)).heap[wr.heap.size]? =some (.cells ((List.replicate M8 zeroI).flatMap iC).toArray 144 (0,0)):=heap_alloc_new wr _
          obtain ⟨t,ht⟩:∃ t,t=43+k:=⟨_,rfl⟩
          have htl:(t:Int)<64*(g:Int):=by omega
          have HTL:Hid (t<G.length):=Lib.hid (by rw[hP.len];omega)
          have HC6:Hid (∀ W,Below wr.heap.size wr W->W.cell? ⟨s0,6+k,none⟩=some (.int .i64 (t:Int))):=Lib.hid fun W hb=>by
           have h6:=(hb.block s0 hsl).trans HS.out
           rw[sup_tab h6 hk6,ht]
          have HPT:Hid (∀ x,P2 (G.set t x) (newO g) g g):=Lib.hid fun x=>hP.other (.inr (by omega)) x
          have HT3:Hid (∀ x,x=encT (inT newN k)->T3 (G.set t x) (k+1)):=Lib.hid fun x hx=>by rw[ht];exact hT3.put (by rw[hP.len];omega) hx
          have HGG:=Lib.hid hG
          have HS7:Hid (∀ W W',Below wr.heap.size wr W->Wrote W W' g0->W'.heap[s0]? =some (.cells #[.int .i64 (64*(g:Int)),.int .i64 0,.int .i64 0,.int .i64 0,.int .i64 0,.int .i64 0,.int .i64 43,.int .i64 44,.int .i64 45,.int .i64 46,.int .i64 47,.int .i64 48] 141 (0,0))):=Lib.hid fun W W' hb hw=>(hw.2.2.2.2 s0 (by omega)).trans ((hb.block s0 hsl).trans HS.out)
          have hbs:=HB.out.size
          clear ht hG hP hsl hT3
          by_cases hk0:k=0
          · subst hk0
            go_wp2_with (first
             |(at_make;refine wpList_make_rino _ rfl _ _ rfl _ M8 rfl rfl HM8.out (by omega) ?_)
             |(refine wpList_store_flat (f:=iC) (s:=14) rfl 144 (.tmp 84) (.tmp 83) rfl infoRN14 wr.heap.size 1 (List.replicate M8 zeroI) [2,1,0,0,0,0,0,0,0,0,0,0,0,0] 144 rfl rfl hnI (by rw[List.length_replicate];omega) HI.out rfl (iC_one _) ?_;intro w5 hw5 hr5;have hbN:=hbI.trans (hw5.below (Nat.le_refl _));have hns:=HNS.out w5 wr.heap.size _ HZ1.out (by rw[List.length_set,List.length_replicate]) hr5)
             |(go_at_call 93;refine (rEncI_yes hns HA0.out.1).mono ?_;rintro e w6 ⟨u,rfl,hu,hb6⟩;have hb06:=hbN.trans (hb6.mono hbN.size);have c6:=HC6.out _ hb06;have hG6:=HGG.out.below hb06;have hu6:=hu.elt (B:=0))
             |(with_reducible refine wpList_store_bb rfl (.tmp 96) (.tmp 95) rfl 0 g0 (64*g) cap0 t G _ u rfl rfl hG6 HTL.out hu6 ?_;intro w7 hG7 hb7 hw7))
            go_roundw
            case rel=>exact ⟨1,by omega,rfl,Lib.hid (HS7.out _ _ hb06 hw7),Lib.hid ⟨_,hG7,HPT.out _,HT3.out _ HA0.out.2⟩,Lib.hid ((HB.out.trans (hb06.mono hbs)).trans (hw7.below HG0.out.1))⟩
            case measure=>simp[intOf]
          · have hk0b:((k:Int)==0)=false:=by simpa using hk0
            have hns:=HNS.out _ wr.heap.size _ HZ.out (by rw[List.length_replicate]) hnI
            have HB1:=Lib.hid hbI
            go_wp2_with (first
             |(at_make;refine wpList_make_rino _ rfl _ _ rfl _ M8 rfl rfl HM8.out (by omega) ?_)
             |(go_at_call 93;refine (rEncI_yes hns HA1.out.1).mono ?_;rintro e w6 ⟨u,rfl,hu,hb6⟩;have hb06:=HB1.out.trans (hb6.mono HB1.out.size);have c6:=HC6.out _ hb06;have hG6:=HGG.out.below hb06;have hu6:=hu.elt (B:=0))
             |(with_reducible refine wpList_store_bb rfl (.tmp 96) (.tmp 95) rfl 0 g0 (64*g) cap0 t G _ u rfl rfl hG6 HTL.out hu6 ?_;intro w7 hG7 hb7 hw7))
            go_roundw
            case rel=>exact ⟨k+1,by omega,by go_num,Lib.hid (HS7.out _ _ hb06 hw7),Lib.hid ⟨_,hG7,HPT.out _,HT3.out _ (HA1.out.2 k hk6 hk0)⟩,Lib.hid ((HB.out.trans (hb06.mono hbs)).trans (hw7.below HG0.out.1))⟩
            case measure=>simp[intOf];omega
        · obtain rfl:k=6:=by omega
          obtain ⟨G,hG,hP,hT3⟩:=HQ.out
          have hs:=HS.out
          have HGG:=Lib.hid hG
          have HGL:Hid (0<G.length/\63<G.length):=Lib.hid (by rw[hP.len];omega)
          have HPE:Hid (∀ x y,P2 ((G.set 0 x).set 63 y) (newO g) g g):=Lib.hid fun x y=>(hP.other (.inl rfl) x).other (.inr (by omega)) y
          have HNW:Hid (New3 ((G.set 0 (encS (newS g))).set 63 (encS (newS g))) g):=Lib.hid (hT3.sup g (by rw[hP.len];omega) rfl)
          have hbs:=HB.out.size
          have HBB:=Lib.hid HB.out
          clear hG hP hT3 HQ HS HB
          go_wp2_with (first
           |(with_reducible refine wpList_load_row rfl 141 (.tmp 15) rfl s0 rfl 141 _ (0,0) _ hs Tryz.underlying141 rfl (by rw[infoRS];simp) ?_)
           |(go_at_call 94;refine (KES.out _).mono ?_;rintro e w6 ⟨u,rfl,hu,hb6⟩;have hG6:=HGG.out.below hb6;have hu6:=hu.elt (B:=0);obtain ⟨cur6,hr6,_,hg06⟩:=hG6.row)
           |(with_reducible refine wpList_store_bb rfl (.tmp 107) (.tmp 105) rfl 0 g0 (64*g) cap0 0 G (encS (newS g)) u rfl rfl hG6 HGL.out.1 hu6 ?_;intro w7 hG7 hb7 hw7;have hu7:=hu6.wrote hw7 hg06 hr6 (by decide))
           |(with_reducible refine wpList_store_bb rfl (.tmp 108) (.tmp 106) rfl 0 g0 (64*g) cap0 63 (G.set 0 (encS (newS g))) (encS (newS g)) u rfl rfl hG7 (by rw[List.length_set];exact HGL.out.2) hu7 ?_;intro w8 hG8 hb8 hw8))
          go_ret
          exact ⟨_,_,rfl,hG8,HPE.out _ _,HNW.out,((HBB.out.trans (hb6.mono hbs)).trans (hw7.below HG0.out.1)).trans (hw8.below HG0.out.1)⟩
theorem idxW_nil (ao:Option Addr) (cap:Nat) (f:Value) (w:World):Calls Tryz.prog 172 #[.slice ao 0 cap,f] w fun e w'=>e=.returned (.int .i64 (-1))/\w=w':=by
 go_enter Tryz.func172,Tryz.ntmps172
 go_wp2
 go_loop [8] (fun i=>i=.int .i64 0) (fun _=>0)
 case atStart=>rfl
 case round=>
  subst hrel
  go_wp2
  go_ret
  exact ⟨rfl,rfl⟩
theorem delW_nil (ao:Option Addr) (cap:Nat) (f:Value) (w:World):Calls Tryz.prog 137 #[.slice ao 0 cap,f] w fun e w'=>e=.returned (.slice ao 0 cap)/\w=w':=by
 go_enter Tryz.func137,Tryz.ntmps137
 go_wp2_with (go_at_call 172;refine (idxW_nil _ _ _ _).mono ?_;rintro e w' ⟨rfl,rfl⟩)
 go_ret
 exact ⟨rfl,rfl⟩
section
variable {w:World}{B bp bf bv:Nat}{u:Value}{F V:List (List Int)}{fu dn:Bool}{le:Int}
theorem dForget_nil (h:DskAt w B bp bf bv u F V [] fu le dn) (f:Value):Calls Tryz.prog 97 #[.pointer (some ⟨bp,0,none⟩),f] w fun e w'=>e=.returned (.tuple #[])/\DskAt w' B bp bf bv u F V [] fu le dn/\Wrote w w' bp:=by
 obtain ⟨ao,cap,rfl⟩:=h.shapeU
 have c2:=h.c2
 have f2:=h.fr 2
 have hp:=h.hp
 have hw:=Wrote.setCell w bp 2 (.slice ao 0 cap)
 have hs:(w.setCell ⟨bp,2,none⟩ (.slice ao 0 cap)).heap[bp]? =_:=heap_setCell_same w bp 2 _ _ _ hp
 have HE:Hid (DskAt (w.setCell ⟨bp,2,none⟩ (.slice ao 0 cap)) B bp bf bv (.slice ao 0 cap) F V [] fu le dn):=Lib.hid (by
  have oth:∀ {k:Nat},k≠bp->(w.setCell ⟨bp,2,none⟩ (.slice ao 0 cap)).heap[k]? =w.heap[k]? :=fun hk=>heap_setCell_other _ _ _ _ hk
  refine ⟨h.bB,h.ne,by rw[hs];rfl,by rw[oth (Ne.symm h.ne.1)];exact h.hf,by rw[oth (Ne.symm h.ne.2.1)];exact h.hv,⟨h.hu.1,?_⟩,h.une,h.okF,h.okV,h.okU,h.len,h.max⟩
  rcases h.hu.2 with h0| ⟨g,cap',cur,hv,hg,hh,r⟩
  · exact .inl h0
  · exact .inr ⟨g,cap',cur,hv,hg,by rw[oth (fun e=>h.une.1 (by rw[hv,<- e];rfl))];exact hh,r⟩)
 have HW:=Lib.hid hw
 clear hp hs hw h
 go_enter Tryz.func97,Tryz.ntmps97
 go_wp2_with (go_at_call 137;refine (delW_nil _ _ _ _).mono ?_;rintro e w' ⟨rfl,rfl⟩)
 go_end0
 exact ⟨rfl,HE.out,HW.out⟩
set_option maxRecDepth 100000 in
set_option maxHeartbeats 3000000 in
theorem dDamage_at (h:DskAt w B bp bf bv u F V [] fu le dn) {n:Nat} (hn:n<V.length) {v:Value}{l:List Int} (hv:BSl w v l) (hl:l.length=256):
 Calls Tryz.prog 55 #[.pointer (some ⟨bp,0,none⟩),.int .i64 n,v] w fun e w'=>e=.returned (.int .i64 0)/\DskAt w' B bp bf bv u (F.set n l) (V.set n l) [] fu le dn/\Fr3 w w' bp bf bv:=by
 obtain ⟨W0,hW0⟩:∃ W0,W0=w.alloc (.cells #[.int .i64 n] 3):=⟨_,rfl⟩
 have hb0:Below w.heap.size w W0:=by rw[hW0];exact below_box w _
 have hx0:W0.heap[w.heap.size]? =some (.cells #[.int .i64 n] 3 (0,0)):=by rw[hW0];exact heap_alloc_new w _
 have hd0:=h.below hb0
 have hv0:=hv.below hb0
 have HW0:=Lib.hid hW0
 have hd:decide ((0<=(n:Int)/\(n:Int)<V.length)/\l.length=256)=true:=decide_eq_true ⟨by omega,hl⟩
 have KF:=Lib.hid (dFits_at hd0 n hv0)
 rw[hd] at KF
 have KB:=Lib.hid (dBlockOf_any hv0 hl)
 have HL:Hid ((cB l).length=256):=by show _=_;rw[cB_length,hl]
 have HBl:Hid (Blk l):=⟨hl,hv.1⟩
 have HZ:=Lib.hid zB_length
 have x0:W0.cell? ⟨w.heap.size,0,none⟩=some (.int .i64 n):=by rw[cell_of_row _ _ _ _ _ _ hx0];rfl
 have HX:=Lib.hid hx0
 have HD0:=Lib.hid hd0
 have HB0:=Lib.hid hb0
 have hlt:=And.intro (Array.getElem?_eq_some_iff.1 h.hp).1 (And.intro (Array.getElem?_eq_some_iff.1 h.hf).1 (Array.getElem?_eq_some_iff.1 h.hv).1)
 have HLT:=Lib.hid hlt
 have HH:=Lib.hid h
 have hn':(n:Int)<V.length:=by omega
 have hnF:n<F.length:=by have:=h.len;omega
 have hnF':(n:Int)<F.length:=by omega
 clear hW0 hb0 hx0 hd0 hv0 hv hl hd hlt h
 go_enter Tryz.func55,Tryz.ntmps55
 go_upto_region 1 with (fail)
 rw[HW0.out.symm]
 go_upto_region 4 with (first
  |(go_at_call 95;refine KF.out.mono ?_;rintro e w' ⟨rfl,rfl⟩)
  |(go_at_call 96;refine KB.out.mono ?_;rintro e w1 ⟨rfl,hb1⟩)
  |with_reducible refine wpList_allocB _ rfl rfl ?_
  |(refine wpList_storeB _ rfl _ _ (by rfl) _ 126 zB (cB l) (by rfl) (by rfl) (heap_alloc_last _ _) HZ.out HL.out (cB_one l) ?_
    rw[World.setRow_alloc_new]))
 have hb2:Below W0.heap.size W0 (w1.alloc (.cells (cB l).toArray 126)):=hb1.alloc hb1.size _
 obtain ⟨H1,hH1⟩:∃ H1,H1=w1.heap.size:=⟨_,rfl⟩
 obtain ⟨xb,hxb⟩:∃ xb,xb=w.heap.size:=⟨_,rfl⟩
 have hrow:(w1.alloc (.cells (cB l).toArray 126)).heap[H1]? =some (.cells (cB l).toArray 126 (0,0)):=by rw[hH1];exact heap_alloc_last _ _
 rw[<- hH1,<- hxb]
 have hxl:xb<W0.heap.size:=by rw[hxb];exact (Array.getElem?_eq_some_iff.1 HX.out).1
 have hlt1:bp<xb/\bf<xb/\bv<xb:=by rw[hxb];exact HLT.out
 have hxf:xb≠bf/\xb≠bv:=⟨by omega,by omega⟩
 have hxH:xb<H1:=by rw[hH1];exact Nat.lt_of_lt_of_le hxl hb1.size
 have xr:(w1.alloc (.cells (cB l).toArray 126)).heap[xb]? =some (.cells #[.int .i64 n] 3 (0,0)):=(hb2.block xb hxl).trans (by rw[hxb];exact HX.out)
 generalize w1.alloc (.cells (cB l).toArray 126)=W1 at hb2 hrow xr |-
 have h1:=HD0.out.below hb2
 have HFR0:Hid (Below w.heap.size w W1):=Lib.hid (HB0.out.trans (hb2.mono HB0.out.size))
 have hone2:=cB_one l
 have hub:=Tryz.underlying126
 have hib:(Tryz.prog.info? 126).map (·.size)=some (cB l).length:=by rw[sizeB,HL.out]
 have hlen:=HL.out
 have rL:W1.rangeAt H1 0 (cB l):=range_row hrow (by rw[List.drop_zero,List.take_length])
 have tF:W1.there bf (n*256) (cB l).length:=there_row h1.hf (by rw[HL.out,flat_length (flatB_len h1.okF)];omega)
 have x1:W1.cell? ⟨xb,0,none⟩=some (.int .i64 n):=by rw[cell_of_row _ _ _ _ _ _ xr];rfl
 have hne:=h1.ne
 have hS1:W1.drew.cell? ⟨bp,0,none⟩=some (.slice (some ⟨bf,0,none⟩) F.length F.length)/\W1.drew.cell? ⟨xb,0,none⟩=some (.int .i64 n)/\W1.drew.rangeAt H1 0 (cB l)/\W1.drew.there bf (n*256) (cB l).length:=⟨h1.c0,x1,rL,tF⟩
 have hS2:(W1.drew.setCells bf (n*256) (cB l)).cell? ⟨bp,0,none⟩=some (.slice (some ⟨bf,0,none⟩) F.length F.length)/\(W1.drew.setCells bf (n*256) (cB l)).cell? ⟨xb,0,none⟩=some (.int .i64 n)/\(W1.drew.setCells bf (n*256) (cB l)).rangeAt H1 0 (cB l)/\(W1.drew.setCells bf (n*256) (cB l)).there bf (n*256) (cB l).length:=
  ⟨by rw[World.cell?_setCells_out _ _ _ _ _ (fun e=>absurd e hne.1)];exact hS1.1,by rw[World.cell?_setCells_out _ _ _ _ _ (fun e=>absurd e hxf.1)];exact hS1.2.1,World.rangeAt_setCells_apart hS1.2.2.1 _ _ _ (.inl (by omega)),World.there_setCells hS1.2.2.2 _ _ _⟩
 have HD1:=Lib.hid h1
 have HB2:=Lib.hid hb2
 clear hH1 hxb h1 hrow xr rL tF x1 hb1 hb2 KF KB HB0 x0
 go_region_held (fun W=>W.cell? ⟨bp,0,none⟩=some (.slice (some ⟨bf,0,none⟩) F.length F.length)/\W.cell? ⟨xb,0,none⟩=some (.int .i64 n)/\W.rangeAt H1 0 (cB l)/\W.there bf (n*256) (cB l).length) (first|exact hS1|exact hS2) (fail)
 go_wp2_with fail
 obtain ⟨h2,hwr⟩:=HD1.out.setF (W:=W1.drew) (Below.refl _ _).drew n hnF l HBl.out
 have hr2:=hS2.2.2.1
 have hx2:=hS2.2.1
 have hdw:Below W1.heap.size W1 W1.drew:=(Below.refl _ _).drew
 have HFR1:Hid (∀ k,k<w.heap.size->k≠bf->(W1.drew.setCells bf (n*256) (cB l)).heap[k]? =w.heap[k]?):=Lib.hid fun k hk hkf=>(hwr.2.2.2.2 k hkf).trans ((show W1.drew.heap[k]? =W1.heap[k]? from rfl).trans (HFR0.out.block k hk))
 have HFS1:Hid ((W1.drew.setCells bf (n*256) (cB l)).os=w.os/\(W1.drew.setCells bf (n*256) (cB l)).tape=w.tape/\(W1.drew.setCells bf (n*256) (cB l)).output=w.output/\w.heap.size<=(W1.drew.setCells bf (n*256) (cB l)).heap.size):=Lib.hid ⟨hwr.1.trans (hdw.os.trans HFR0.out.os),hwr.2.1.trans (hdw.tape.trans HFR0.out.tape),hwr.2.2.1.trans (hdw.output.trans HFR0.out.output),by rw[hwr.2.2.2.1];exact Nat.le_trans HFR0.out.size hdw.size⟩
 generalize W1.drew.setCells bf (n*256) (cB l)=W2 at h2 hr2 hx2 HFR1 HFS1 |-
 have HD2:=Lib.hid h2
 have tV:W2.there bv (n*256) (cB l).length:=there_row h2.hv (by rw[HL.out,flat_length (flatB_len h2.okV)];omega)
 have hS3:W2.drew.cell? ⟨bp,1,none⟩=some (.slice (some ⟨bv,0,none⟩) V.length V.length)/\W2.drew.cell? ⟨xb,0,none⟩=some (.int .i64 n)/\W2.drew.rangeAt H1 0 (cB l)/\W2.drew.there bv (n*256) (cB l).length:=⟨h2.c1,hx2,hr2,tV⟩
 have hS4:(W2.drew.setCells bv (n*256) (cB l)).cell? ⟨bp,1,none⟩=some (.slice (some ⟨bv,0,none⟩) V.length V.length)/\(W2.drew.setCells bv (n*256) (cB l)).cell? ⟨xb,0,none⟩=some (.int .i64 n)/\(W2.drew.setCells bv (n*256) (cB l)).rangeAt H1 0 (cB l)/\(W2.drew.setCells bv (n*256) (cB l)).there bv (n*256) (cB l).length:=
  ⟨by rw[World.cell?_setCells_out _ _ _ _ _ (fun e=>absurd e hne.2.1)];exact hS3.1,by rw[World.cell?_setCells_out _ _ _ _ _ (fun e=>absurd e hxf.2)];exact hS3.2.1,World.rangeAt_setCells_apart hS3.2.2.1 _ _ _ (.inl (by omega)),World.there_setCells hS3.2.2.2 _ _ _⟩
 clear h2 hwr hdw hS1 hS2 hr2 hx2 tV HD1 HD0
 go_region_held (fun W=>W.cell? ⟨bp,1,none⟩=some (.slice (some ⟨bv,0,none⟩) V.length V.length)/\W.cell? ⟨xb,0,none⟩=some (.int .i64 n)/\W.rangeAt H1 0 (cB l)/\W.there bv (n*256) (cB l).length) (first|exact hS3|exact hS4) (fail)
 go_wp2_with fail
 obtain ⟨h3,hwr⟩:=HD2.out.setV (W:=W2.drew) (Below.refl _ _).drew n hn l HBl.out
 have hdw:Below W2.heap.size W2 W2.drew:=(Below.refl _ _).drew
 have HFR2:Hid (∀ k,k<w.heap.size->k≠bf->k≠bv->(W2.drew.setCells bv (n*256) (cB l)).heap[k]? =w.heap[k]?):=Lib.hid fun k hk hkf hkv=>(hwr.2.2.2.2 k hkv).trans ((show W2.drew.heap[k]? =W2.heap[k]? from rfl).trans (HFR1.out k hk hkf))
 have HFS2:Hid ((W2.drew.setCells bv (n*256) (cB l)).os=w.os/\(W2.drew.setCells bv (n*256) (cB l)).tape=w.tape/\(W2.drew.setCells bv (n*256) (cB l)).output=w.output/\w.heap.size<=(W2.drew.setCells bv (n*256) (cB l)).heap.size):=Lib.hid ⟨hwr.1.trans (hdw.os.trans HFS1.out.1),hwr.2.1.trans (hdw.tape.trans HFS1.out.2.1),hwr.2.2.1.trans (hdw.output.trans HFS1.out.2.2.1),by rw[hwr.2.2.2.1];exact Nat.le_trans HFS1.out.2.2.2 hdw.size⟩
 generalize W2.drew.setCells bv (n*256) (cB l)=W3 at h3 HFR2 HFS2 |-
 have KFo:=Lib.hid (fun f=>dForget_nil h3 f)
 clear hS3 hS4 hwr hdw h3
 go_wp2_with (go_at_call 97;refine (KFo.out _).mono ?_;rintro e w4 ⟨rfl,hd4,hw4⟩)
 go_ret
 exact ⟨rfl,hd4,⟨hw4.1.trans HFS2.out.1,hw4.2.1.trans HFS2.out.2.1,hw4.2.2.1.trans HFS2.out.2.2.1,by rw[hw4.2.2.2.1];exact HFS2.out.2.2.2,fun k hk h1 h2 h3=>(hw4.2.2.2.2 k h1).trans (HFR2.out k hk h2 h3)⟩⟩
end
theorem kDamage {w:World}{P:Nat->Prop}{p:Value}{s:DS} (h:Dk w P p s) (hU:s.U=[]) {n:Nat} (hn:n<s.F.length) {v:Value}{l:List Int} (hv:BSl w v l):
 Calls Tryz.prog 55 #[p,.int .i64 n,v] w fun e w'=>(∃ x,e=.returned (.int .i64 x))/\Dk w' P p { s with F:=if l.length=256 then s.F.set n l else s.F }/\Chg P P w w':=by
 obtain ⟨bp,bf,bv,u,rfl,hd,hl,hP⟩:=h
 obtain ⟨F,U,fu,le,dn⟩:=s
 simp only at hU hn hd hl
 subst hU
 have hvis:(⟨F,[],fu,le,dn⟩:DS).vis=F:=rfl
 rw[hvis] at hd
 by_cases h256:l.length=256
 · rw[if_pos h256]
   refine (dDamage_at hd hn hv h256).mono fun e w' ⟨he,h2,hf⟩=>⟨⟨0,he⟩,⟨bp,bf,bv,u,rfl,h2,hl,hP⟩,⟨hf.os,hf.tape,hf.output,hf.size,fun k hk hn'=>⟨hf.block k hk (fun e=>hn' ((hP k).2 (.inl e))) (fun e=>hn' ((hP k).2 (.inr (.inl e)))) (fun e=>hn' ((hP k).2 (.inr (.inr (.inl e))))),hn'⟩⟩⟩
 · rw[if_neg h256]
   have hb:=below_box w (.cells #[.int .i64 n] 3)
   have KF:=Lib.hid (dFits_at (hd.below hb) n (hv.below hb))
   rw[decide_eq_false (fun h=>h256 h.2)] at KF
   have HE:Hid (∀ w',Below w.heap.size w w'->Dk w' P (.pointer (some ⟨bp,0,none⟩)) ⟨F,[],fu,le,dn⟩):=Lib.hid fun w' hb'=>⟨bp,bf,bv,u,rfl,hd.below hb',hl,hP⟩
   have HB:=Lib.hid hb
   clear hd hl hP hv hb h256 hvis
   refine Calls.mono (R:=fun e w'=>e=.returned (.int .i64 1)/\Below w.heap.size w w') ?_ fun e w' ⟨he,hb'⟩=>⟨⟨1,he⟩,HE.out w' hb',Chg.of_below hb'⟩
   clear HE
   go_enter Tryz.func55,Tryz.ntmps55
   go_wp2_with (go_at_call 95;refine KF.out.mono ?_;rintro e w' ⟨rfl,rfl⟩)
   go_ret
   exact ⟨rfl,HB.out⟩
end Go.Proofs.YtaakepjgpnaecaaGreat
namespace Go.Proofs.YtaakepjgpnaecaaGreat
set_option maxRecDepth 100000
open Go.RowKit Go.Maps
def newK (ek pk:List Int) (left:Lit->Bool):Nat:=(pk.filter fun x=>!left (.int .i64 x) && decide (x ∉ ek)).length
theorem newK_start {ek pk:List Int}{left:Lit->Bool} (h:∀ x,left (.int .i64 x)=decide (x∈pk)):newK ek pk left=0:=by
 unfold newK
 rw[List.length_eq_zero_iff,List.filter_eq_nil_iff]
 intro x hx
 rw[h x,decide_eq_true hx];simp
theorem newK_end {ek pk:List Int}{left:Lit->Bool} (h:∀ k,left k=false):ek.length+newK ek pk left=(uniN ek pk).length:=by
 unfold newK uniN
 rw[List.length_append]
 congr 3
 funext x
 rw[h];simp
theorem newK_le (ek pk:List Int) (left:Lit->Bool):newK ek pk left<=pk.length:=List.length_filter_le _ _
theorem key_same (x y:Int):(Lit.int .i64 y).sameKey (.int .i64 x)=decide (y=x):=by
 by_cases h:y=x
 · subst h;simp[Lit.sameKey]
 · rw[decide_eq_false h];exact Maps.sameKey_ne (fun e=>h (by cases e;rfl))
theorem filter_step {ek:List Int}{f:Int->Bool}{x:Int}:∀ {pk:List Int},pk.Nodup->x∈pk->f x=true->
 (pk.filter fun z=>!(f z && !decide (z=x)) && decide (z ∉ ek)).length=(pk.filter fun z=>!f z && decide (z ∉ ek)).length+if x∈ek then 0 else 1
 |[],_,hx,_=>absurd hx List.not_mem_nil
 |a :: r,hn,hx,hl=>by
  obtain ⟨h1,h2⟩:=List.nodup_cons.1 hn
  by_cases e:a=x
  · subst e
    have hr:(r.filter fun z=>!(f z && !decide (z=a)) && decide (z ∉ ek))=r.filter fun z=>!f z && decide (z ∉ ek):=by
     refine List.filter_congr fun y hy=>?_
     have:y≠a:=fun e=>h1 (e ▸ hy)
     rw[decide_eq_false this];simp
    rw[List.filter_cons,List.filter_cons,hl,hr]
    by_cases hk:a∈ek <;> simp[hk]
  · have ih:=filter_step (ek:=ek) (f:=f) h2 ((List.mem_cons.1 hx).resolve_left fun e'=>e e'.symm) hl
    rw[List.filter_cons,List.filter_cons,decide_eq_false e]
    cases hfa:f a <;> by_cases hk:a∈ek <;> simp only[hk,Bool.not_true,Bool.not_false,Bool.and_true,Bool.and_false,decide_true,decide_false,not_true_eq_false,not_false_eq_true,if_true,if_false,List.length_cons,Bool.false_eq_true,ih] <;> omega
theorem newK_step {ek:List Int}{left:Lit->Bool}{x:Int}{pk:List Int} (hn:pk.Nodup) (hx:x∈pk) (hl:left (.int .i64 x)=true):
 newK ek pk (fun z=>left z && !z.sameKey (.int .i64 x))=newK ek pk left+if x∈ek then 0 else 1:=by
 have h:=filter_step (ek:=ek) (f:=fun z=>left (.int .i64 z)) hn hx hl
 unfold newK
 rw[<- h]
 congr 2
 funext z
 show (!(left (.int .i64 z) && !(Lit.int .i64 z).sameKey (.int .i64 x)) && decide (z ∉ ek))=_
 rw[key_same]
section
variable {w:World}{Pd:Nat->Prop}{b be bp:Nat}{d:Value}{q:Int}{ek:List Int}{eg:Int->Value}{ev:Int->List Int}{pk:List Int}{pg:Int->Value}{pv:Int->List Int}{wi:Bool}{ds:DS}
set_option maxHeartbeats 1000000 in
theorem sTogether_is (h:SMem w Pd b be bp d q ek eg ev pk pg pv wi ds) (hel:ek.length<=1000) (hpl:pk.length<=1000):Calls Tryz.prog 82 #[.pointer (some ⟨b,0,none⟩)] w fun e w'=>e=.returned (.int .i64 (uniN ek pk).length)/\Below w.heap.size w w':=by
 have c2:=h.c2
 have c3:=h.c3
 have hlen:=fun ty=>h.me.len ty
 have HB:=Lib.hid (fun W (hb:Below w.heap.size w W)=>h.below hb)
 obtain ⟨D,p1,p2,p3,p4,p5⟩:=h.mp
 have HN:=Lib.hid p2
 have HH:=Lib.hid p4
 have HS:=Lib.hid (newK_start (ek:=ek) p4)
 have HE:=Lib.hid (fun (left:Lit->Bool) h=>newK_end (ek:=ek) (pk:=pk) (left:=left) h)
 have HL:=Lib.hid (fun (left:Lit->Bool)=>newK_le ek pk left)
 have HEL:=Lib.hid hel
 have HPL:=Lib.hid hpl
 obtain ⟨m,hm⟩:∃ m,m=pk.length:=⟨_,rfl⟩
 rw[<- hm] at p1 HL HPL
 obtain ⟨c,hc⟩:∃ c,c=ek.length:=⟨_,rfl⟩
 rw[<- hc] at hlen HE HEL
 obtain ⟨R,hR⟩:∃ R,R=(uniN ek pk).length:=⟨_,rfl⟩
 rw[<- hR] at HE |-
 clear h p2 p3 p4 p5 hel hpl hm hc hR
 go_enter Tryz.func82,Tryz.ntmps82
 go_wp2_with (first
  |(at_range;refine wpList_range_own _ rfl _ 84 rfl 3 49 iKeyed Tryz.underlying84 hdr bp m D rfl p1 ?_;intro w0 hrg0 hg0 hs0)
  |go_in)
 go_frame
 have HB0:=Lib.hid ((Below.refl w.heap.size w).grown hg0 (Nat.le_refl _) (fun k hk=>by cases hk))
 go_loopw [3] (fun i wr=>∃ (left:Lit->Bool) (cnt k:Nat),Hid (wr.ranges Tryz.prog 3 hdr bp w.heap.size m D left cnt)/\Hid (c+newK ek pk left=k)/\i=.int .i64 k/\Below w.heap.size w wr)
  (fun _ wr=>wr.rangeLeft bp w.heap.size)
 case atStart=>
  exact ⟨_,_,c,Lib.hid hrg0,Lib.hid (by rw[HS.out];rfl),rfl,HB0.out⟩
 case round=>
  obtain ⟨left,cnt,k,HRG,HK,rfl,hbr⟩:=hrel
  have HBR:=Lib.hid hbr
  have hrg:=HRG.out
  have h2k:k<=2000:=by have:=HL.out left;have:=HK.out;have:=HEL.out;have:=HPL.out;omega
  clear hrg0 hg0 hs0 p1 c2 c3 hlen hbr
  go_wp2_with (first
   |(at_next;refine wpList_next_ranges _ rfl _ rfl 3 iKeyed hdr (Value.int .i64) id (fun key kl hk=>by obtain ⟨x,e,_⟩:=Maps.keyOf_i64 Tryz.underlying3 hk;exact ⟨x,e⟩) (fun v _ _=>⟨v,rfl⟩) bp w.heap.size m _ _ _ rfl hrg ?_ ?_)
   |go_in)
  · intro hc0 hl0
    have he:k=R:=HK.out.symm.trans (HE.out left hl0)
    subst he
    clear hrg
    go_wp2
    go_ret
    exact ⟨rfl,HBR.out⟩
  · intro x u kl y1 y2 w1 cnt1 hkey hlk hRv hat hrg1 hlt hg1 hs1 hen
    obtain ⟨x',e1,rfl,hwf⟩:=Maps.keyOf_i64 Tryz.underlying3 hkey
    cases e1
    have hb1:Below w.heap.size w w1:=HBR.out.grown hg1 HBR.out.size (fun j hj=>by cases hj;exact Nat.le_refl _)
    have hm1:=HB.out w1 hb1
    have hin:x∈pk:=by
     have:=Maps.has_true_of_atKey hat
     rw[HH.out x] at this
     exact of_decide_eq_true this
    have hk1:=newK_step HN.out hin hlk (ek:=ek)
    have c2:=hm1.c2
    have hlo:=hm1.me.look_ok hwf
    obtain ⟨uu,huu⟩:∃ uu,uu=(if x∈ek then eg x else .slice none 0 0):=⟨_,rfl⟩
    rw[<- huu] at hlo
    have HRG1:=Lib.hid hrg1
    have HLT:=Lib.hid hlt
    have HB1:=Lib.hid hb1
    have hwr:IntKind.i64.wrap ((k:Int)+1)=(k:Int)+1:=IntWalk.i64_in _ (by omega)
    by_cases hxe:x∈ek
    · rw[decide_eq_true hxe] at hlo
      rw[if_pos hxe] at hk1
      have HK1:=Lib.hid hk1
      clear hk1 hrg hrg1 hlt hb1 hm1 hkey hlk hRv hat hg1 hs1 huu hin hxe hwf
      go_wp2
      go_roundw
      case rel=>exact ⟨_,cnt1,k,HRG1,Lib.hid (by rw[HK1.out];exact HK.out),rfl,HB1.out⟩
      case measure=>rw[HRG1.out.left_eq,HRG.out.left_eq];exact HLT.out
    · rw[decide_eq_false hxe] at hlo
      rw[if_neg hxe] at hk1
      have HK1:=Lib.hid hk1
      clear hk1 hrg hrg1 hlt hb1 hm1 hkey hlk hRv hat hg1 hs1 huu hin hxe hwf
      go_wp2
      go_roundw
      case rel=>exact ⟨_,cnt1,k+1,HRG1,Lib.hid (by rw[HK1.out,<- HK.out];omega),rfl,HB1.out⟩
      case measure=>rw[HRG1.out.left_eq,HRG.out.left_eq];exact HLT.out
end
def zTx:Obj:=.cells #[.int .u32 0,.slice none 0 0,.slice none 0 0] 193
theorem rowT {w:World}{g:Nat}{a b c:Value} (h:w.heap[g]? =some (.cells #[a,b,c] 193 (0,0))):
 (w.cell? ⟨g,0,none⟩=some a/\w.cell? ⟨g,1,none⟩=some b/\w.cell? ⟨g,2,none⟩=some c)/\w.frozen? ⟨g,0,none⟩=false/\w.frozen? ⟨g,1,none⟩=false/\w.frozen? ⟨g,2,none⟩=false:=by
 refine ⟨⟨?_,?_,?_⟩,?_,?_,?_⟩
 · rw[cell_of_row _ _ _ _ _ _ h];rfl
 · rw[cell_of_row _ _ _ _ _ _ h];rfl
 · rw[cell_of_row _ _ _ _ _ _ h];rfl
 all_goals simp[World.frozen?,h]
theorem keep3 {W:World}{b g:Nat}{x y u0 u1 u2:Value} (h:W.cell? ⟨b,1,none⟩=some x/\W.cell? ⟨b,2,none⟩=some y) (hne:b≠g):
 (((W.setCell ⟨g,0,none⟩ u0).setCell ⟨g,1,none⟩ u1).setCell ⟨g,2,none⟩ u2).cell? ⟨b,1,none⟩=some x/\(((W.setCell ⟨g,0,none⟩ u0).setCell ⟨g,1,none⟩ u1).setCell ⟨g,2,none⟩ u2).cell? ⟨b,2,none⟩=some y:=by
 have e:(((W.setCell ⟨g,0,none⟩ u0).setCell ⟨g,1,none⟩ u1).setCell ⟨g,2,none⟩ u2).heap[b]? =W.heap[b]? :=by
  rw[heap_setCell_other _ ⟨g,2,none⟩ _ _ hne,heap_setCell_other _ ⟨g,1,none⟩ _ _ hne,heap_setCell_other _ ⟨g,0,none⟩ _ _ hne]
 exact ⟨(World.cell?_of_block e).trans h.1,(World.cell?_of_block e).trans h.2⟩
theorem Wrote.and {a b c:World}{g:Nat} (h:Wrote a b g) (k:Wrote b c g):Wrote a c g:=⟨k.1.trans h.1,k.2.1.trans h.2.1,k.2.2.1.trans h.2.2.1,k.2.2.2.1.trans h.2.2.2.1,fun i hi=>(k.2.2.2.2 i hi).trans (h.2.2.2.2 i hi)⟩
theorem wrote3 (W:World) (g:Nat) (u0 u1 u2:Value):Wrote W (((W.setCell ⟨g,0,none⟩ u0).setCell ⟨g,1,none⟩ u1).setCell ⟨g,2,none⟩ u2) g:=((Wrote.setCell W g 0 u0).and (Wrote.setCell _ g 1 u1)).and (Wrote.setCell _ g 2 u2)
theorem fin3 {n1:Nat}{w1 W:World}{g:Nat}{q:Int}{no:Option Addr}{L nc:Nat}{l:List Int}{a0 a1 a2:Value} (HS1:n1=w1.heap.size) (hb:Below n1 w1 W) (hg:W.heap[g]? =some (.cells #[a0,a1,a2] 193 (0,0))) (hi:IR W n1 (.slice no L nc) l) (hn:n1<=g):
 ∃ g' no' nc',Value.pointer (some ⟨g,0,none⟩)=.pointer (some ⟨g',0,none⟩)/\n1<=g'/\Below n1 w1 (((W.setCell ⟨g,0,none⟩ (.int .u32 q)).setCell ⟨g,1,none⟩ (.slice no L nc)).setCell ⟨g,2,none⟩ (.slice none 0 0))/\
   (((W.setCell ⟨g,0,none⟩ (.int .u32 q)).setCell ⟨g,1,none⟩ (.slice no L nc)).setCell ⟨g,2,none⟩ (.slice none 0 0)).heap[g']? =some (.cells #[.int .u32 q,.slice no' L nc',.slice none 0 0] 193 (0,0))/\
   IR (((W.setCell ⟨g,0,none⟩ (.int .u32 q)).setCell ⟨g,1,none⟩ (.slice no L nc)).setCell ⟨g,2,none⟩ (.slice none 0 0)) n1 (.slice no' L nc') l:=by
 have hw:=wrote3 W g (.int .u32 q) (.slice no L nc) (.slice none 0 0)
 refine ⟨g,no,nc,rfl,hn,hb.trans (hw.below hn),?_,hi.wrote hw hg (by decide)⟩
 have e1:=heap_setCell_same W g 0 _ _ (.int .u32 q) hg
 have e2:=heap_setCell_same _ g 1 _ _ (.slice no L nc) e1
 exact heap_setCell_same _ g 2 _ _ (.slice none 0 0) e2
theorem step_append_run {ops:Array Oper}{o:Oper}{a:Act}{w:World}{K:Act->World->Prop}{Q:Exit->Act->World->Prop}{E:Prop} (hgd:o.guard=none) (s y:Operand) (T ty:TypeId)
 (ho:o.op=.call { callee:=.builtin .append,args:=#[s,y],argTypes:=#[T,T] }) (hty:o.type=ty) (u v v5:Value) (w5:World) (hs:a.eval s=u) (hy:a.eval y=v) (hrun:(Builtin.append_ #[T,T] ty #[u,v]).run Tryz.prog w=.ok v5 w5)
 (h:K (a.put o.dst v5) w5):if Region.wanted o (yielded ops a.tmps)=true then Oper.wp Tryz.prog o a w K Q else E:=by
 rw[if_pos (by simp[Region.wanted,hgd])]
 unfold Oper.wp execOp
 simp only[ho,hty,resolve,invoke,builtin,Sem.run_bind,Sem.run_pure,Result.andThen_ok,List.map_toArray,List.map_cons,List.map_nil,hs,hy,hrun]
 exact h
theorem bb2_wrote {w w':World}{B g:Nat}{v:Value}{L:List (List Int)} (h:BB2 w B 0 v L) (hw:Wrote w w' g) {cur:Array Value} (hg:w.heap[g]? =some (.cells cur 193 (0,0))):BB2 w' B 0 v L:=by
 obtain ⟨vs,hl,hr,ho⟩:=h
 refine ⟨vs,hl,fun j hj=>(hr j hj).wrote hw (Nat.zero_le _) hg (by decide),ownsRow_keep ho fun r hr=>hw.2.2.2.2 r fun e=>?_⟩
 rcases ho.2 with ⟨hv,_⟩| ⟨g',cap,cur',hv,_,hh,_⟩
 · rw[hv] at hr;simp[Value.ownBlock] at hr
 · rw[hv] at hr
   obtain rfl:g'=r:=by simpa [Value.ownBlock] using hr
   rw[e,hg] at hh
   injection hh with hh
   injection hh with _ e2
   exact absurd e2 (by decide)
theorem ir_lower {w:World}{B:Nat}{v:Value}{l:List Int} (h:IR w B v l):IR w 0 v l:=⟨h.1,h.2.imp id fun ⟨g,cap,cur,hv,_,r⟩=>⟨g,cap,cur,hv,Nat.zero_le _,r⟩⟩
theorem hold_alloc {w:World}{p:Nat}{o:Obj} (h:w.heap[p]? =some o) (o':Obj):(w.alloc o').heap[p]? =some o:=(Below.block (below_box w o') p (Array.getElem?_eq_some_iff.1 h).1).trans h
theorem ir_at {w:World}{B:Nat}{v:Value}{l:List Int} (h:IR w B v l) {r:Nat} (hr:v.ownBlock=some r):r<w.heap.size/\∃ cur,w.heap[r]? =some (.cells cur 3 (0,0)):=by
 rcases h.2 with ⟨hv,_⟩| ⟨g,cap,cur,hv,_,hh,_⟩
 · rw[hv] at hr;simp[Value.ownBlock] at hr
 · rw[hv] at hr
   obtain rfl:g=r:=by simpa [Value.ownBlock] using hr
   exact ⟨(Array.getElem?_eq_some_iff.1 hh).1,cur,hh⟩
section
variable {w:World}{Pd:Nat->Prop}{b be bp:Nat}{d:Value}{q:Int}{ek:List Int}{eg:Int->Value}{ev:Int->List Int}{pk:List Int}{pg:Int->Value}{pv:Int->List Int}{wi:Bool}{ds:DS}
set_option maxHeartbeats 400000 in
theorem sTrans_of (h:SMem w Pd b be bp d q ek eg ev pk pg pv wi ds) (hel:ek.length<=37):Calls Tryz.prog 124 #[.pointer (some ⟨b,0,none⟩)] w fun e w'=>
 ∃ vN vD,e=.returned (.agg #[.int .u32 q,vN,vD])/\IR w' 0 vN (sortN ek)/\BBR w' 0 vD ((sortN ek).map ev)/\Below w.heap.size w w':=by
 obtain ⟨w1,hw1⟩:∃ w1,w1=w.alloc zTx:=⟨_,rfl⟩
 have hb1:Below w.heap.size w w1:=by rw[hw1];exact below_box w _
 have h1:=h.below hb1
 have HS:=Lib.hid (fun (W:World) (hb:Below w1.heap.size w1 W)=>show W.cell? ⟨b,1,none⟩=some (.int .u32 q)/\W.cell? ⟨b,2,none⟩=some (.map (some be)) from ⟨(h1.below hb).c1,(h1.below hb).c2⟩)
 have KK:=Lib.hid (fun (W:World) (hb:Below w1.heap.size w1 W)=>(mKeys_of be W).mono (R':=fun e wk=>∃ p,e=.returned (.func (.func 189) #[] #[.pointer (some ⟨p,0,none⟩)])/\wk.heap[p]? =some (.cells #[.map (some be)] 84 (0,0))/\Below w1.heap.size w1 wk/\Below W.heap.size W wk) (fun e wk ⟨he,hk⟩=>by
  subst hk
  exact ⟨_,he,heap_alloc_new W _,hb.trans ((below_box W _).mono hb.size),below_box W _⟩))
 have KS:=Lib.hid (fun (W:World) (p:Nat) (hb:Below w1.heap.size w1 W) (hp:W.heap[p]? =some (.cells #[.map (some be)] 84 (0,0)))=>(slSorted_of (h1.below hb).me hp (by omega)).mono (R':=fun e wk=>∃ no nc,e=.returned (.slice no (sortN ek).length nc)/\IR wk w1.heap.size (.slice no (sortN ek).length nc) (sortN ek)/\Below w1.heap.size w1 wk/\Below W.heap.size W wk) (fun e wk ⟨v,he,hi,hk⟩=>by
  obtain ⟨_,no,nc,rfl,_⟩:=hi.isc
  exact ⟨no,nc,he,⟨hi.1,hi.2.imp id fun ⟨g,cap,cur,hv,hg,r⟩=>⟨g,cap,cur,hv,Nat.le_trans hb.size hg,r⟩⟩,hb.trans (hk.mono hb.size),hk⟩))
 have HAL:=Lib.hid (fun (W:World) (o:Obj) (hb:Below w1.heap.size w1 W)=>show Below w1.heap.size w1 (W.alloc o) from hb.trans ((below_box W _).mono hb.size))
 have b0:Below w1.heap.size w1 w1.drew:=below_drewN' (Below.refl _ _) 1
 have HW1:=Lib.hid hw1
 have HB1:=Lib.hid hb1
 clear h hw1 hb1
 go_enter Tryz.func124,Tryz.ntmps124
 go_upto_region 1 with (fail)
 rw[show w.alloc (.cells #[.int .u32 0,.slice none 0 0,.slice none 0 0] 193)=w1 from HW1.out.symm]
 obtain ⟨n1,hn1⟩:∃ n1,n1=w1.heap.size:=⟨_,rfl⟩
 rw[<- hn1] at HS KK KS HAL b0
 obtain ⟨L,hL⟩:∃ L,L=(sortN ek).length:=⟨_,rfl⟩
 rw[<- hL] at KS
 have s0:=HS.out _ b0
 have bA:Below n1 w1 (w1.alloc (.cells #[.int .u32 0,.slice none 0 0,.slice none 0 0] 193)).drew:=below_drewN' (HAL.out _ _ (by rw[hn1];exact Below.refl _ _)) 1
 have sA:=HS.out _ bA
 have hA:(w1.alloc (.cells #[.int .u32 0,.slice none 0 0,.slice none 0 0] 193)).drew.heap[w1.heap.size]? =some (.cells #[.int .u32 0,.slice none 0 0,.slice none 0 0] 193 (0,0)):=heap_alloc_new w1 _
 have HN1:=Lib.hid hn1
 have HL:=Lib.hid hL
 have HBL:=Lib.hid h1.bl
 have HMEM:=Lib.hid (fun (W:World) (hb:Below w1.heap.size w1 W)=>h1.below hb)
 clear hn1 hL h1
 go_cut [3] from 6 (fun t3 wc=>∃ g no nc,t3=.pointer (some ⟨g,0,none⟩)/\n1<=g/\Below n1 w1 wc/\wc.heap[g]? =some (.cells #[.int .u32 q,.slice no L nc,.slice none 0 0] 193 (0,0))/\IR wc n1 (.slice no L nc) (sortN ek))
 case first=>
  go_region_held3 (fun W=>W.cell? ⟨b,1,none⟩=some (.int .u32 q)/\W.cell? ⟨b,2,none⟩=some (.map (some be))) (first|with_reducible exact keep3 (HS.out _ bS) hg1|with_reducible exact keep3 (HS.out _ bS) hg2|with_reducible exact keep3 (HS.out _ (HAL.out _ _ bS)) hg3|with_reducible exact HS.out _ bS|with_reducible exact HS.out _ (HAL.out _ _ bS)|with_reducible exact HS.out _ bK|with_reducible exact HS.out _ (HAL.out _ _ bK)|with_reducible exact sA|with_reducible exact s0) (first
   |(go_at_call 160;(with_reducible refine (KK.out _ (by first|with_reducible exact b0|with_reducible exact bA)).mono ?_);rintro e wk ⟨p,rfl,hp,bK,bKW⟩
     try have yK:=(by with_reducible exact hold9 hA bKW))
   |(go_at_call 159;(with_reducible refine (KS.out _ _ (by first|with_reducible exact bK|with_reducible exact HAL.out _ _ bK) (by first|with_reducible exact hp|with_reducible exact hold_alloc hp _)).mono ?_);rintro e ws ⟨no,nc,rfl,hir,bS,bSW⟩
     first
      |(have xS:=(by with_reducible exact hold9 yK bSW);obtain ⟨⟨x0,x1,x2⟩,y0,y1,y2⟩:=rowT xS)
      |(have xS:ws.heap[wk.heap.size]? =some (.cells #[.int .u32 0,.slice none 0 0,.slice none 0 0] 193):=(by with_reducible exact hold9 (heap_alloc_new wk _) bSW)
        obtain ⟨⟨x0,x1,x2⟩,y0,y1,y2⟩:=rowT xS)
      |skip
     have hg1:b≠w1.heap.size:=by have:=HBL.out;omega
     have hg2:b≠wk.heap.size:=by have:=HBL.out;have:=bK.size;omega
     have hg3:b≠ws.heap.size:=by have:=HBL.out;have:=bS.size;omega))
  · go_wp2_with fail
    go_meet
    exact ⟨ws.heap.size,no,nc,rfl,by have:=HN1.out;have:=bS.size;omega,HAL.out _ _ bS,heap_alloc_new ws _,hir.below (below_box ws _)⟩
  · go_wp2_with fail
    go_meet
    exact fin3 (HS1:=HN1.out) bS xS hir (by have:=HN1.out;have:=bK.size;omega)
  · go_wp2_with fail
    go_meet
    exact fin3 (HS1:=HN1.out) bS xS hir (by have:=HN1.out;omega)
 case rest=>
  obtain ⟨g,no,nc,rfl,hgn,hbc,hgc,hir⟩:=hcut
  clear s0 bA sA hA b0
  obtain ⟨m1,hm1⟩:∃ m1,m1=wc.heap.size:=⟨_,rfl⟩
  have hgm:g<m1:=by rw[hm1];exact (Array.getElem?_eq_some_iff.1 hgc).1
  obtain ⟨⟨y0,y1,y2⟩,_⟩:=rowT hgc
  have HSM:=Lib.hid (fun (W:World) (hb:Below n1 w1 W)=>HMEM.out W (HN1.out ▸ hb))
  have HCN:=Lib.hid (fun (W:World) (hk:∀ j,j<m1->j≠g->W.heap[j]? =wc.heap[j]?)=>show IR W n1 (.slice no L nc) (sortN ek) from ownsRow_keep hir fun r hr=>hk r (by rw[hm1];exact (ir_at hir hr).1) (fun e=>by
   obtain ⟨cur,hh⟩:=(ir_at hir hr).2
   rw[e,hgc] at hh
   injection hh with hh
   injection hh with _ e2
   exact absurd e2 (by decide)))
  have HGM:=Lib.hid hgm
  have HGN:=Lib.hid hgn
  have HW0:Hid (∀ W,Below n1 w1 W->W.heap[w.heap.size]? =some (.cells #[.int .u32 0,.slice none 0 0,.slice none 0 0] 193 (0,0))):=Lib.hid (fun W hb=>by
   have e1:w1.heap[w.heap.size]? =some zTx:=by rw[HW1.out];exact heap_alloc_new w zTx
   rw[hb.block _ (by rw[HN1.out,HW1.out];simp),e1];rfl)
  have HST:Hid (wc.heap[g]? =some (.cells #[.int .u32 q,.slice no L nc,.slice none 0 0] 193 (0,0))):=Lib.hid hgc
  have HSB:Hid (BB2 wc m1 0 (.slice none 0 0) []):=Lib.hid ⟨[],rfl,fun j hj=>absurd hj (Nat.not_lt_zero _),World.ownsRow_nil _ _ _ _⟩
  have HSE:=Lib.hid hbc
  have HSZ:Hid (m1<=wc.heap.size):=Lib.hid (by omega)
  have HELS:=Lib.hid (fun k (hk:k<L)=>show (sortN ek).getD k 0∈ek/\(sortN ek).take (k+1)=(sortN ek).take k ++ [(sortN ek).getD k 0] from by
   rw[HL.out] at hk
   refine ⟨?_,?_⟩
   · rw[List.getD_eq_getElem?_getD,List.getElem?_eq_getElem hk];exact mem_sortN.1 (List.getElem_mem hk)
   · rw[List.take_add_one,List.getD_eq_getElem?_getD,List.getElem?_eq_getElem hk];rfl)
  have HL37:Hid (L<=37):=Lib.hid (by rw[HL.out,sortN_length];exact hel)
  clear hgn hbc hgc hir hgm hm1 hel HS KK KS HAL
  go_wp2
  go_loopw [20] (fun i wr=>∃ (k:Nat) (vD:Value),k<=L/\i=.int .i64 k/\Hid (wr.heap[g]? =some (.cells #[.int .u32 q,.slice no L nc,vD] 193 (0,0)))/\Hid (BB2 wr m1 0 vD (((sortN ek).take k).map ev))/\Hid (Below n1 w1 wr)/\Hid (m1<=wr.heap.size/\∀ j,j<m1->j≠g->wr.heap[j]? =wc.heap[j]?)) (fun i _=>L-(intOf i).toNat)
  case atStart=>exact ⟨0,.slice none 0 0,by omega,rfl,HST,HSB,HSE,Lib.hid ⟨HSZ.out,fun _ _ _=>rfl⟩⟩
  case round=>
   obtain ⟨k,vD,hk,rfl,HG,HB,HE,HZ⟩:=hrel
   clear HST HSB HSE HSZ y0 y1 y2
   obtain ⟨⟨y0,y1,y2⟩,f0,f1,f2⟩:=rowT HG.out
   obtain ⟨vo,vc,rfl,_⟩:=(HB.out.lower (Nat.zero_le _)).bbr.sl.shape
   by_cases hlt:k<L
   · obtain ⟨hx,htk⟩:=HELS.out k hlt
     have hm:=HSM.out wr HE.out
     obtain ⟨no',nc',e1,q1⟩:=(HCN.out wr HZ.out.2).sl.open'
     obtain ⟨rfl,rfl⟩:=And.intro (Value.slice.inj e1).1 (Value.slice.inj e1).2.2
     rw[<- HL.out] at q1
     obtain ⟨b1,o1,rfl,_,c1⟩:=q1 (by omega)
     have z1:=c1 k hlt
     have c2:=hm.c2
     have hlo:=hm.me.look hx
     obtain ⟨gx,cx,cur,hv,_⟩:=(hm.re _ hx).row
     have HBE:Hid (BElt wr.drew 0 (eg ((sortN ek).getD k 0)) (ev ((sortN ek).getD k 0))):=Lib.hid ((hm.re _ hx).1.elt.below (below_drewN' (Below.refl _ _) 1))
     rw[hv] at hlo HBE
     obtain ⟨x,hxx⟩:∃ x,x=(sortN ek).getD k 0:=⟨_,rfl⟩
     rw[<- hxx] at z1 hlo HBE htk
     have HTK:=Lib.hid htk
     have HRD:=Lib.hid (HB.out.below (Below.refl _ wr).drew)
     have HLN:Hid ((((sortN ek).take k).map ev).length<=100000):=Lib.hid (by rw[List.length_map,List.length_take];have:=HL37.out;omega)
     have HM1:Hid (m1<=wr.drew.heap.size):=Lib.hid HZ.out.1
     have ek':(k:Int)<(L:Int):=by omega
     obtain ⟨W1,hW1⟩:∃ W1,W1=(wr.alloc (.cells #[.slice (some ⟨gx,0,none⟩) 256 cx] 49)).drew:=⟨_,rfl⟩
     have hbW:Below wr.heap.size wr W1:=by rw[hW1];exact below_drewN' (below_box wr _) 1
     have hone:BB2 W1 m1 0 (.slice (some ⟨wr.heap.size,0,none⟩) 1 1) [ev x]:=by rw[hW1];exact bb2_one (B:=m1) HBE.out HM1.out
     obtain ⟨v5,w5,hrun5,hv5,hb5,_⟩:=run_append_bb2 104 Tryz.underlying104 W1 m1 0 (Nat.zero_le _) 104 _ _ (HB.out.below hbW) (.slice (some ⟨wr.heap.size,0,none⟩) 1 1) [ev x] (BBR.be (BB2.bbr (hone.lower (Nat.zero_le _)))) (by have:=HLN.out;simp only[List.length_singleton];omega) (Nat.le_trans HZ.out.1 hbW.size)
     have HG5:=(hb5.block g HGM.out).trans ((hbW.block g (Nat.lt_of_lt_of_le HGM.out HZ.out.1)).trans HG.out)
     obtain ⟨⟨z0,z1',z2⟩,g0,g1,g2⟩:=rowT HG5
     obtain ⟨vo5,vc5,rfl,_⟩:=(hv5.lower (Nat.zero_le _)).bbr.sl.shape
     have HV5:=Lib.hid hv5
     have HB5:=Lib.hid (show Below m1 wr w5 from (hbW.mono HZ.out.1).trans hb5)
     have HG5':=Lib.hid HG5
     have a2:=(hbW.cell (p:=⟨g,2,none⟩) (Nat.lt_of_lt_of_le HGM.out HZ.out.1)).trans y2
     have d2:=(show wr.drew.cell? ⟨g,2,none⟩=wr.cell? ⟨g,2,none⟩ from rfl).trans y2
     have d3:wr.drew.cell? ⟨b,2,none⟩=some (.map (some be)):=c2
     have hlo':=(HSM.out wr.drew (below_drewN' HE.out 1)).me.look hx
     rw[hv,<- hxx] at hlo'
     rw[hW1] at hrun5 a2
     clear hv5 hb5 hbW hone hW1 HG5 HLN hx htk hm e1 q1 c1 hv hxx hlo
     generalize ((((sortN ek).take k).map ev) ++ [ev x]).length=K2 at HV5 hrun5
     generalize (((sortN ek).take k).map ev).length=K1 at HB HRD hrun5 a2 d2 y2 HG z2 HG5'
     have hwr6:=Wrote.setCell w5 g 2 (.slice vo5 K2 vc5)
     have HR1:=Lib.hid (heap_setCell_same w5 g 2 _ _ (.slice vo5 K2 vc5) HG5'.out)
     have HR2:Hid (BB2 (w5.setCell ⟨g,2,none⟩ (.slice vo5 K2 vc5)) m1 0 (.slice vo5 K2 vc5) (((sortN ek).take (k+1)).map ev)):=Lib.hid (by
      rw[HTK.out,List.map_append]
      exact bb2_wrote HV5.out hwr6 HG5'.out)
     have HR3:Hid (Below n1 w1 (w5.setCell ⟨g,2,none⟩ (.slice vo5 K2 vc5))):=Lib.hid ((HE.out.trans (HB5.out.mono (by have:=HGN.out;have:=HGM.out;omega))).trans (hwr6.below HGN.out))
     have HR4:Hid (m1<=(w5.setCell ⟨g,2,none⟩ (.slice vo5 K2 vc5)).heap.size/\∀ j,j<m1->j≠g->(w5.setCell ⟨g,2,none⟩ (.slice vo5 K2 vc5)).heap[j]? =wc.heap[j]?):=Lib.hid ⟨by rw[hwr6.2.2.2.1];exact Nat.le_trans HZ.out.1 HB5.out.size,fun j hj hn=>(hwr6.2.2.2.2 j hn).trans ((HB5.out.block j hj).trans (HZ.out.2 j hj hn))⟩
     clear hwr6
     go_wp2
     go_region_law (refine step_append_run (by rfl) (.tmp 25) (.tmp 32) 104 104 (by rfl) (by rfl) _ _ _ _ (by rfl) (by rfl) hrun5 ?_)
     all_goals
      have hk37:L<=37:=HL37.out
      go_wp2
      go_roundw
      case rel=>exact ⟨k+1,_,by omega,by go_num,HR1,HR2,HR3,HR4⟩
      case measure=>simp[intOf];omega
   · obtain rfl:k=L:=by omega
     have hw0:=HW0.out wr HE.out
     generalize (((sortN ek).take k).map ev).length=K1 at HB y2 HG
     go_wp2_with (with_reducible refine wpList_store_t3 rfl 193 sizeT (.tmp 2) (.tmp 36) rfl w.heap.size rfl _ _ _ _ _ _ rfl rfl rfl rfl _ hw0 ?_;intro w9 hw9 hr9)
     refine bodyPost_ret (v:=.agg #[.int .u32 q,.slice no k nc,.slice vo K1 vc]) (results_cell_row rfl _ _ w.heap.size _ _ (0,0) _ rfl hr9 Tryz.underlying193 rfl (by rw[sizeT];rfl)) rfl ⟨_,_,rfl,?_,?_,?_⟩
     · exact ir_lower ((HCN.out wr HZ.out.2).wrote hw9 hw0 (by decide))
     · have e1:(sortN ek).take k=sortN ek:=List.take_of_length_le (by rw[HL.out];exact Nat.le_refl _)
       have h9:=bb2_wrote HB.out hw9 hw0
       rw[e1] at h9
       exact (h9.lower (Nat.zero_le _)).bbr
     · exact HB1.out.trans (((HE.out.mono (by rw[HN1.out];exact HB1.out.size))).trans (hw9.below (Nat.le_refl _)))
end
end Go.Proofs.YtaakepjgpnaecaaGreat
