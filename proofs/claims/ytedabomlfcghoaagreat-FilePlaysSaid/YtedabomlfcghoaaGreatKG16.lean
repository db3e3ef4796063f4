/- What the law rests on: part 16. -/
import Derived.Test.YtedabomlfcghoaaGreatKG15
set_option linter.unusedVariables false
namespace Go.Proofs.YtedabomlfcghoaaGreat
set_option maxRecDepth 100000
open Go.RowKit BM
def Zbf(N:List (List Int))(m:Nat):Int:=(N.getD m []).getD 0 0
def FreeAt(N:List (List Int))(f:Nat):Prop:=1<=f/\f<48/\Zbf N f=0/\∀ m,1<=m->m<f->Zbf N m≠0
def FullN(N:List (List Int)):Prop:=∀ m,1<=m->m<48->Zbf N m≠0
theorem FreeAt.one{N:List (List Int)}{f g:Nat}(h:FreeAt N f)(h':FreeAt N g):f=g:=by
 rcases Nat.lt_trichotomy f g with e|e|e
 . exact absurd h.2.2.1 (h'.2.2.2 f h.1 e)
 . exact e
 . exact absurd h'.2.2.1 (h.2.2.2 g h'.1 e)
theorem idx_a6{L:List Int}(hL:L.length=6)(W:World)(t:Nat)(ht:t<6):(Instr.index 116 (.agg (iC L).toArray) (.int .i64 (t:Int))).run Tryz.prog W=.ok (.int .i64 (L.getD t 0)) W:=by
 match L,hL with
 |[t0,t1,t2,t3,t4,t5],_=>
  have:t=0\/t=1\/t=2\/t=3\/t=4\/t=5:=by omega
  rcases this with rfl|rfl|rfl|rfl|rfl|rfl <;> simp[Instr.index,run_underlying Tryz.underlying116,asIntOf,go_sem,iC]
theorem infoA6:(Tryz.prog.info? 116).map (·.size)=some 6:=by kernel_rfl
section
variable {w:World}{P:Nat->Prop}{d p:Value}{X:XSt}{S:List Int}{N:List (List Int)}{bf:Nat}
set_option maxHeartbeats 1000000 in
theorem fsFree_any(h:SInv w P d p X)(hf:FsAt w bf p)(hT:Tab X.cur S N){W:World}(hb:Below w.heap.size w W):
 Calls Tryz.prog 47 #[.pointer (some ⟨bf,0,none⟩)] W fun e w'=>((∃ f,FreeAt N f/\e=.returned (.tuple #[.int .i64 (f:Nat),.int .i64 0]))\/(FullN N/\e=.returned (.tuple #[.int .i64 0,.int .i64 13])))/\Below W.heap.size W w':=by
 have KS:=hid (fsSuper_of h hf hT hb);have KI:=hid (fun(t:Nat) (ht:t<6) (V:World) (hv:Below w.heap.size w V)=>fsInodes_of h hf hT ht hv);have HBW:=hid hb;have h12:=hT.s12;have hd6:(S.drop 6).length=6:=by rw[List.length_drop,h12]
 obtain⟨A6,hA6⟩:∃ A6,A6=Value.agg (iC (S.drop 6)).toArray:=⟨_,rfl⟩;have HA6:=hid hA6.symm;have HIX:Hid (∀ (V:World) (t:Nat),t<6->(Instr.index 116 A6 (.int .i64 (t:Int))).run Tryz.prog V=.ok (.int .i64 (Zbq S t:Nat)) V):=hid fun V t ht=>by
  rw[hA6,idx_a6 hd6 V t ht];have:=(Zdh hT.sf ht).1;unfold num at this;rw[<- this,List.getD_eq_getElem?_getD,List.getD_eq_getElem?_getD,List.getElem?_drop]
 have HRG:Hid (∀ (V:World) (g:Nat),V.heap[g]? =some (supO S 118)->V.rangeAt g 6 (iC (S.drop 6))):=hid fun V g hr=>Zca (cur:=S.map (Value.int .i64)) hr (by
  rw[Zao,hd6,List.take_of_length_le (by rw[List.length_drop,List.length_map,h12];decide),iC,List.map_drop])
 have H14:Hid (∀ t,Zgq (inT N t)):=hid fun t=>inT_14 hT.n.l14 t
 have H8:Hid (∀ t,t<6->(inT N t).length=8):=hid fun t ht=>Zgi hT.n.len ht
 have u6:=Tryz.underlying116;have u1:=Tryz.underlying47;have HD6:=hid hd6;clear h hf hT hb hA6 hd6;go_enter Tryz.func47,Tryz.ntmps47
 go_wp2_with (first
  |(go_at_call 63;refine KS.out.mono ?_;rintro e w2 ⟨rfl,hb2⟩)
  |(with_reducible refine Zaq rfl (.tmp 4) (.tmp 16) rfl w2.heap.size rfl S Zbp rfl h12 rfl _ (heap_alloc_new w2 _) ?_
    intro w3 hw3 hr3;have hb3:=hb2.trans ((Zaa w2 (supO Zbp 118)).mono hb2.size);have hb13:Below W.heap.size W w3:=hb3.trans (hw3.below (Nat.le_trans hb2.size (Nat.le_refl _)));have hrg3:=HRG.out _ _ hr3)
  |(with_reducible refine Zae rfl 116 (.tmp 21) rfl w2.heap.size 6 rfl (S.drop 6) _ hrg3 u6 rfl (by rw[infoA6,HD6.out]) ?_;rw[HA6.out]))
 have HB3:=hid hb13;clear hb2 hw3 hr3 hb3 hrg3 hb13;go_loopw [6,23] (fun ino i wr=>∃ t:Nat,t<=6/\i=.int .i64 t/\ino=.int .i64 ((8*t:Nat):Int)/\Hid (∀ m,1<=m->m<8*t->Zbf N m≠0)/\Hid (Below W.heap.size W wr)) (fun _ i _=>6-(intOf i).toNat)
 case atStart=>exact⟨0,by omega,rfl,rfl,hid fun m h1 h2=>absurd h2 (Nat.not_lt_zero _),HB3⟩
 case round=>
  obtain⟨t,ht,rfl,rfl,HS,HB⟩:=hrel;clear HB3;by_cases hlt:t<6
  . have hix:=HIX.out wr t hlt
    have elt:(t:Int)<6:=by omega
    have KI1:=hid (KI.out t hlt wr (HBW.out.trans (HB.out.mono HBW.out.size)));have h14:=hid (H14.out t);have h8:=hid (H8.out t hlt);have HE:Hid (∀ j,j<8->((inT N t).getD j []).getD 0 0=Zbf N (8*t+j)):=hid fun j hj=>by unfold Zbf;rw[inT_getD N t hj]
    obtain⟨T,hTT⟩:∃ T,T=inT N t:=⟨_,rfl⟩;rw[<- hTT] at KI1 h14 h8 HE;obtain⟨A,hA⟩:∃ A,A=Zbq S t:=⟨_,rfl⟩;rw[<- hA] at KI1 hix;clear hTT hA;obtain⟨M8,hM8⟩:∃ M8:Nat,M8=8:=⟨_,rfl⟩;have HM8:=hid hM8;go_wp2_with (go_at_call 64;refine KI1.out.mono ?_;rintro e w4 ⟨g,rfl,hg4,hr4,hb4⟩)
    have HR4:Hid (w4.heap[g]? =some (.cells (T.flatMap iC).toArray 47 (0,0))):=hid hr4;have HB4:=hid (HB.out.trans (hb4.mono HB.out.size));clear hix hr4 hb4 hg4 hM8;go_loopw [6,37] (fun ino i wr=>∃ j:Nat,j<=8/\i=.int .i64 j/\ino=.int .i64 ((8*t+j:Nat):Int)/\Hid (∀ m,1<=m->m<8*t+j->Zbf N m≠0)/\Hid (Below w4.heap.size w4 wr)) (fun _ i _=>8-(intOf i).toNat)
    case atStart=>exact⟨0,by omega,rfl,rfl,HS,hid (Below.refl _ _)⟩
    case round=>
     obtain⟨j,hj,rfl,rfl,HS2,HB2⟩:=hrel;by_cases hlj:j<8
     . have elj:(j:Int)<8:=by omega
       have hr:=Zad HR4.out HB2.out;obtain⟨x,hx⟩:∃ x,x=T.getD j []:=⟨_,rfl⟩;have hrg:wr.rangeAt g (j*14) (iC x):=by
        have hjl:j<T.length:=by rw[h8.out];exact hlj
        have:=flat_range (f:=iC) (s:=14) (k:=j) hr (fun y hy=>by rw[Zao];exact h14.out y hy) hjl;rw[hx,List.getD_eq_getElem?_getD,List.getElem?_eq_getElem hjl];exact this
       have hx14:x.length=14:=by rw[hx];exact Zge h14.out j (by rw[h8.out];exact hlj)
       have HX14:=hid hx14;have hkd:=HE.out j hlj;rw[<- hx] at hkd;obtain⟨kd,hkk⟩:∃ kd,kd=Zbf N (8*t+j):=⟨_,rfl⟩;rw[<- hkk] at hkd;have HKD:=hid hkd;have HKK:=hid hkk;obtain⟨i,hi⟩:∃ i:Nat,i=8*t+j:=⟨_,rfl⟩;have hi48:i<48:=by omega
       have HI:=hid hi;rw[<- hi] at HKK HS2 |-
       clear hx hr hkd hkk hi hx14;by_cases h0:i=0
       . subst h0
         go_wp2_with (first
          |(with_reducible refine Zae rfl 47 (.tmp 39) rfl g (j*14) rfl x _ hrg u1 rfl (by rw[Zhi,HX14.out]) ?_)
          |(with_reducible refine Zch rfl (.tmp 12) (.tmp 40) rfl wr.heap.size rfl x zeroI rfl HX14.out rfl _ (heap_alloc_new wr _) ?_
            intro w5 hw5 hr5;have hb5:=HB2.out.trans (((Zaa wr (iO zeroI 47)).trans (hw5.below (Nat.le_refl _))).mono HB2.out.size)))
         go_roundw
         case rel=>exact⟨j+1,by omega,by go_num,by have:=HI.out;rw[show 8*t+(j+1)=0+1 by omega];go_num,hid fun m h1 h2=>by have:=HI.out;omega,hid hb5⟩
         case measure=>simp[intOf];omega
       . have ei:(0:Int)<(i:Int):=by omega
         rcases hkb:(kd==0) with _|_
         . go_wp2_with (first
            |(with_reducible refine Zae rfl 47 (.tmp 39) rfl g (j*14) rfl x _ hrg u1 rfl (by rw[Zhi,HX14.out]) ?_)
            |(with_reducible refine Zch rfl (.tmp 12) (.tmp 40) rfl wr.heap.size rfl x zeroI rfl HX14.out rfl _ (heap_alloc_new wr _) ?_
              intro w5 hw5 hr5;have hb5:=HB2.out.trans (((Zaa wr (iO zeroI 47)).trans (hw5.below (Nat.le_refl _))).mono HB2.out.size);have c0:=Zev hr5 0 (by rw[HX14.out];decide);rw[HKD.out] at c0))
           go_roundw
           case rel=>exact⟨j+1,by omega,by go_num,by have:=HI.out;rw[show 8*t+(j+1)=i+1 by omega];go_num,hid fun m h1 h2=>by
            by_cases e:m=i
            . rw[e,<- HKK.out];simpa using hkb
            . exact HS2.out m h1 (by have:=HI.out;omega),hid hb5⟩
           case measure=>simp[intOf];omega
         . go_wp2_with (first
            |(with_reducible refine Zae rfl 47 (.tmp 39) rfl g (j*14) rfl x _ hrg u1 rfl (by rw[Zhi,HX14.out]) ?_)
            |(with_reducible refine Zch rfl (.tmp 12) (.tmp 40) rfl wr.heap.size rfl x zeroI rfl HX14.out rfl _ (heap_alloc_new wr _) ?_
              intro w5 hw5 hr5;have hb5:=HB2.out.trans (((Zaa wr (iO zeroI 47)).trans (hw5.below (Nat.le_refl _))).mono HB2.out.size);have c0:=Zev hr5 0 (by rw[HX14.out];decide);rw[HKD.out] at c0))
           go_ret2;refine⟨.inl ⟨i,⟨by omega,hi48,by rw[<- HKK.out];simpa using hkb,HS2.out⟩,rfl⟩,HB4.out.trans (hb5.mono HB4.out.size)⟩
     . obtain rfl:j=8:=by omega
       have HB5:=hid (HB4.out.trans (HB2.out.mono HB4.out.size));go_wp2;go_roundw
       case rel=>exact⟨t+1,by omega,by go_num,rfl,HS2,HB5⟩
       case measure=>simp[intOf];omega
  . obtain rfl:t=6:=by omega
    go_wp2;go_ret2;exact⟨.inr ⟨HS.out,rfl⟩,HB.out⟩
end
end Go.Proofs.YtedabomlfcghoaaGreat
namespace Go.Proofs.YtedabomlfcghoaaGreat
set_option maxRecDepth 100000
open Go.RowKit
theorem sLimit_of{L:List Int}(hL:L.length=12)(hT:Top L)(w:World):
 Calls Tryz.prog 190 #[supV L] w fun e w'=>e=.returned (.int .i64 (limS L))/\Below w.heap.size w w':=by
 have h0:frmS L=false\/frmS L=true:=by cases frmS L <;> simp
 have KF:∀ B,frmS L=B->_:=fun B h=>sFormed_is hL hT B h
 have hr:limS L=if frmS L=true then (if num L 1=2 then num L 2 else num L 0) else 0:=rfl
 have hob:=Zaa w (supO L 118);have hh:=heap_alloc_new w (supO L 118);obtain⟨W1,hW1⟩:∃ W1,W1=w.alloc (supO L 118):=⟨_,rfl⟩;rw[<- hW1] at hob hh
 match L,hL with
 |[b,st,tg,cu,io,ba,t0,t1,t2,t3,t4,t5],_=>
  have hW2:w.alloc (.cells #[.int .i64 b,.int .i64 st,.int .i64 tg,.int .i64 cu,.int .i64 io,.int .i64 ba,.int .i64 t0,.int .i64 t1,.int .i64 t2,.int .i64 t3,.int .i64 t4,.int .i64 t5] 118)=W1:=by rw[hW1];rfl
  have H2:=hid hW2;have HH:=hid hh;change limS [b,st,tg,cu,io,ba,t0,t1,t2,t3,t4,t5]=if frmS [b,st,tg,cu,io,ba,t0,t1,t2,t3,t4,t5]=true then (if st=2 then tg else b) else 0 at hr
  show Calls Tryz.prog 190 #[.agg #[.int .i64 b,.int .i64 st,.int .i64 tg,.int .i64 cu,.int .i64 io,.int .i64 ba,.int .i64 t0,.int .i64 t1,.int .i64 t2,.int .i64 t3,.int .i64 t4,.int .i64 t5]] w fun e w'=>e=.returned (.int .i64 (limS _))/\Below w.heap.size w w'
  rw[hr];rcases h0 with h0|h0
  . rw[h0]
    have K0:Hid (∀ w,Calls Tryz.prog 188 #[.agg #[.int .i64 b,.int .i64 st,.int .i64 tg,.int .i64 cu,.int .i64 io,.int .i64 ba,.int .i64 t0,.int .i64 t1,.int .i64 t2,.int .i64 t3,.int .i64 t4,.int .i64 t5]] w fun e w'=>e=.returned (.bool false)/\Below w.heap.size w w'):=hid (KF _ h0);clear KF hr h0 hW1 hW2 hT hh;go_enter Tryz.func190,Tryz.ntmps190;go_wp2_with (first|(go_at_call 188;rw[H2.out];refine(K0.out _).mono ?_;rintro e w2 ⟨rfl,hb2⟩))
    go_ret;exact⟨rfl,hob.trans (hb2.mono hob.size)⟩
  . rw[h0]
    have K0:Hid (∀ w,Calls Tryz.prog 188 #[.agg #[.int .i64 b,.int .i64 st,.int .i64 tg,.int .i64 cu,.int .i64 io,.int .i64 ba,.int .i64 t0,.int .i64 t1,.int .i64 t2,.int .i64 t3,.int .i64 t4,.int .i64 t5]] w fun e w'=>e=.returned (.bool true)/\Below w.heap.size w w'):=hid (KF _ h0);clear KF hr h0 hW1 hW2 hT hh;by_cases h2:st=2
    . rw[if_pos rfl,if_pos h2]
      have h2':(st==2)=true:=by simp[h2]
      clear h2;go_enter Tryz.func190,Tryz.ntmps190;go_wp2_with (first|(go_at_call 188;rw[H2.out];refine(K0.out _).mono ?_;rintro e w2 ⟨rfl,hb2⟩;have hc:=Zhs ((hb2.block _ (Array.getElem?_eq_some_iff.1 HH.out).1).trans HH.out)))
      go_ret;exact⟨rfl,hob.trans (hb2.mono hob.size)⟩
    . rw[if_pos rfl,if_neg h2]
      have h2':(st==2)=false:=by simp[h2]
      clear h2;go_enter Tryz.func190,Tryz.ntmps190;go_wp2_with (first|(go_at_call 188;rw[H2.out];refine(K0.out _).mono ?_;rintro e w2 ⟨rfl,hb2⟩;have hc:=Zhs ((hb2.block _ (Array.getElem?_eq_some_iff.1 HH.out).1).trans HH.out)))
      go_ret;exact⟨rfl,hob.trans (hb2.mono hob.size)⟩
end Go.Proofs.YtedabomlfcghoaaGreat
namespace Go.Proofs.YtedabomlfcghoaaGreat
set_option maxRecDepth 100000
open Go.RowKit BM
def Zlk(k:Int):List Int:=[k,0,0,0,0,0,0,0,0,0,0,0,0,0]
theorem kindI_frm{k:Int}(h:1<=k/\k<=3):frmI (Zlk k)=true:=by
 have:k=1\/k=2\/k=3:=by omega
 rcases this with rfl|rfl|rfl <;> decide
theorem fsGive_any{W:World}{bf:Nat}{p:Value}{n:Int}{R:Int->World->Prop}(hf:FsAt W bf p)(hK:Calls Tryz.prog 157 #[p,.int .i64 n] W fun e w'=>∃ E:Int,e=.returned (.int .i64 E)/\R E w'):
 Calls Tryz.prog 118 #[.pointer (some ⟨bf,0,none⟩),.int .i64 n] W fun e w'=>∃ E:Int,e=.returned (.int .i64 E)/\R E w':=by
 have KB:=hid (Zey hf);have KG:=hid hK;clear hf hK;go_enter Tryz.func118,Tryz.ntmps118
 go_wp2_with (first
  |(go_at_call 92;refine KB.out.mono ?_;rintro e w' ⟨rfl,rfl⟩)
  |(go_at_call 157;refine KG.out.mono ?_;rintro e w2 ⟨E,rfl,hr⟩))
 go_ret;exact⟨E,rfl,hr⟩
section
variable {w:World}{P:Nat->Prop}{d p:Value}{X:XSt}{S:List Int}{N:List (List Int)}{bf:Nat}
theorem fsMake_full(h:SInv w P d p X)(hf:FsAt w bf p)(hT:Tab X.cur S N)(hN:FullN N){k:Int}(hk:1<=k/\k<=3){W:World}(hb:Below w.heap.size w W):
 Calls Tryz.prog 24 #[.pointer (some ⟨bf,0,none⟩),.int .i64 k] W fun e w'=>e=.returned (.tuple #[.int .i64 0,.int .i64 13])/\Below W.heap.size W w':=by
 have KF:=hid ((fsFree_any h hf hT hb).mono fun e w' ⟨ho,hb⟩=>show e=Ending.returned (.tuple #[.int .i64 0,.int .i64 13])/\Below W.heap.size W w' from⟨ho.elim (fun⟨f,h1,_⟩=>absurd h1.2.2.1 (hN f h1.1 h1.2.1)) fun h2=>h2.2,hb⟩);clear h hf hT hN hb;have:k=1\/k=2\/k=3:=by omega
 rcases this with rfl|rfl|rfl
 all_goals
  clear hk;go_enter Tryz.func24,Tryz.ntmps24;go_wp2_with (go_at_call 47;refine KF.out.mono ?_;rintro e w2 ⟨rfl,hb2⟩)
  go_ret2;exact⟨rfl,hb2⟩
theorem fsMake_yes(h:SInv w P d p X)(hw:X.wi=true)(hp:X.put.length<37)(hf:FsAt w bf p)(hT:Tab X.call S N){f:Nat}(hN:FreeAt N f){k:Int}(hk:1<=k/\k<=3){W:World}(hb:Below w.heap.size w W):
 Calls Tryz.prog 24 #[.pointer (some ⟨bf,0,none⟩),.int .i64 k] W fun e w'=>e=.returned (.tuple #[.int .i64 (f:Nat),.int .i64 0])/\∃ P',SInv w' P' d p (putI X S N f (Zlk k))/\Chg P P' W w':=by
 have hT':Tab X.cur S N:=by unfold XSt.cur;rw[if_pos hw];exact hT
 have KF:=hid ((fsFree_any h hf hT' hb).mono fun e w' ⟨ho,hb⟩=>show e=Ending.returned (.tuple #[.int .i64 (f:Nat),.int .i64 0])/\Below W.heap.size W w' from⟨ho.elim (fun⟨g,h1,h2⟩=>by rw[h2,h1.one hN]) fun h2=>absurd hN.2.2.1 (h2.1 f hN.1 hN.2.1),hb⟩);obtain⟨X',hX'⟩:∃ X',X'=putI X S N f (Zlk k):=⟨_,rfl⟩;have KP:Hid (∀ V:World,Below w.heap.size w V->Calls Tryz.prog 48 #[.pointer (some ⟨bf,0,none⟩),.int .i64 (f:Nat),.agg #[.int .i64 k,.int .i64 0,.int .i64 0,.int .i64 0,.int .i64 0,.int .i64 0,.int .i64 0,.int .i64 0,.int .i64 0,.int .i64 0,.int .i64 0,.int .i64 0,.int .i64 0,.int .i64 0]] V fun e w'=>e=.returned (.int .i64 0)/\∃ P',SInv w' P' d p X'/\Chg P P' V w'):=hid fun V hv=>by
  rw[hX'];exact fsPut_yes h hw hp hf hT hN.1 hN.2.1 (x:=Zlk k) rfl (kindI_frm hk) hv
 rw[<- hX'];have HB:=hid hb;clear h hf hT hT' hN hb hw hp hX';have:k=1\/k=2\/k=3:=by omega
 rcases this with rfl|rfl|rfl
 all_goals
  clear hk;go_enter Tryz.func24,Tryz.ntmps24
  go_wp2_with (first
   |(go_at_call 47;refine KF.out.mono ?_;rintro e w2 ⟨rfl,hb2⟩)
   |(go_at_call 48;refine(KP.out _ (HB.out.trans (hb2.mono HB.out.size))).mono ?_;rintro e w3 ⟨rfl,P3,hi3,hc3⟩))
  go_ret2;exact⟨rfl,P3,hi3,(Chg.of_below hb2).trans hc3⟩
theorem list12_ex{L:List Int}(h:L.length=12):∃ b  st  tg  cu  io  ba  t0  t1  t2  t3  t4  t5:Int,L=[b,st,tg,cu,io,ba,t0,t1,t2,t3,t4,t5]:=by
 match L,h with
 |[b,st,tg,cu,io,ba,t0,t1,t2,t3,t4,t5],_=>exact⟨b,st,tg,cu,io,ba,t0,t1,t2,t3,t4,t5,rfl⟩
set_option maxHeartbeats 4000000 in
theorem fsTake_any(h:SInv w P d p X)(hf:FsAt w bf p)(hT:Tab X.cur S N)(hTop:Top S){goal i j:Int}{W:World}(hb:Below w.heap.size w W){R:Int->Int->World->World->Prop}
 (hR:∀ x E V w' b,W.heap.size<=b->b<V.heap.size->R x E V w'->w'.heap[b]? =V.heap[b]?)
 (hK:∀ V,Below W.heap.size W V->Calls Tryz.prog 189 #[p,.int .i64 (num S 0),.int .i64 (limS S),.int .i64 goal,.agg #[.int .u16 i,.int .u16 j]] V fun e w'=>∃ x E:Int,e=.returned (.tuple #[.int .i64 x,.int .i64 E])/\R x E V w'):
 Calls Tryz.prog 154 #[.pointer (some ⟨bf,0,none⟩),.int .i64 goal,.agg #[.int .u16 i,.int .u16 j]] W fun e w'=>∃ (x E:Int) (V:World),e=.returned (.tuple #[.int .i64 x,.int .i64 E])/\Below W.heap.size W V/\R x E V w':=by
 obtain⟨o,ho⟩:∃ o,o=W.heap.size:=⟨_,rfl⟩;have hb1:=Zaa W (.cells #[.int .u16 i,.int .u16 j] 109);have hr1:=heap_alloc_new W (.cells #[.int .u16 i,.int .u16 j] 109);obtain⟨w1,hw1⟩:∃ w1,w1=W.alloc (.cells #[.int .u16 i,.int .u16 j] 109):=⟨_,rfl⟩;rw[<- hw1] at hb1 hr1;have H1:=hid hw1.symm;have hb01:=hb.trans (hb1.mono hb.size);have KS:=hid (fsSuper_of h hf hT hb01);have KB:=hid (fun(V:World) (hv:Below w.heap.size w V)=>Zey (hf.low hv));have KL:=hid (sLimit_of hT.s12 hTop);have h12:=hT.s12;have HBW:=hid hb01;have HRR:=hid hR;clear h hf hT hTop hb hb01 hw1;obtain⟨b,st,tg,cu,io,ba,t0,t1,t2,t3,t4,t5,rfl⟩:=list12_ex h12;obtain⟨l,hll⟩:∃ l,l=limS [b,st,tg,cu,io,ba,t0,t1,t2,t3,t4,t5]:=⟨_,rfl⟩;rw[<- hll] at hK KL;have KT:Hid (∀ V,Below W.heap.size W V->Calls Tryz.prog 189 #[p,.int .i64 b,.int .i64 l,.int .i64 goal,.agg #[.int .u16 i,.int .u16 j]] V fun e w'=>∃ x E:Int,e=.returned (.tuple #[.int .i64 x,.int .i64 E])/\R x E V w'):=hid hK;clear hll hK hR;have KL2:Hid (∀ V:World,Calls Tryz.prog 190 #[.agg #[.int .i64 b,.int .i64 st,.int .i64 tg,.int .i64 cu,.int .i64 io,.int .i64 ba,.int .i64 t0,.int .i64 t1,.int .i64 t2,.int .i64 t3,.int .i64 t4,.int .i64 t5]] V fun e w'=>e=.returned (.int .i64 l)/\Below V.heap.size V w'):=KL;have KS2:Hid (Calls Tryz.prog 63 #[.pointer (some ⟨bf,0,none⟩)] w1 fun e w'=>e=Ending.returned (.tuple #[.agg #[.int .i64 b,.int .i64 st,.int .i64 tg,.int .i64 cu,.int .i64 io,.int .i64 ba,.int .i64 t0,.int .i64 t1,.int .i64 t2,.int .i64 t3,.int .i64 t4,.int .i64 t5],.int .i64 0])/\Below w1.heap.size w1 w'):=KS;go_enter Tryz.func154,Tryz.ntmps154;go_upto_region 4 with(go_at_call 63;rw[H1.out];refine KS2.out.mono ?_;rintro e w2 ⟨rfl,hb2⟩)
 have hb23:=Zaa w2 (supO [b,st,tg,cu,io,ba,t0,t1,t2,t3,t4,t5] 118);have hr3:=heap_alloc_new w2 (supO [b,st,tg,cu,io,ba,t0,t1,t2,t3,t4,t5] 118);obtain⟨w3,hw3⟩:∃ w3,w3=w2.alloc (supO [b,st,tg,cu,io,ba,t0,t1,t2,t3,t4,t5] 118):=⟨_,rfl⟩;rw[<- hw3] at hb23 hr3;rw[show w2.alloc (.cells #[.int .i64 b,.int .i64 st,.int .i64 tg,.int .i64 cu,.int .i64 io,.int .i64 ba,.int .i64 t0,.int .i64 t1,.int .i64 t2,.int .i64 t3,.int .i64 t4,.int .i64 t5] 118)=w3 from hw3.symm,<- ho];have hq0:=Nat.le_trans hb1.size hb2.size;obtain⟨q,hq⟩:∃ q,q=w2.heap.size:=⟨_,rfl⟩;rw[<- hq] at hr3 hq0 |-
 have hb13:=hb2.trans (hb23.mono hb2.size);have hqo:W.heap.size<=q/\q<w3.heap.size:=⟨hq0,(Array.getElem?_eq_some_iff.1 hr3).1⟩;have hol:W.heap.size<w3.heap.size:=Nat.lt_of_le_of_lt hqo.1 hqo.2;have HFACT:Hid (∀ V:World,V.heap[q]? =w3.heap[q]? ->V.heap[o]? =w3.heap[o]? ->((V.cell? ⟨q,0,none⟩=some (.int .i64 b)/\V.cell? ⟨q,1,none⟩=some (.int .i64 st)/\V.cell? ⟨q,2,none⟩=some (.int .i64 tg)/\V.cell? ⟨q,3,none⟩=some (.int .i64 cu))/\(V.cell? ⟨q,4,none⟩=some (.int .i64 io)/\V.cell? ⟨q,5,none⟩=some (.int .i64 ba)/\V.cell? ⟨q,6,none⟩=some (.int .i64 t0)/\V.cell? ⟨q,7,none⟩=some (.int .i64 t1))/\V.cell? ⟨q,8,none⟩=some (.int .i64 t2)/\V.cell? ⟨q,9,none⟩=some (.int .i64 t3)/\V.cell? ⟨q,10,none⟩=some (.int .i64 t4)/\V.cell? ⟨q,11,none⟩=some (.int .i64 t5))/\V.cell? ⟨o,0,none⟩=some (.int .u16 i)/\V.cell? ⟨o,1,none⟩=some (.int .u16 j)):=hid fun V e1 e2=>by
  have ho3:V.heap[o]? =some (.cells #[.int .u16 i,.int .u16 j] 109 (0,0)):=by rw[e2,ho,hb13.block _ (Array.getElem?_eq_some_iff.1 hr1).1];exact hr1
  exact⟨Zhs (e1.trans hr3),cell_of_row _ _ _ _ _ _ ho3,cell_of_row _ _ _ _ _ _ ho3⟩
 have HQ:Hid (W.heap.size<=q/\q<w3.heap.size/\o=W.heap.size/\o<w3.heap.size):=hid ⟨hqo.1,hqo.2,ho,by rw[ho];exact hol⟩;have HW3:Hid (Below W.heap.size W w3):=hid (hb1.trans (hb13.mono hb1.size));have HB3:Hid (Below w.heap.size w w3):=hid (HBW.out.trans (hb13.mono HBW.out.size));have STEP:Hid (∀ V V':World,Below w3.heap.size w3 V->Below V.heap.size V V'->Below w3.heap.size w3 V'/\((V'.cell? ⟨q,0,none⟩=some (.int .i64 b)/\V'.cell? ⟨q,1,none⟩=some (.int .i64 st)/\V'.cell? ⟨q,2,none⟩=some (.int .i64 tg)/\V'.cell? ⟨q,3,none⟩=some (.int .i64 cu))/\(V'.cell? ⟨q,4,none⟩=some (.int .i64 io)/\V'.cell? ⟨q,5,none⟩=some (.int .i64 ba)/\V'.cell? ⟨q,6,none⟩=some (.int .i64 t0)/\V'.cell? ⟨q,7,none⟩=some (.int .i64 t1))/\V'.cell? ⟨q,8,none⟩=some (.int .i64 t2)/\V'.cell? ⟨q,9,none⟩=some (.int .i64 t3)/\V'.cell? ⟨q,10,none⟩=some (.int .i64 t4)/\V'.cell? ⟨q,11,none⟩=some (.int .i64 t5))/\V'.cell? ⟨o,0,none⟩=some (.int .u16 i)/\V'.cell? ⟨o,1,none⟩=some (.int .u16 j)):=hid fun V V' h1 h2=>by
  have h3:=h1.trans (h2.mono h1.size);exact⟨h3,HFACT.out _ (h3.block _ HQ.out.2.1) (h3.block _ HQ.out.2.2.2)⟩
 have hd0:Below w3.heap.size w3 w3.drew:=(Below.refl _ _).drew;have s0:=(STEP.out _ _ (Below.refl _ _) hd0).2;clear hr1 hb2 hb23 hr3 hw3 hb13 hqo hol hq0 hq ho KL KS KS2 hb1
 go_region_held3 (fun V=>((V.cell? ⟨q,0,none⟩=some (.int .i64 b)/\V.cell? ⟨q,1,none⟩=some (.int .i64 st)/\V.cell? ⟨q,2,none⟩=some (.int .i64 tg)/\V.cell? ⟨q,3,none⟩=some (.int .i64 cu))/\(V.cell? ⟨q,4,none⟩=some (.int .i64 io)/\V.cell? ⟨q,5,none⟩=some (.int .i64 ba)/\V.cell? ⟨q,6,none⟩=some (.int .i64 t0)/\V.cell? ⟨q,7,none⟩=some (.int .i64 t1))/\V.cell? ⟨q,8,none⟩=some (.int .i64 t2)/\V.cell? ⟨q,9,none⟩=some (.int .i64 t3)/\V.cell? ⟨q,10,none⟩=some (.int .i64 t4)/\V.cell? ⟨q,11,none⟩=some (.int .i64 t5))/\V.cell? ⟨o,0,none⟩=some (.int .u16 i)/\V.cell? ⟨o,1,none⟩=some (.int .u16 j)) (first|exact s0|exact s5|exact s8) (first
  |(go_at_call 92;(with_reducible refine(KB.out _ (HB3.out.trans (hd0.mono HB3.out.size))).mono ?_);rintro e w' ⟨rfl,rfl⟩)
  |(go_at_call 190;refine(KL2.out _).mono ?_;rintro e w5 ⟨rfl,hu5⟩;obtain⟨hb5,s5⟩:=STEP.out _ _ hd0 hu5;clear hu5)
  |(go_at_call 92;(with_reducible refine(KB.out _ (HB3.out.trans (hb5.mono HB3.out.size))).mono ?_);rintro e w' ⟨rfl,rfl⟩)
  |(go_at_call 189;(with_reducible refine(KT.out _ (HW3.out.trans (hb5.mono HW3.out.size))).mono ?_);rintro e w8 ⟨x,E,rfl,hr8⟩
    have s8:=HFACT.out w8 ((HRR.out _ _ _ _ _ HQ.out.1 (Nat.lt_of_lt_of_le HQ.out.2.1 hb5.size) hr8).trans (hb5.block _ HQ.out.2.1)) ((HRR.out _ _ _ _ _ (Nat.le_of_eq HQ.out.2.2.1.symm) (Nat.lt_of_lt_of_le HQ.out.2.2.2 hb5.size) hr8).trans (hb5.block _ HQ.out.2.2.2))))
 all_goals (go_wp2_with fail;go_ret2;exact⟨x,E,w5,rfl,HW3.out.trans (hb5.mono HW3.out.size),hr8⟩)
end
def locX(x F:List Int)(i:Nat):Int:=if i<10 then num x (3+i) else if i=138 then num x 13 else num F (i-10)
def atX(i:Nat):Int:=if i=138 then 65535 else (i:Int)
theorem atX_bd{i:Nat}(h:i<139):0<=atX i/\atX i<=65535:=by unfold atX;split <;> omega
theorem atX_inj{i j:Nat}(hi:i<139)(hj:j<139)(h:atX i=atX j):i=j:=by unfold atX at h;split at h <;> split at h <;> omega
def OwAt(O:List (Int × Int))(kk:Nat)(v:Int)(o:Int × Int):Prop:=(0<v/\v<64*(kk:Int))/\fixB v=false/\O.getD v.toNat (0,0)=o
theorem OwAt.ne{O:List (Int × Int)}{kk:Nat}{v u:Int}{o q:Int × Int}(h:OwAt O kk v o)(k:OwAt O kk u q)(hne:o≠q):v≠u:=fun e=>hne (by rw[<- h.2.2,<- k.2.2,e])
theorem OwAt.set{O:List (Int × Int)}{kk:Nat}{v:Int}{o:Int × Int}(h:OwAt O kk v o){f:Nat}(q:Int × Int)(hne:v.toNat≠f):OwAt (O.set f q) kk v o:=
 ⟨h.1,h.2.1,by rw[Zaf _ _ _ hne];exact h.2.2⟩
theorem Zav{x:List Int}{a:Nat}(ha:a<x.length)(v:Int)(b:Nat):num (x.set a v) b=if b=a then v else num x b:=by
 unfold num;exact getD_set _ _ _ _ _ ha
def cntX(f:Nat->Int):Nat->Nat
 |0=>0
 |k+1=>cntX f k+if f k≠0 then 1 else 0
theorem Zgp{f g:Nat->Int}:∀ k,(∀ i,i<k->(f i≠0 ↔ g i≠0))->cntX f k=cntX g k
 |0,_=>rfl
 |k+1,h=>by
  rw[cntX,cntX,Zgp k fun i hi=>h i (by omega)];have:=h k (by omega);by_cases e:f k=0 <;> by_cases e':g k=0 <;> simp_all
theorem Zif{f g:Nat->Int}{i:Nat}(h0:f i=0)(h1:g i≠0):∀ k,i<k->(∀ j,j<k->j≠i->(f j≠0 ↔ g j≠0))->cntX g k=cntX f k+1
 |0,h,_=>absurd h (Nat.not_lt_zero _)
 |k+1,h,ho=>by
  rw[cntX,cntX];by_cases e:i=k
  . subst e
    rw[Zgp (f:=g) (g:=f) i fun j hj=>(ho j (by omega) (by omega)).symm,if_pos h1,if_neg (by simp[h0])]
  . rw[Zif h0 h1 k (by omega) fun j hj=>ho j (by omega)]
    have:=ho k (by omega) (fun e'=>e e'.symm);by_cases a:f k=0 <;> by_cases b:g k=0 <;> simp_all <;> omega
def Zjo(x F:List Int):Nat:=cntX (locX x F) 139
structure Fils (Ex:Nat->Nat->Prop) (G:List (List Int)) (S:List Int) (N:List (List Int)) (O:List (Int × Int)) (kk:Nat) (F:Nat->List Int):Prop where
 fl:∀ n,(F n).length=128/\locS (F n)=true
 m0:∀ n,1<=n->n<48->num (N.getD n []) 13=0->F n=List.replicate 128 0
 m1:∀ n,1<=n->n<48->num (N.getD n []) 13≠0->G.getD (num (N.getD n []) 13).toNat []=mapS (F n)
 ow:∀ n i,1<=n->n<48->i<139->¬ Ex n i->locX (N.getD n []) (F n) i≠0->OwAt O kk (locX (N.getD n []) (F n) i) ((n:Int),atX i)
 tb:∀ t,t<6->O.getD (Zbq S t) (0,0)=(65534,(t:Int))
def noEx:Nat->Nat->Prop:=fun _ _=>False
section
variable {Ex:Nat->Nat->Prop}{G:List (List Int)}{S:List Int}{N:List (List Int)}{O:List (Int × Int)}{kk:Nat}{F:Nat->List Int}
theorem locX_map(x F:List Int):locX x F 138=num x 13:=rfl
theorem Fils.map(h:Fils Ex G S N O kk F){n:Nat}(h1:1<=n)(h48:n<48)(hE:¬ Ex n 138)(hm:num (N.getD n []) 13≠0):OwAt O kk (num (N.getD n []) 13) ((n:Int),65535):=h.ow n 138 h1 h48 (by decide) hE hm
theorem Zlh{i j:Int}(hi:i≠0){v:Int}(h:OwAt O kk v (i,j)):Zbh O v.toNat=false:=by
 unfold Zbh;rw[h.2.2];exact decide_eq_false hi
theorem Fils.take(h:Fils noEx G S N O kk F){f:Nat}(hf:Zbh O f=true)(hk:f<64*kk)(h12:kk<=12)(q:Int × Int):Fils noEx (putG G (f / 64) (grO (O.set f q) (f / 64))) S N (O.set f q) kk F:=by
 have hne:∀ {i j v:Int},i≠0->OwAt O kk v (i,j)->v.toNat≠f:=fun hi hv e=>by
  have:=Zlh hi hv;rw[e,hf] at this;cases this
 refine⟨h.fl,h.m0,fun n h1 h48 hm=>?_,fun n i h1 h48 hi hE hl=>?_,fun t ht=>?_⟩
 . have ho:=h.map h1 h48 id hm
   have hx:=Zkk (show f / 64<12 by omega);have e0:(((num (N.getD n []) 13).toNat:Nat):Int)=num (N.getD n []) 13:=by have:=ho.1;omega
   have a1:(num (N.getD n []) 13).toNat≠dscN (f / 64):=fun e=>by
    have:=ho.2.1;rw[<- e0,e,hx.1] at this;cases this
   have a2:(num (N.getD n []) 13).toNat≠dscN (f / 64)+1:=fun e=>by
    have:=ho.2.1;rw[<- e0,e,hx.2.1] at this;cases this
   unfold Go.Proofs.YtedabomlfcghoaaGreat.putG;rw[Zaf _ _ _ a1,Zaf _ _ _ a2];exact h.m1 n h1 h48 hm
 . have ho:=h.ow n i h1 h48 hi hE hl
   exact ho.set q (hne (by omega) ho)
 . rw[Zaf _ _ _ fun e=>?_]
   . exact h.tb t ht
   . have:=h.tb t ht
     rw[e] at this;unfold Zbh at hf;rw[this] at hf;cases of_decide_eq_true hf
theorem Fils.give(h:Fils noEx G S N O kk F){n i:Nat}(h1:1<=n)(h48:n<48)(hi:i<139)(h12:kk<=12){f:Nat}(hl:locX (N.getD n []) (F n) i=(f:Int))(h0:f≠0)(q:Int × Int):
 Fils (fun a b=>a=n/\b=i) (putG G (f / 64) (grO (O.set f q) (f / 64))) S N (O.set f q) kk F:=by
 have hv:=h.ow n i h1 h48 hi id (by rw[hl];omega);rw[hl] at hv;have hne:∀ {v:Int} {o:Int × Int},OwAt O kk v o->o≠((n:Int),atX i)->v.toNat≠f:=fun ho hq e=>by
  have:=ho.ne hv hq;have:=ho.1;omega
 have hk:f<64*kk:=by have:=hv.1;omega
 refine⟨h.fl,h.m0,fun m k1 k48 hm=>?_,fun m j k1 k48 hj hE hl2=>?_,fun t ht=>?_⟩
 . have ho:=h.map k1 k48 id hm
   have hx:=Zkk (show f / 64<12 by omega);have e0:(((num (N.getD m []) 13).toNat:Nat):Int)=num (N.getD m []) 13:=by have:=ho.1;omega
   have a1:(num (N.getD m []) 13).toNat≠dscN (f / 64):=fun e=>by
    have:=ho.2.1;rw[<- e0,e,hx.1] at this;cases this
   have a2:(num (N.getD m []) 13).toNat≠dscN (f / 64)+1:=fun e=>by
    have:=ho.2.1;rw[<- e0,e,hx.2.1] at this;cases this
   unfold Go.Proofs.YtedabomlfcghoaaGreat.putG;rw[Zaf _ _ _ a1,Zaf _ _ _ a2];exact h.m1 m k1 k48 hm
 . have ho:=h.ow m j k1 k48 hj id hl2
   refine ho.set q (hne ho fun e=>hE ?_);have e1:=(Prod.mk.inj e).1;have e2:=atX_inj hj hi (Prod.mk.inj e).2;exact⟨by omega,e2⟩
 . rw[Zaf _ _ _ fun e=>?_]
   . exact h.tb t ht
   . have h3:=h.tb t ht
     have h4:=hv.2.2;rw[Int.toNat_natCast,<- e,h3] at h4;have:=(Prod.mk.inj h4).1;omega
theorem Fils.data(h:Fils Ex G S N O kk F){f:Nat}(hf:∀ n,1<=n->n<48->num (N.getD n []) 13≠0->(num (N.getD n []) 13).toNat≠f)(Z:List Int):Fils Ex (G.set f Z) S N O kk F:=
 ⟨h.fl,h.m0,fun n h1 h48 hm=>by rw[Zaf _ _ _ (hf n h1 h48 hm)];exact h.m1 n h1 h48 hm,h.ow,h.tb⟩
theorem Zcm{N:List (List Int)}{n:Nat}(hn:n<N.length)(y:List Int)(m:Nat):(N.set n y).getD m []=if m=n then y else N.getD m []:=getD_set _ _ _ _ _ hn
theorem Fils.node(h:Fils Ex G S N O kk F){n:Nat}(h1:1<=n)(h48:n<48)(hl:N.length=48){y:List Int}(hE:∀ a b,Ex a b->a=n)
 (hm0:num y 13=0->F n=List.replicate 128 0) (hm1:num y 13≠0->G.getD (num y 13).toNat []=mapS (F n))
 (how:∀ i,i<139->locX y (F n) i≠0->OwAt O kk (locX y (F n) i) ((n:Int),atX i)) (E:List Int):Fils noEx (G.set (Zbq S (n / 8)) E) S (N.set n y) O kk F:=by
 have hn:n<N.length:=by omega
 have htb:=h.tb (n / 8) (by omega);have hne:∀ {v i j:Int},i<48->OwAt O kk v (i,j)->v.toNat≠Zbq S (n / 8):=fun hi ho e=>by
  have:=ho.2.2;rw[e,htb] at this;have:=(Prod.mk.inj this).1;omega
 refine⟨h.fl,fun m k1 k48=>?_,fun m k1 k48=>?_,fun m i k1 k48 hi _=>?_,h.tb⟩
 . rw[Zcm hn];split
   . next e=>rw[e];exact hm0
   . exact h.m0 m k1 k48
 . rw[Zcm hn];split
   . next e=>rw[e];exact fun hz=>by rw[Zaf _ _ _ (show(num y 13).toNat≠Zbq S (n / 8) from hne (by omega) (how 138 (by decide) hz))];exact hm1 hz
   . next e=>exact fun hz=>by rw[Zaf _ _ _ (hne (by omega) (h.map k1 k48 (fun hx=>e (hE _ _ hx)) hz))];exact h.m1 m k1 k48 hz
 . rw[Zcm hn];split
   . next e=>rw[e];exact how i hi
   . next e=>exact h.ow m i k1 k48 hi fun hx=>e (hE _ _ hx)
def setF(F:Nat->List Int)(n:Nat)(L:List Int):Nat->List Int:=fun a=>if a=n then L else F a
theorem Zja(F:Nat->List Int)(n:Nat)(L:List Int):setF F n L n=L:=if_pos rfl
theorem setF_ne(F:Nat->List Int){n m:Nat}(h:m≠n)(L:List Int):setF F n L m=F m:=if_neg h
theorem Fils.far(h:Fils Ex G S N O kk F){n:Nat}(h1:1<=n)(h48:n<48){m:Nat}(hm:num (N.getD n []) 13=(m:Int))(hm0:m≠0)(hmE:¬ Ex n 138)(hG:m<G.length){L:List Int}(hL:L.length=128)(hf:locS L=true)(hE:∀ a b,Ex a b->a=n)
 (how:∀ i,10<=i->i<138->num L (i-10)≠0->OwAt O kk (num L (i-10)) ((n:Int),atX i)) (hEd:∀ i,i<10->¬ Ex n i):Fils noEx (G.set m (mapS L)) S N O kk (setF F n L):=by
 have hz:num (N.getD n []) 13≠0:=by rw[hm];omega
 have hmo:=h.map h1 h48 hmE hz;refine⟨fun a=>?_,fun a k1 k48=>?_,fun a k1 k48=>?_,fun a i k1 k48 hi _=>?_,h.tb⟩
 . unfold setF;split
   . exact⟨hL,hf⟩
   . exact h.fl a
 . unfold setF;split
   . next e=>rw[e];exact fun h=>absurd h hz
   . exact h.m0 a k1 k48
 . unfold setF;split
   . next e=>rw[e,hm,Int.toNat_natCast];exact fun _=>by rw[getD_set _ _ _ _ _ hG,if_pos rfl]
   . next e=>
      intro ha;have ho:=h.map k1 k48 (fun hx=>e (hE _ _ hx)) ha;rw[Zaf _ _ _ fun e2=>?_]
      . exact h.m1 a k1 k48 ha
      . refine ho.ne hmo (fun e3=>?_) (by have:=ho.1;rw[hm];omega)
        have:=(Prod.mk.inj e3).1;omega
 . unfold setF;split
   . next e=>
     rw[e];intro hl;by_cases c:i<10
     . have e1:locX (N.getD n []) L i=locX (N.getD n []) (F n) i:=by unfold locX;rw[if_pos c,if_pos c]
       rw[e1] at hl |-
       exact h.ow n i h1 h48 hi (hEd i c) hl
     . by_cases c2:i=138
       . subst c2;exact hmo
       . have e1:locX (N.getD n []) L i=num L (i-10):=by unfold locX;rw[if_neg c,if_neg c2]
         rw[e1] at hl |-
         exact how i (by omega) (by omega) hl
   . next e=>exact h.ow a i k1 k48 hi fun hx=>e (hE _ _ hx)
end
def DataK(O O':List (Int × Int))(G G':List (List Int)):Prop:=∀ v:Nat,1<=(O'.getD v (0,0)).1->(O'.getD v (0,0)).1<48->(O'.getD v (0,0)).2≠65535->O.getD v (0,0)=O'.getD v (0,0)->G'.getD v []=G.getD v []
theorem DataK.refl(O:List (Int × Int))(G:List (List Int)):DataK O O G G:=fun _ _ _ _ _=>rfl
def Less(O O':List (Int × Int)):Prop:=∀ v:Nat,O'.getD v (0,0)=O.getD v (0,0)\/O'.getD v (0,0)=(0,0)
theorem Less.refl(O:List (Int × Int)):Less O O:=fun _=>.inl rfl
theorem Less.trans{A B C:List (Int × Int)}(h:Less A B)(k:Less B C):Less A C:=fun v=>by
 rcases k v with e|e
 . rw[e];exact h v
 . exact .inr e
theorem DataK.less{A B C:List (Int × Int)}{G G' G'':List (List Int)}(h:DataK A B G G')(k:DataK B C G' G'')(l:Less B C):DataK A C G G'':=fun v a b c e=>by
 have eb:B.getD v (0,0)=C.getD v (0,0):=by
  rcases l v with h1|h1
  . exact h1.symm
  . rw[h1] at a;cases a
 rw[k v a b c eb,h v (by rw[eb];exact a) (by rw[eb];exact b) (by rw[eb];exact c) (by rw[e,eb])]
def bkB(M:Nat->Option (List Int))(i:Nat):List Int:=(M i).getD z256
def updB(M:Nat->Option (List Int))(i:Nat)(l:List Int):Nat->Option (List Int):=fun j=>if j=i then some l else M j
def wr1(M:Nat->Option (List Int))(a:Nat)(v:Int):Nat->Option (List Int):=updB M (a / 256) ((bkB M (a / 256)).set (a%256) v)
def wrL:(Nat->Option (List Int))->Nat->List Int->(Nat->Option (List Int))
 |M,_,[]=>M
 |M,a,v :: l=>wrL (wr1 M a v) (a+1) l
def byB(M:Nat->Option (List Int))(j:Nat):Int:=(bkB M (j / 256)).getD (j%256) 0
def rdB(M:Nat->Option (List Int))(a n:Nat):List Int:=(List.range n).map fun i=>byB M (a+i)
def rsB(M:Nat->Option (List Int))(n:Nat):Nat->Option (List Int):=fun i=>if n<=256*i then none else (M i).map fun l=>if n<256*i+256 then l.take (n-256*i) ++ List.replicate (256-(n-256*i)) 0 else l
structure OkB (M:Nat->Option (List Int)):Prop where
 len:∀ i l,M i=some l->l.length=256
 byt:∀ i l,M i=some l->Byt l
theorem z256_len:z256.length=256:=List.length_replicate
theorem z256_byt:Byt z256:=Zba 256
section
variable {M:Nat->Option (List Int)}
theorem OkB.blk(h:OkB M)(i:Nat):(bkB M i).length=256/\Byt (bkB M i):=by
 unfold bkB;cases e:M i
 . exact⟨z256_len,z256_byt⟩
 . exact⟨h.len i _ e,h.byt i _ e⟩
theorem OkB.upd(h:OkB M)(i:Nat){l:List Int}(hl:l.length=256)(hb:Byt l):OkB (updB M i l):=by
 constructor
 . intro j m e
   unfold updB at e;split at e
   . cases e;exact hl
   . exact h.len j m e
 . intro j m e
   unfold updB at e;split at e
   . cases e;exact hb
   . exact h.byt j m e
theorem byt_set{l:List Int}(h:Byt l)(i:Nat){v:Int}(hv:0<=v/\v<=255):Byt (l.set i v):=Zax fun x hx=>by
 rcases List.mem_or_eq_of_mem_set hx with h1|h1
 . exact Zbo h x h1
 . rw[h1];exact hv
theorem OkB.wr1(h:OkB M)(a:Nat){v:Int}(hv:0<=v/\v<=255):OkB (wr1 M a v):=h.upd _ (by rw[List.length_set];exact(h.blk _).1) (byt_set (h.blk _).2 _ hv)
theorem byt_cons{v:Int}{l:List Int}(h:Byt (v :: l)):(0<=v/\v<=255)/\Byt l:=⟨Zbo h v List.mem_cons_self,Zax fun x hx=>Zbo h x (List.mem_cons_of_mem _ hx)⟩
theorem Zcn(M:Nat->Option (List Int))(i:Nat)(l:List Int):updB M i l i=some l:=if_pos rfl
theorem Zbu(M:Nat->Option (List Int)){i j:Nat}(h:j≠i)(l:List Int):updB M i l j=M j:=if_neg h
theorem bkB_upd(M:Nat->Option (List Int))(i j:Nat)(l:List Int):bkB (updB M i l) j=if j=i then l else bkB M j:=by
 unfold bkB updB;by_cases e:j=i
 . rw[if_pos e,if_pos e];rfl
 . rw[if_neg e,if_neg e]
theorem Zih:∀ (l m:List Int) (M:Nat->Option (List Int)) (a:Nat),wrL M a (l ++ m)=wrL (wrL M a l) (a+l.length) m
 |[],m,M,a=>rfl
 |v :: l,m,M,a=>by
  show wrL (Go.Proofs.YtedabomlfcghoaaGreat.wr1 M a v) (a+1) (l ++ m)=_
  rw[Zih l m,List.length_cons,show a+(l.length+1)=a+1+l.length by omega];rfl
theorem updB_upd(M:Nat->Option (List Int))(i:Nat)(l m:List Int):updB (updB M i l) i m=updB M i m:=by
 funext j;unfold updB;by_cases e:j=i
 . rw[if_pos e,if_pos e]
 . rw[if_neg e,if_neg e,if_neg e]
theorem wrL_block:∀ (l:List Int) (M:Nat->Option (List Int)) (a i o:Nat),0<l.length->a=256*i+o->o+l.length<=256->OkB M->Byt l->wrL M a l=updB M i (splice (bkB M i) o l)
 |[],_,_,_,_,h,_,_,_,_=>absurd h (Nat.lt_irrefl 0)
 |v :: l,M,a,i,o,_,ha,ho,hk,hb=>by
  have hd:a / 256=i:=by omega
  have hm:a%256=o:=by omega
  rw[List.length_cons] at ho;have hw:Go.Proofs.YtedabomlfcghoaaGreat.wr1 M a v=updB M i ((bkB M i).set o v):=by unfold Go.Proofs.YtedabomlfcghoaaGreat.wr1;rw[hd,hm]
  have hlen:=(hk.blk i).1;show wrL (Go.Proofs.YtedabomlfcghoaaGreat.wr1 M a v) (a+1) l=_
  have hsp:splice (bkB M i) o (v :: l)=splice ((bkB M i).set o v) (o+1) l:=by
   unfold splice;rw[List.length_cons,List.take_set,List.drop_set_of_lt (by omega),show o+(l.length+1)=o+1+l.length by omega];have e:(bkB M i).take (o+1)=(bkB M i).take o ++ [(bkB M i)[o]'(by omega)]:=List.take_succ_eq_append_getElem (by omega);rw[e,List.set_append_right _ _ (by rw[List.length_take];omega)];simp[List.length_take,Nat.min_eq_left (show o<=(bkB M i).length by omega)]
  by_cases h0:l.length=0
  . have:l=[]:=List.eq_nil_of_length_eq_zero h0
    subst this;rw[hw];show updB M i _=_
    rw[hsp];congr 1;unfold splice;simp
  . rw[wrL_block l _ (a+1) i (o+1) (by omega) (by omega) (by omega) (hk.wr1 a (byt_cons hb).1) (byt_cons hb).2,hw,updB_upd,bkB_upd,if_pos rfl,hsp]
theorem Zle(M:Nat->Option (List Int))(a n:Nat):(rdB M a n).length=n:=by unfold rdB;rw[List.length_map,List.length_range]
theorem rdB_get(M:Nat->Option (List Int))(a:Nat){n i:Nat}(h:i<n):(rdB M a n).getD i 0=byB M (a+i):=by
 unfold rdB;rw[List.getD_eq_getElem?_getD,List.getElem?_map,List.getElem?_range h];rfl
theorem rdB_more(M:Nat->Option (List Int))(a n m:Nat):rdB M a (n+m)=rdB M a n ++ rdB M (a+n) m:=by
 unfold rdB;rw[List.range_add,List.map_append,List.map_map];congr 1;apply List.map_congr_left;intro i _;show byB M (a+(n+i))=byB M (a+n+i)
 rw[Nat.add_assoc]
theorem rdB_block(h:OkB M){a i o n:Nat}(ha:a=256*i+o)(ho:o+n<=256):rdB M a n=((bkB M i).drop o).take n:=by
 have hl:=(h.blk i).1;apply List.ext_getElem
 . rw[Zle,List.length_take,List.length_drop];omega
 . intro k h1 h2
   rw[Zle] at h1;have e1:=rdB_get M a h1;rw[List.getD_eq_getElem?_getD,List.getElem?_eq_getElem (by rw[Zle];exact h1)] at e1;have e2:(rdB M a n)[k]'(by rw[Zle];exact h1)=byB M (a+k):=e1;rw[e2,List.getElem_take,List.getElem_drop];unfold byB;rw[show(a+k) / 256=i by omega,show(a+k)%256=o+k by omega,List.getD_eq_getElem?_getD,List.getElem?_eq_getElem (by omega)];rfl
end
def keyB(M:Nat->Option (List Int))(i:Nat):Int:=if (M i).isSome then 1 else 0
def farB(M:Nat->Option (List Int)):Nat->Nat
 |0=>0
 |k+1=>if (M k).isSome/\10<=k then 1 else farB M k
def Zar(M:Nat->Option (List Int)):Nat:=cntX (keyB M) 138+farB M 138
theorem keyB_ne{M:Nat->Option (List Int)}{i:Nat}:keyB M i≠0 ↔ (M i).isSome=true:=by
 unfold keyB;by_cases h:(M i).isSome=true
 . rw[if_pos h];exact⟨fun _=>h,fun _=>by decide⟩
 . rw[if_neg h];exact⟨fun e=>absurd rfl e,fun e=>absurd e h⟩
theorem Zfk{M:Nat->Option (List Int)}:∀ k,(∃ b:Nat,10<=b/\b<k/\(M b).isSome=true)->farB M k=1
 |0,⟨b,_,h,_⟩=>absurd h (Nat.not_lt_zero _)
 |k+1,⟨b,h1,h2,h3⟩=>by
  unfold farB;split
  . rfl
  . next hn=>
    refine Zfk k ⟨b,h1,?_,h3⟩;have:b≠k:=fun e=>hn ⟨e ▸ h3,e ▸ h1⟩
    omega
theorem Zgo{M:Nat->Option (List Int)}:∀ k,(¬ ∃ b:Nat,10<=b/\b<k/\(M b).isSome=true)->farB M k=0
 |0,_=>rfl
 |k+1,h=>by
  unfold farB;rw[if_neg (fun e=>h ⟨k,e.2,by omega,e.1⟩)];exact Zgo k fun⟨b,h1,h2,h3⟩=>h ⟨b,h1,by omega,h3⟩
theorem farB_le(M:Nat->Option (List Int))(k:Nat):farB M k<=1:=by
 by_cases h:∃ b:Nat,10<=b/\b<k/\(M b).isSome=true
 . rw[Zfk k h];exact Nat.le_refl 1
 . rw[Zgo k h];exact Nat.zero_le _
theorem Zkp{f g:Nat->Int}:∀ k,(∀ i,i<k->f i≠0->g i≠0)->cntX f k<=cntX g k
 |0,_=>Nat.le_refl _
 |k+1,h=>by
  have ih:=Zkp (f:=f) (g:=g) k fun i hi=>h i (by omega)
  have:=h k (by omega);unfold cntX;by_cases e:f k=0
  . rw[if_neg (by simp[e])];omega
  . rw[if_pos e,if_pos (this e)];omega
theorem Zft{M M':Nat->Option (List Int)}(h:∀ i,i<138->(M i).isSome=true->(M' i).isSome=true):Zar M<=Zar M':=by
 unfold Zar;have h1:=Zkp (f:=keyB M) (g:=keyB M') 138 fun i hi e=>keyB_ne.2 (h i hi (keyB_ne.1 e))
 have h2:farB M 138<=farB M' 138:=by
  by_cases e:∃ b:Nat,10<=b/\b<138/\(M b).isSome=true
  . obtain⟨b,a1,a2,a3⟩:=e
    rw[Zfk 138 ⟨b,a1,a2,a3⟩,Zfk 138 ⟨b,a1,a2,h b a2 a3⟩];exact Nat.le_refl _
  . rw[Zgo 138 e];exact Nat.zero_le _
 omega
theorem usedB_congr{M M':Nat->Option (List Int)}(h:∀ i,i<138->((M i).isSome=true ↔ (M' i).isSome=true)):Zar M=Zar M':=
 Nat.le_antisymm (Zft fun i hi=>(h i hi).1) (Zft fun i hi=>(h i hi).2)
theorem some_wrL:∀ (l:List Int) (M:Nat->Option (List Int)) (a:Nat) (i:Nat),(M i).isSome=true->(wrL M a l i).isSome=true
 |[],_,_,_,h=>h
 |v :: l,M,a,i,h=>some_wrL l _ (a+1) i (by
    unfold wr1 updB;split
    . rfl
    . exact h)
section
variable {w:World}{P:Nat->Prop}{d p:Value}{X:XSt}{O D:List (Int × Int)}{k:Nat}
theorem spRead_row{g:Nat}(h:SInv w P d p X)(hH:Has X.cur O k)(hO:OOk O k)(hg:g<k):
 Calls Tryz.prog 55 #[p,.int .i64 g] w fun e w'=>∃ b cap cur,e=.returned (.tuple #[.slice (some ⟨b,0,none⟩) 64 cap,.int .i64 0])/\w.heap.size<=b/\w'.heap[b]? =some (.cells cur 109 (0,0))/\cur.toList.take ((grO O g).length*2)=ownC (grO O g)/\(grO O g).length*2<=cur.size/\64<=cap/\cap<=maxLen/\cur.size=cap*2/\Below w.heap.size w w':=by
 refine(spRead_at h hH hO hg).mono fun e w' ⟨b,cap,he,hb,hbl,hv,_,hbe⟩=>?_
 have hl:=Zdu hO.len hg;rcases hv.2.2 with⟨e0,_⟩| ⟨g',cap',cur,ev,_,hh,hnc,hcm,hcs,ht⟩
 . cases e0
 . injection ev with e1 _ e3
   injection e1 with e1
   injection e1 with e1
   subst e1;subst e3;exact⟨b,cap,cur,he,hb,hh,ht,by omega,by omega,hcm,hcs,hbe⟩
theorem owSl_row{w:World}{b cap:Nat}{cur:Array Value}{D:List (Int × Int)}(hB:OwB D)(hD:D.length=64)(hh:w.heap[b]? =some (.cells cur 109 (0,0)))(ht:cur.toList.take (D.length*2)=ownC D)(h64:64<=cap)(hm:cap<=maxLen)(hs:cur.size=cap*2):OwSl w (.slice (some ⟨b,0,none⟩) 64 cap) D:=by
 have:OwR w 0 (.slice (some ⟨b,0,none⟩) 64 cap) D:=⟨hB,by rw[Zbk],.inr ⟨b,cap,cur,by rw[hD],Nat.zero_le _,hh,by omega,hm,hs,ht⟩⟩;exact this.sl
theorem spSet_yes(h:SInv w P d p X)(hw:X.wi=true)(hp0:X.put.length<=35)(hH:Has X.call O k)(hO:OOk O k){n:Nat}(hn:n<64*k)(hx:fixB (n:Int)=false){i j:Int}(hi:0<=i/\i<=65535)(hj:0<=j/\j<=65535)(hf:frmO i j=true)(hne:i≠65535):
 Calls Tryz.prog 193 #[p,.int .i64 n,.agg #[.int .u16 i,.int .u16 j]] w fun e w'=>e=.returned (.int .i64 0)/\∃ P',SInv w' P' d p (putX X (n / 64) (grO (O.set n (i,j)) (n / 64)))/\Chg P P' w w':=by
 have h12:=hO.k12;have hcur:X.cur=X.call:=by unfold XSt.cur;rw[if_pos hw]
 have hH':Has X.cur O k:=by rw[hcur];exact hH
 obtain⟨g,hg⟩:∃ g,g=n / 64:=⟨_,rfl⟩;obtain⟨t,ht⟩:∃ t,t=n%64:=⟨_,rfl⟩;have hgk:g<k:=by omega
 have ht64:t<64:=by omega
 have hO2:=hO.set hn hx hi hj hf hne;have eD:grO (O.set n (i,j)) (n / 64)=(grO O g).set t (i,j):=by rw[hg,ht];exact grO_set_self O n (i,j)
 obtain⟨D,hD⟩:∃ D,D=(grO O g).set t (i,j):=⟨_,rfl⟩;rw[eD,<- hD,<- hg];obtain⟨dB,dA,_⟩:=hO2.gr (g:=n / 64) (by omega);rw[eD,<- hD] at dB dA;have gL:=Zdu hO.len hgk;have dL:D.length=64:=Ziq dA;have hlen:X.is.length=64*k:=by
  obtain⟨_,_,_,_,_,_,_,_,_,_,_,_,_,hpl,_⟩:=h;rw[<- hpl.ok.curLen];exact hH'.len
 have KO:=hid (spOpen_is (n:Int) (by omega) true (by unfold openN;rw[decide_eq_true (by omega),hx];rfl));have KF:=hid (Zgj i j hi hj true hf);have KG:=hid (fun(W:World)=>Zil (n:Int) (by omega) W);have eg:grpI (n:Int)=g:=by unfold grpI;rw[if_neg (by omega)];omega
 rw[eg] at KG;have hb1:=Zaa w (.cells #[.int .u16 i,.int .u16 j] 109);have hr1:=heap_alloc_new w (.cells #[.int .u16 i,.int .u16 j] 109);obtain⟨W1,hW1⟩:∃ W1,W1=w.alloc (.cells #[.int .u16 i,.int .u16 j] 109):=⟨_,rfl⟩;rw[<- hW1] at hb1 hr1;have hz1:w.heap.size<W1.heap.size:=by rw[hW1];simp
 have KR:Hid (∀ W,Below w.heap.size w W->Calls Tryz.prog 55 #[p,.int .i64 g] W _):=hid fun W hb=>spRead_row (h.low hb) hH' hO hgk
 have hlt:=h.lt
 have HFIN:Hid (∀ (W w':World) (b cap:Nat) (cur cur':Array Value),Below w.heap.size w W->w.heap.size<=b->Wrote W w' b->w'.heap[b]? =some (.cells cur' 109 (0,0))->cur'.size=cur.size->cur'.toList.take ((grO O g).length*2)=ownC ((grO O g).set t (i,j))->64<=cap->cap<=maxLen->cur.size=cap*2->
  Below w.heap.size w w'/\SInv w' P d p X/\OwSl w' (.slice (some ⟨b,0,none⟩) 64 cap) D):=hid fun W w' b cap cur cur' hb hwb hwr hh hs ht' h64 hcm hcs=>by
  have hbe:=hb.trans (hwr.below hwb);exact⟨hbe,h.low hbe,owSl_row dB dL hh (by rw[dL,hD,<- ht',gL]) h64 hcm (by omega)⟩
 have KW2:Hid (∀ (W:World) (v:Value),SInv W P d p X->OwSl W v D->Calls Tryz.prog 207 #[p,.int .i64 g,v] W fun e w'=>e=.returned (.int .i64 0)/\∃ P',SInv w' P' d p (putX X g D)/\Chg P P' W w'):=hid fun W v hi hs=>spWrite_of hi hw hp0 hlen h12 hgk hs dA
 have H1:=hid hW1.symm;have HR1:=hid hr1;have HB1:=hid hb1;have hrem:(n:Int).tmod 64=t:=by rw[Int.tmod_eq_emod_of_nonneg (by omega)];omega
 have et:(t:Int)<64:=by omega
 have HM:Hid (w.heap.size<W1.heap.size):=hid hz1;have HTL:Hid (t<(grO O g).length):=hid (by omega);have hib:(i==65535)=false:=by simpa using hne
 have cells2:Hid (∀ W,Below W1.heap.size W1 W->W.cell? ⟨w.heap.size,0,none⟩=some (.int .u16 i)/\W.cell? ⟨w.heap.size,1,none⟩=some (.int .u16 j)):=hid fun W hb=>by
  have hr:=Zad hr1 hb;exact⟨cell_of_row _ _ _ _ _ _ hr,cell_of_row _ _ _ _ _ _ hr⟩
 clear h hw hp0 hH hO hn hx hi hj hf hne h12 hcur hH' hg ht hgk ht64 hO2 eD hD dB dA gL dL hlen eg hW1 hr1 hb1 hz1 hlt;go_enter Tryz.func193,Tryz.ntmps193
 go_wp2_with (first
  |(go_at_call 191;refine(KO.out _).mono ?_;rintro e w' ⟨rfl,rfl⟩)
  |(go_at_call 179;rw[H1.out];refine(KF.out _).mono ?_;rintro e w2 ⟨rfl,hb2⟩;obtain⟨c20,c21⟩:=cells2.out _ hb2;have hb02:=HB1.out.trans (hb2.mono (Nat.le_of_lt HM.out)))
  |(go_at_call 180;refine(KG.out _).mono ?_;rintro e w' ⟨rfl,rfl⟩)
  |(go_at_call 55;refine(KR.out _ hb02).mono ?_;rintro e w3 ⟨b,cap,cur,rfl,hbb,hg3,ht3,hs3,h64,hcm,hcs,hb3⟩;have hb13:=hb2.trans (hb3.mono hb2.size);obtain⟨c30,c31⟩:=cells2.out _ hb13;have hb03:=hb02.trans (hb3.mono hb02.size);have hwb:=Nat.le_trans hb02.size hbb)
  |(with_reducible refine Zhf rfl (.tmp 38) (.tmp 37) rfl b t (grO O g) cur i j rfl rfl hg3 ht3 hs3 HTL.out ?_;intro w4 cur4 hw4 hg4 hs4 ht4
    obtain⟨hb04,hi4,ho4⟩:=HFIN.out w3 w4 b cap cur cur4 hb03 hwb hw4 hg4 hs4 ht4 h64 hcm hcs;clear hw4 hg4 hs4 ht4)
  |(go_at_call 207;refine(KW2.out _ _ hi4 ho4).mono ?_;rintro e w5 ⟨rfl,P5,hi5,hc5⟩))
 go_ret;exact⟨rfl,P5,hi5,(Chg.of_below hb04).trans hc5⟩
end
theorem cntU_all{O:List (Int × Int)}:∀ L,(∀ j,j<L->Zbh O j=false)->cntU O L=cntO L
 |0,_=>rfl
 |L+1,h=>by
  have ih:=cntU_all L fun j hj=>h j (by omega)
  have h1:=h L (by omega);unfold cntU cntO;rw[ih,h1];cases fixB (L:Int) <;> simp
theorem findS_cases(O:List (Int × Int))(L g:Nat):(∃ k,k<L/\Zbh O ((g+k)%L)=true/\Zit O L g=(((g+k)%L:Nat):Int))\/(∀ k,k<L->Zbh O ((g+k)%L)=false):=by
 unfold Zit;cases hf:(List.range L).find? (fun k=>Zbh O ((g+k)%L)) with
 |some k=>exact .inl ⟨k,List.mem_range.1 (List.mem_of_find?_eq_some hf),by simpa using List.find?_some hf,rfl⟩
 |none=>
  refine .inr fun k hk=>?_
  have:=List.find?_eq_none.1 hf k (List.mem_range.2 hk)
  simpa using this
theorem find_free{O:List (Int × Int)}{k m g:Nat}(hO:OOk O k)(hm1:1<=m)(hm:m<=k)(hg:g<64*m)(hc:(cntU O (64*m):Int)<62*(m:Int)-42):∃ f:Nat,f<64*m/\Zit O (64*m) g=f/\Zbh O f=true/\fixB (f:Int)=false:=by
 have h12:=hO.k12;have fixed:∀ f,f<64*k->Zbh O f=true->fixB (f:Int)=false:=fun f hf hr=>by
  have h1:=hO.fx f hf;have h2:(O.getD f (0,0)).1=0:=of_decide_eq_true hr;rw[h2] at h1;exact h1.symm.trans (by decide)
 rcases findS_cases O (64*m) g with⟨i,hi,hr,e⟩|hn
 . have hl:(g+i)%(64*m)<64*m:=Nat.mod_lt _ (by omega)
   exact⟨_,hl,e,hr,fixed _ (by omega) hr⟩
 . have hall:∀ j,j<64*m->Zbh O j=false:=fun j hj=>by
    by_cases hjg:g<=j
    . have:=hn (j-g) (by omega)
      rwa [show g+(j-g)=j by omega,Nat.mod_eq_of_lt hj] at this
    . have:=hn (64*m-g+j) (by omega)
      rwa [show g+(64*m-g+j)=j+64*m by omega,Nat.add_mod_right,Nat.mod_eq_of_lt hj] at this
   have:=cntU_all _ hall;have h2:=cntO_mul m hm1 (by omega);omega
section
variable {w:World}{P:Nat->Prop}{d p:Value}{X:XSt}{O D:List (Int × Int)}{k:Nat}
theorem spGive_yes(h:SInv w P d p X)(hw:X.wi=true)(hp0:X.put.length<=35)(hH:Has X.call O k)(hO:OOk O k){n:Nat}(hn:n<64*k)(hx:fixB (n:Int)=false)(hf:Zbh O n=false):
 Calls Tryz.prog 157 #[p,.int .i64 n] w fun e w'=>e=.returned (.int .i64 0)/\∃ P',SInv w' P' d p (putX X (n / 64) (grO (O.set n (0,0)) (n / 64)))/\Chg P P' w w':=by
 have h12:=hO.k12;have hcur:X.cur=X.call:=by unfold XSt.cur;rw[if_pos hw]
 have hH':Has X.cur O k:=by rw[hcur];exact hH
 have h2:(O.getD n (0,0)).1≠0:=of_decide_eq_false hf;have KO:=hid (spOpen_is (n:Int) (by omega) true (by unfold openN;rw[decide_eq_true (by omega),hx];rfl));have KW:=hid (spOwner_yes h hH' hO hn);obtain⟨x,hxx⟩:∃ x,x=(O.getD n (0,0)).1:=⟨_,rfl⟩;obtain⟨y,hyy⟩:∃ y,y=(O.getD n (0,0)).2:=⟨_,rfl⟩;rw[<- hxx,<- hyy] at KW;rw[<- hxx] at h2;have KF:=hid (Zhv x y false (by rw[freeP,show(x==0)=false by simpa using h2];rfl));have KS:Hid (∀ W,Below w.heap.size w W->Calls Tryz.prog 193 #[p,.int .i64 n,.agg #[.int .u16 0,.int .u16 0]] W fun e w'=>e=.returned (.int .i64 0)/\∃ P',SInv w' P' d p (putX X (n / 64) (grO (O.set n (0,0)) (n / 64)))/\Chg P P' W w'):=hid fun W hb=>spSet_yes (h.low hb) hw hp0 hH hO hn hx (by decide) (by decide) (by decide) (by decide)
 clear h hw hp0 hH hO hn hx hf h12 hcur hH' h2 hxx hyy;go_enter Tryz.func157,Tryz.ntmps157
 go_wp2_with (first
  |(go_at_call 191;refine(KO.out _).mono ?_;rintro e w' ⟨rfl,rfl⟩)
  |(go_at_call 192;refine KW.out.mono ?_;rintro e w1 ⟨rfl,hb1⟩;have hb2:=Zaa w1 (.cells #[.int .u16 x,.int .u16 y] 109))
  |(go_at_call 57;refine(KF.out _).mono ?_;rintro e w3 ⟨rfl,hb3⟩;have hb03:=(hb1.trans (hb2.mono hb1.size)).trans (hb3.mono (Nat.le_trans hb1.size hb2.size)))
  |(go_at_call 193;refine(KS.out _ hb03).mono ?_;rintro e w4 ⟨rfl,P4,hi4,hc4⟩))
 go_ret;exact⟨rfl,P4,hi4,(Chg.of_below hb03).trans hc4⟩
end
end Go.Proofs.YtedabomlfcghoaaGreat
namespace Go.Proofs.YtedabomlfcghoaaGreat
set_option maxRecDepth 100000
open Go.RowKit
section
variable {P:Program}{ops:Array Oper}{Q:Exit->Act->World->Prop}{md:Region.Mode}{S:World->Prop}{m:Nat}
def Till(m:Nat)(S:World->Prop)(L:Array Bool)(w:World):Prop:=L.getD m true=false->S w
def Zfr(P:Program)(md:Region.Mode)(ops:Array Oper)(Q:Exit->Act->World->Prop)(S:World->Prop)(m:Nat):Nat->Array Bool->Act->World->Prop
 |0,L,a,w=>Region.ready md ops L=[]/\Q .normal a w
 |n+1,L,a,w=>(Region.ready md ops L=[]->Q .normal a w)/\∀ i∈Region.ready md ops L,wpOp P ops Q i (fun a' w'=>Till m S (L.setIfInBounds i true) w'/\Zfr P md ops Q S m n (L.setIfInBounds i true) a' w') a w
theorem any_of_till:∀ (n:Nat) (L:Array Bool) (a:Act) (w:World),Zfr P md ops Q S m n L a w->wpAny P md ops Q n L a w
 |0,_,_,_,h=>h
 |n+1,_,_,_,h=>⟨h.1,fun i hi=>wpOp_mono (fun _ _ k=>any_of_till n _ _ _ k.2) (h.2 i hi)⟩
theorem ready_un{L:Array Bool}{i:Nat}(h:i∈Region.ready md ops L):L.getD i true=false/\L.getD i false=false:=by
 have h0:=(mem_ready.1 h).1;refine⟨h0,?_⟩;rcases Nat.lt_or_ge i L.size with hl|hl
 . simp[hl] at h0 |-;exact h0
 . simp[Array.getElem?_eq_none hl] at h0
theorem till_first{i:Nat}{oi om:Oper}{v:Value}(hi:ops[i]? =some oi)(hm:ops[m]? =some om)(hwt:∃ e∈om.after,Region.binds md e=true/\e.on=i)
 (hsel:∀ (j:Nat) (o:Oper) cs b,ops[j]? =some o->o.op≠.select cs b) (hQ:∀ c a w,Q (.panic c) (a.put oi.dst v) w->Q (.panic c) a w):
 ∀ (n:Nat) (L:Array Bool) (a:Act) (w:World),(∀ j oj,ops[j]? =some oj->j≠i->L.getD j true=false->(∀ e∈oj.after,Region.binds md e=true->e.on≠i)->oi.apart ops oj=true)->
   i∈Region.ready md ops L->L.getD m true=false->YieldsIf P ops S oi v a->S w->
   Zfr P md ops Q S m n (L.setIfInBounds i true) (a.put oi.dst v) w->Zfr P md ops Q S m (n+1) L a w
 |n,L,a,w,hfree,hr,hLm,hy,hS,H=>by
  refine⟨fun h=>(by rw[h] at hr;cases hr),fun j hj=>?_⟩;by_cases hji:j=i
  . subst hji
    exact hy.wpOp hi hS ⟨fun _=>hS,H⟩
  . obtain⟨hjun,oj,hoj,hall⟩:=mem_ready.1 hj
    have hun:=(ready_un hr).2;have hno:∀ e∈oj.after,Region.binds md e=true->e.on≠i:=fun e he hb heq=>by
     have h1:=hall e he hb;rw[heq,hun] at h1;cases h1
    have hjm:j≠m:=fun e=>by
     subst e;obtain⟨e,he,hb,hei⟩:=hwt;rw[hm] at hoj;obtain rfl:=Option.some.inj hoj;exact hno e he hb hei
    cases n with
    |zero=>
     have h1:=ready_mono hj hji;rw[H.1] at h1;cases h1
    |succ n=>
     have h2:=wpOp_putIf hoj (hfree j oj hoj hji hjun hno) (fun cs b=>hsel i oi cs b hi) (fun cs b=>hsel j oj cs b hoj) hQ hy (H.2 j (ready_mono hj hji));refine wpOp_mono (fun a' w' h3=>?_) h2;obtain⟨hy',hT,hA⟩:=h3;have him:i≠m:=fun e=>by
      subst e;obtain⟨e,he,hb,hei⟩:=hwt;obtain⟨_,o,ho,hal⟩:=mem_ready.1 hr;rw[hm] at ho;obtain rfl:=Option.some.inj ho;have h1:=hal e he hb;rw[hei,hun] at h1;cases h1
     have hLm':(L.setIfInBounds j true).getD m true=false:=by rw[getD_set_ne true hjm];exact hLm
     rw[Array.setIfInBounds_comm _ _ (Ne.symm hji)] at hT hA;have hS':S w':=hT (by rw[getD_set_ne true him];exact hLm');refine⟨fun _=>hS',till_first hi hm hwt hsel hQ n _ a' w' (fun k ok hk hki hku hkn=>?_) (ready_mono hr (Ne.symm hji)) hLm' hy' hS' hA⟩;refine hfree k ok hk hki ?_ hkn;by_cases hjk:j=k
     . subst hjk;exact hjun
     . rw[getD_set_ne true hjk] at hku;exact hku
theorem till_take{i:Nat}{oi om:Oper}{v:Value}{n:Nat}{L:Array Bool}{a:Act}{w:World}(hi:ops[i]? =some oi)(hm:ops[m]? =some om)(hwt:om.after.any (fun e=>Region.binds md e && e.on==i)=true)
 (hs:Region.noSelect ops=true) (hf:Region.free md ops L i=true) (hr:(Region.ready md ops L).contains i=true) (hLm:L.getD m true=false)
 (hQ:∀ c a w,Q (.panic c) (a.put oi.dst v) w->Q (.panic c) a w) (hy:YieldsIf P ops S oi v a) (hS:S w)
 (h:Zfr P md ops Q S m n (L.setIfInBounds i true) (a.put oi.dst v) w):Zfr P md ops Q S m (n+1) L a w:=
 till_first hi hm (by
  obtain⟨e,he,hb⟩:=Array.any_eq_true'.1 hwt;simp only[Bool.and_eq_true,beq_iff_eq] at hb;exact⟨e,he,hb.1,hb.2⟩) (Region.noSelect_spec hs) hQ n L a w (Region.free_spec hi hf) (by simpa using hr) hLm hy hS h
def TillReady(P:Program)(md:Region.Mode)(ops:Array Oper)(Q:Exit->Act->World->Prop)(S:World->Prop)(m n:Nat)(L:Array Bool)(a:Act)(w:World)(rs:List Nat):Prop:=
 ∀ i∈rs,wpOp P ops Q i (fun a' w'=>Till m S (L.setIfInBounds i true) w'/\Zfr P md ops Q S m n (L.setIfInBounds i true) a' w') a w
theorem TillReady.nil{n:Nat}{L:Array Bool}{a:Act}{w:World}:TillReady P md ops Q S m n L a w []:=fun _ h=>by cases h
theorem TillReady.cons{n:Nat}{L:Array Bool}{a:Act}{w:World}{i:Nat}{o:Oper}{rs:List Nat}(ho:ops[i]? =some o)
 (h:∀ K:Act->World->Prop,Hid (∀ a w,Till m S (L.setIfInBounds i true) w->Zfr P md ops Q S m n (L.setIfInBounds i true) a w->K a w)->if Region.wanted o (yielded ops a.tmps)=true then Oper.wp P o a w K Q else K (a.put o.dst undef) w)
 (hs:TillReady P md ops Q S m n L a w rs):TillReady P md ops Q S m n L a w (i :: rs):=fun j hj=>by
 rcases List.mem_cons.1 hj with rfl|hj
 . exact wpOp_step ho (fun K hK=>h K (fun a w hT hA=>hK a w ⟨hT,hA⟩))
 . exact hs j hj
theorem Zfv{rs:List Nat}{n:Nat}{L:Array Bool}{a:Act}{w:World}(hr:Region.ready md ops L=rs)(hne:rs≠[])(h:TillReady P md ops Q S m n L a w rs):Zfr P md ops Q S m (n+1) L a w:=
 ⟨fun h0=>absurd (hr ▸ h0) hne,hr ▸ h⟩
theorem till_done{L:Array Bool}{a:Act}{w:World}(hr:Region.ready md ops L=[])(h:Q .normal a w):∀ n,Zfr P md ops Q S m n L a w
 |0=>⟨hr,h⟩
 |_+1=>⟨fun _=>h,by rw[hr];simp⟩
end
end Go.Proofs.YtedabomlfcghoaaGreat
