/- What the law rests on: part 4. -/
import Derived.Deep.RegionLaw
import Derived.Deep.AppendLies
import Derived.Deep.RegionHeld
import Derived.Lib.SlBytesConst
import Derived.StillTailTactics
import Derived.Deep.RegionHeldLaw
import Derived.Great.BuildSlice
import Derived.Test.YtedabomlfcghoaaGreatKG3
set_option linter.unusedVariables false
namespace Go.Proofs.YtedabomlfcghoaaGreat
set_option maxRecDepth 100000
open Go.RowKit BM
theorem rrPage_is{w:World}{v:Value}{O:List (Int × Int)}(hs:OwSl w v O)(h:allO O=true):Calls Tryz.prog 77 #[v] w fun e w'=>∃ v,e=.returned (.tuple #[v,.int .i64 0])/\BSl w' v (Zcs O)/\Below w.heap.size w w':=
 (rrPage_any hs).mono fun e w' ho=>ho.elim (fun h1=>h1.2) fun h1=>by rw[h] at h1;cases h1.1
theorem rrPage_not{w:World}{v:Value}{O:List (Int × Int)}(hs:OwSl w v O)(h:allO O=false):Calls Tryz.prog 77 #[v] w fun e w'=>e=.returned (.tuple #[.slice none 0 0,.int .i64 1])/\Below w.heap.size w w':=
 (rrPage_any hs).mono fun e w' ho=>ho.elim (fun h1=>by rw[h] at h1;cases h1.1) fun h1=>h1.2
theorem rrOf_bad{w:World}{v:Value}{O:List (Int × Int)}(hs:OwSl w v O)(g:Int)(h:¬ ((0<=g/\g<12)/\allO O=true)):
 Calls Tryz.prog 78 #[.int .i64 g,v] w fun e w'=>e=.returned (.tuple #[.agg #[.int .i64 0,.slice none 0 0],.int .i64 1])/\Below w.heap.size w w':=by
 have hb1:=Zaa w (.cells #[.int .i64 0,.slice none 0 0] 139);have hr1:=heap_alloc_new w (.cells #[.int .i64 0,.slice none 0 0] 139);obtain⟨w1,hw1⟩:∃ w1,w1=w.alloc (.cells #[.int .i64 0,.slice none 0 0] 139):=⟨_,rfl⟩;rw[<- hw1] at hb1 hr1;have H1:=hid hw1.symm;have HR1:=hid hr1;have hs1:=hs.below hb1;cases ha:allO O
 . have HA:=hid (rrPage_not hs1 ha)
   clear hs hs1 h ha hw1 hr1;by_cases g0:g<0
   all_goals (try (by_cases g1:11<g))
   all_goals
    go_enter Tryz.func78,Tryz.ntmps78
    go_wp2_with (first
     |(go_at_call 77;rw[H1.out];refine HA.out.mono ?_;rintro e w2 ⟨rfl,hb2⟩;have hr2:=Zad HR1.out hb2)
     |(with_reducible refine Zci rfl 139 sizeRD (.tmp 4) (.tmp 25) rfl w.heap.size rfl _ _ _ _ rfl rfl rfl _ hr2 ?_;intro w3 hw3 hr3))
    exact bodyPost_ret (Zfx rfl Tryz.underlying139 sizeRD _ _ w.heap.size _ _ _ _ rfl hr3 rfl) rfl ⟨rfl,(hb1.trans (hb2.mono hb1.size)).trans (hw3.below (Nat.le_refl _))⟩
 . have HA:=hid (rrPage_is hs1 ha)
   have hg:g<0\/11<g:=by
    by_cases g0:0<=g/\g<12
    . exact absurd ⟨g0,ha⟩ h
    . omega
   clear hs hs1 h ha hw1 hr1;by_cases g0:g<0
   . clear hg
     go_enter Tryz.func78,Tryz.ntmps78
     go_wp2_with (first
      |(go_at_call 77;rw[H1.out];refine HA.out.mono ?_;rintro e w2 ⟨v2,rfl,hs2,hb2⟩;have hr2:=Zad HR1.out hb2)
      |(with_reducible refine Zci rfl 139 sizeRD (.tmp 4) (.tmp 25) rfl w.heap.size rfl _ _ _ _ rfl rfl rfl _ hr2 ?_;intro w3 hw3 hr3))
     exact bodyPost_ret (Zfx rfl Tryz.underlying139 sizeRD _ _ w.heap.size _ _ _ _ rfl hr3 rfl) rfl ⟨rfl,(hb1.trans (hb2.mono hb1.size)).trans (hw3.below (Nat.le_refl _))⟩
   . have g1:11<g:=by omega
     clear hg;go_enter Tryz.func78,Tryz.ntmps78
     go_wp2_with (first
      |(go_at_call 77;rw[H1.out];refine HA.out.mono ?_;rintro e w2 ⟨v2,rfl,hs2,hb2⟩;have hr2:=Zad HR1.out hb2)
      |(with_reducible refine Zci rfl 139 sizeRD (.tmp 4) (.tmp 25) rfl w.heap.size rfl _ _ _ _ rfl rfl rfl _ hr2 ?_;intro w3 hw3 hr3))
     exact bodyPost_ret (Zfx rfl Tryz.underlying139 sizeRD _ _ w.heap.size _ _ _ _ rfl hr3 rfl) rfl ⟨rfl,(hb1.trans (hb2.mono hb1.size)).trans (hw3.below (Nat.le_refl _))⟩
theorem KR.wrote{w w':World}{B g:Nat}{v:Value}{L:List Bool}(h:KR w B v L)(hw:Wrote w w' g)(hne:∀ m,v.ownBlock=some m->m≠g):KR w' B v L:=by
 refine⟨h.1,?_⟩;rcases h.2 with h| ⟨k,cap,cur,hv,hg,hh,r⟩
 . exact .inl h
 . exact .inr ⟨k,cap,cur,hv,hg,by rw[hw.2.2.2.2 k (hne k (by rw[hv];rfl))];exact hh,r⟩
theorem rrOf_step{w wr w3:World}{gd gg cap:Nat}{g:Int}{vL:Value}{L:List Bool}{ub:Bool}{T:TypeId}{Z:Obj}(hd:wr.heap[gd]? =some (.cells #[.int .i64 g,vL] T (0,0)))(hkr:KR wr (gd+1) vL L)
 (hz:wr.heap[w.heap.size]? =some Z) (hwd:w.heap.size<gd) (hb:Below w.heap.size w wr) (hgrow:((wr.alloc (.cells #[.bool ub] 4)).drew).grownBy w3 vL.ownBlock)
 (hown:w3.ownsRow (gd+1) 4 1 (.slice (some ⟨gg,0,none⟩) (L.length+1) cap) (L.length+1) (L.map Value.bool ++ [.bool ub])):
 (w3.setCell ⟨gd,1,none⟩ (.slice (some ⟨gg,0,none⟩) (L.length+1) cap)).heap[gd]? =some (.cells #[.int .i64 g,.slice (some ⟨gg,0,none⟩) (L.length+1) cap] T (0,0))/\
 KR (w3.setCell ⟨gd,1,none⟩ (.slice (some ⟨gg,0,none⟩) (L.length+1) cap)) (gd+1) (.slice (some ⟨gg,0,none⟩) (L.length+1) cap) (L ++ [ub])/\
 (w3.setCell ⟨gd,1,none⟩ (.slice (some ⟨gg,0,none⟩) (L.length+1) cap)).heap[w.heap.size]? =some Z/\Below w.heap.size w (w3.setCell ⟨gd,1,none⟩ (.slice (some ⟨gg,0,none⟩) (L.length+1) cap)):=by
 have hlt1:gd<wr.heap.size:=(Array.getElem?_eq_some_iff.1 hd).1;have hune:∀ m,vL.ownBlock=some m->gd+1<=m:=fun m hm=>(World.ownsRow.lt hkr m hm).1
 have hbx:Below wr.heap.size wr (wr.alloc (.cells #[.bool ub] 4)).drew:=(Zaa _ _).drew;have old:∀ k,k<=gd->w3.heap[k]? =wr.heap[k]? :=fun k hk=>by
  rw[hgrow.block k (by simp;omega) (fun e=>by have:=hune k e.symm;omega)];exact hbx.block k (by omega)
 refine⟨?_,?_,?_,?_⟩
 . rw[heap_setCell_same w3 gd 1 _ _ _ ((old gd (Nat.le_refl _)).trans hd)];rfl
 . rcases hown.2 with⟨hv,_⟩| ⟨g',cap',cur,hv,hg,hh,r⟩
   . simp at hv
   . obtain⟨rfl,rfl⟩:gg=g'/\cap=cap':=by simpa using hv
     have e:(L ++ [ub]).length=L.length+1:=by simp
     rw[KR,e,List.map_append];exact⟨hown.1,.inr ⟨gg,cap,cur,rfl,hg,by rw[heap_setCell_other w3 ⟨gd,1,none⟩ gg _ (show gg≠gd by omega)];exact hh,r⟩⟩
 . rw[heap_setCell_other w3 ⟨gd,1,none⟩ _ _ (show w.heap.size≠gd by omega),old _ (by omega)];exact hz
 . have hb3:Below w.heap.size w w3:=(hb.trans (hbx.mono hb.size)).grown hgrow (by simp;have:=hb.size;omega) (fun k hk=>by have:=hune k hk;omega)
   exact hb3.setCell (p:=⟨gd,1,none⟩) (by show w.heap.size<=gd;omega) _
set_option maxHeartbeats 2000000 in
theorem rrOf_good{w:World}{v:Value}{O:List (Int × Int)}(hs:OwSl w v O)(g:Int)(hg1:0<=g)(hg2:g<12)(ha:allO O=true):
 Calls Tryz.prog 78 #[.int .i64 g,v] w fun e w'=>∃ v,e=.returned (.tuple #[.agg #[.int .i64 g,v],.int .i64 0])/\KR w' w.heap.size v (Zbe O 64)/\Below w.heap.size w w':=by
 have hb1:=Zaa w (.cells #[.int .i64 0,.slice none 0 0] 139);have hr1:=heap_alloc_new w (.cells #[.int .i64 0,.slice none 0 0] 139);obtain⟨w1,hw1⟩:∃ w1,w1=w.alloc (.cells #[.int .i64 0,.slice none 0 0] 139):=⟨_,rfl⟩;rw[<- hw1] at hb1 hr1;have hz1:w.heap.size<w1.heap.size:=by rw[hw1];simp
 have H1:=hid hw1.symm;have HR1:=hid hr1;have hs1:=hs.below hb1;have HA:=hid (rrPage_is hs1 ha);have hO:=Ziq ha;obtain⟨b,off,cap,rfl,hb,hc⟩:=hs.at (by omega);have HC:=hid hc;have HBB:=hid hs.1;have HO:=hid hO;have g1:¬ 11<g:=by omega
 have g0:¬ g<0:=by omega
 rw[hO] at HA |-
 clear hs hs1 hw1 ha hc hO hr1;go_enter Tryz.func78,Tryz.ntmps78
 go_wp2_with (first
  |(go_at_call 77;rw[H1.out];refine HA.out.mono ?_;rintro e w2 ⟨v2,rfl,hs2,hb2⟩;have hr2:=Zad HR1.out hb2))
 have hb3:=Zaa w2 (.cells #[.int .i64 g,.slice none 0 0] 139);have hd3:=heap_alloc_new w2 (.cells #[.int .i64 g,.slice none 0 0] 139);generalize w2.alloc (.cells #[.int .i64 g,.slice none 0 0] 139)=w3 at hb3 hd3 |-
 have hr3:=Zad hr2 hb3;obtain⟨gd,hgd⟩:∃ gd,gd=w2.heap.size:=⟨_,rfl⟩;rw[<- hgd] at hd3 |-
 have hwd:w.heap.size<gd:=by have:=hb2.size;omega
 have hb03:Below w.heap.size w w3:=(hb1.trans (hb2.mono hb1.size)).trans (hb3.mono (by omega));have hdl:gd<w3.heap.size:=(Array.getElem?_eq_some_iff.1 hd3).1;have HD3:=hid hd3;have HR3:=hid hr3;clear hd3 hr3 hr2 hb3 hb2 hs2 hgd;go_loopw [30] (fun i wr=>∃ k:Nat,k<=64/\i=.int .i64 k/\∃ vL,Hid (wr.heap[gd]? =some (.cells #[.int .i64 g,vL] 139 (0,0)))/\Hid (KR wr (gd+1) vL (Zbe O k))/\Hid (wr.heap[w.heap.size]? =some (.cells #[.int .i64 0,.slice none 0 0] 139 (0,0)))/\Below w.heap.size w wr) (fun i _=>64-(intOf i).toNat)
 case atStart=>exact⟨0,by omega,rfl,_,HD3,kr_nil _ _,HR3,hb03⟩
 case round=>
  obtain⟨k,hk,rfl,vL,HD,HKR,HRC,hbr⟩:=hrel;clear HD3 HR3 hb03;by_cases hlt:k<64
  . have hck:=HC.out k (by rw[HO.out];exact hlt)
    have hbd:=HBB.out k;have hus:Zef O k=decide ((O.getD k (0,0)).1≠0):=rfl;have hsu:=usedK_succ O k;obtain⟨x,hx⟩:∃ x,x=(O.getD k (0,0)).1:=⟨_,rfl⟩;rw[<- hx] at hck hbd hus;have c1:=(hbr.cell (p:=⟨b,off+k*2,none⟩) hb).trans hck.1;have c2:wr.cell? ⟨gd,1,none⟩=some vL:=by rw[cell_of_row _ _ _ _ _ _ HD.out];rfl
    have ek:(k:Int)<64:=by omega
    obtain⟨ub,hub⟩:∃ ub,ub=Zef O k:=⟨_,rfl⟩;rw[<- hub] at hsu hus;have hxb:(x != 0)=ub:=by rw[hus];by_cases h0:x=0 <;> simp[h0]
    have HSU:=hid hsu;have HUL:=hid (Zbv O k);clear hx hck hus hub hsu;obtain⟨i,hi1,hi2,hi3,hi4⟩:=info_parts infoBool1;have hzz:(Value.bool false).cells.size=1:=rfl;have hlt1:gd<wr.heap.size:=(Array.getElem?_eq_some_iff.1 HD.out).1;have hune:∀ m,vL.ownBlock=some m->gd+1<=m:=fun m hm=>(World.ownsRow.lt HKR.out m hm).1
    have hune':some gd≠vL.ownBlock:=fun e=>by have:=hune gd e.symm;omega
    have fz:wr.frozen? ⟨gd,1,none⟩=false:=frozen_of_row _ _ _ _ _ HD.out;have hc3:∀ w3,((wr.alloc (.cells #[.bool ub] 4)).drew).grownBy w3 vL.ownBlock->w3.cell? ⟨gd,1,none⟩=some vL/\w3.frozen? ⟨gd,1,none⟩=false:=fun w3 hg=>by
     have hlt':gd<((wr.alloc (.cells #[.bool ub] 4)).drew).heap.size:=by simp;omega
     rw[hg.cell_far _ hlt' hune',hg.frozen_far _ hlt' hune'];exact⟨by rw[World.cell?_drew,World.cell?_alloc_lt _ _ _ hlt1];exact c2,by rw[World.frozen?_drew,World.frozen?_alloc_past _ _ _ hlt1];exact fz⟩
    have HC3:=hid hc3;have HUNE:=hid hune;have hlb:(Zbe O k).length<=64:=by rw[HUL.out];exact hk
    have hcu1:∀ u∈[Value.bool ub],u.oneCell'=true:=fun u hu=>by simp at hu;subst hu;rfl
    clear hc3 hune hune';go_wp2
    go_region_law
     ((refine step_append_lies _ (by rfl) _ _ _ (by rfl) (gd+1) 4 i _ 1 1 Tryz.underlying137 hi1 hi2 hi3 hi4 hzz (by omega) vL (Zbe O k).length ((Zbe O k).map Value.bool) (by rfl) ((HKR.out.alloc _).drew)
        ⟨wr.heap.size,0,none⟩ 1 1 [Value.bool ub] (by rfl) (by rfl) (World.news_of_block (cs:=#[Value.bool ub]) (t:=4) (fr:=(0,0)) (heap_alloc_new wr _)) hcu1
        (by omega) (by simp only[maxLen];omega) (by omega) (by simp;omega) (wr.heap.size+1) (by simp) ?_;intro gg cap w3 hown3 hgrow hat hltg;obtain⟨c3,f3⟩:=HC3.out w3 hgrow))
    all_goals
     have HST:=hid (rrOf_step HD.out HKR.out HRC.out hwd hbr hgrow hown3);clear hown3 hgrow hat;go_wp2;go_roundw
     case rel=>exact⟨k+1,by omega,by go_num,_,HST.out.1,by show KR _ _ _ (Zbe O (k+1));rw[HSU.out];exact HST.out.2.1,HST.out.2.2.1,HST.out.2.2.2⟩
     case measure=>simp[intOf];omega
  . obtain rfl:k=64:=by omega
    have d0:wr.cell? ⟨gd,0,none⟩=some (.int .i64 g):=by rw[cell_of_row _ _ _ _ _ _ HD.out];rfl
    have d1:wr.cell? ⟨gd,1,none⟩=some vL:=by rw[cell_of_row _ _ _ _ _ _ HD.out];rfl
    have hrc:=HRC.out;obtain⟨aL,cL,rfl⟩:=HKR.out.ksl.shape;go_wp2_with (with_reducible refine Zci rfl 139 sizeRD (.tmp 4) (.tmp 45) rfl w.heap.size rfl _ _ _ _ rfl rfl rfl _ hrc ?_;intro w5 hw5 hr5)
    refine bodyPost_ret (Zfx rfl Tryz.underlying139 sizeRD _ _ w.heap.size _ _ _ _ rfl hr5 rfl) rfl ⟨_,rfl,?_,hbr.trans (hw5.below (Nat.le_refl _))⟩;exact(HKR.out.more (by omega)).wrote hw5 (fun m hm=>by have:=(World.ownsRow.lt HKR.out m hm).1;omega)
theorem ow_len{w:World}{B:Nat}{v:Value}{O:List (Int × Int)}(h:OwR w B v O)(n:Nat)(hn:O.length=n)(h0:0<n):∃ g cap,v=.slice (some ⟨g,0,none⟩) n cap:=by
 rcases h.2.2 with⟨_,h1⟩| ⟨g,cap,cur,hv,_⟩
 . omega
 . exact⟨g,cap,by rw[hv,hn]⟩
theorem Zhy{O:List (Int × Int)}(h:O.length=64):(Zcs O).length=256:=by rw[Zcs,Zcw,h]
theorem bsl_desc(w2:World):BSl (w2.alloc (.cells #[.int .u8 100,.int .u8 101,.int .u8 115,.int .u8 99] 5 (4,5))) (.slice (some ⟨w2.heap.size,0,none⟩) 4 4) [100,101,115,99]:=by
 refine⟨Zax (by decide),.inr ⟨_,4,rfl,by decide,fun j hj=>⟨by simp,rfl,?_⟩⟩⟩;have hj:j<4:=hj;have hh:(w2.alloc (.cells #[.int .u8 100,.int .u8 101,.int .u8 115,.int .u8 99] 5 (4,5))).heap[w2.heap.size]? =some (.cells #[.int .u8 100,.int .u8 101,.int .u8 115,.int .u8 99] 5 (4,5)):=by
  show(w2.heap.push _)[w2.heap.size]? =_
  simp
 rw[Nat.zero_add,cell_of_row _ _ _ _ _ _ hh];have:j=0\/j=1\/j=2\/j=3:=by omega
 rcases this with rfl|rfl|rfl|rfl <;> rfl
theorem BRow.low{w w':World}{p r:Nat}{L:List Bool}(h:BRow w p r L)(hb:Below w.heap.size w w'):BRow w' p r L:=h.below hb h.lt.1 h.lt.2
theorem pPut2{w:World}{v:Value}{l:List Int}(hs:BSl w v l)(hl:l.length<=1000)(x:Int)(h0:0<=x)(h1:x<=65535):Calls Tryz.prog 177 #[v,.int .u64 x,.int .i64 2] w (NewB w (l ++ lowB x 2)):=
 Zfq hs (by omega) x 2 2 (by omega) (by omega) rfl h0 (by omega)
set_option maxHeartbeats 1000000 in
theorem grEnc_yes{w:World}{p r:Nat}{L:List Bool}(hr:BRow w p r L)(g:Int)(h1:0<=g)(h2:g<12)(hL:L.length=64):
 Calls Tryz.prog 148 #[.agg #[.int .i64 g,.pointer (some ⟨p,0,none⟩)]] w fun e w'=>∃ v,e=.returned (.tuple #[v,.int .i64 0])/\OB w' w.heap.size v (Zhl g L)/\Below w.heap.size w w':=by
 have hb1:=Zaa w (.cells #[.int .i64 g,.pointer (some ⟨p,0,none⟩)] 212);have hd1:=heap_alloc_new w (.cells #[.int .i64 g,.pointer (some ⟨p,0,none⟩)] 212);obtain⟨w1,hw1⟩:∃ w1,w1=w.alloc (.cells #[.int .i64 g,.pointer (some ⟨p,0,none⟩)] 212):=⟨_,rfl⟩;rw[<- hw1] at hb1 hd1;have H1:=hid hw1.symm;have HROW:=hid (hr.low hb1);have hlen:=bLen_row HROW.out;rw[hL] at hlen;have HLEN:=hid hlen;have hcb:=Zko L;obtain⟨C,hC⟩:∃ C,C=Zcr L:=⟨_,rfl⟩;rw[<- hC,hL] at hcb;have HC:=hid hC;have HL:=hid hL;have HD1:=hid hd1;have hlt:w.heap.size<w1.heap.size:=(Array.getElem?_eq_some_iff.1 hd1).1;have c0:w1.cell? ⟨w.heap.size,0,none⟩=some (.int .i64 g):=by rw[cell_of_row _ _ _ _ _ _ hd1];rfl
 have c1:w1.cell? ⟨w.heap.size,1,none⟩=some (.pointer (some ⟨p,0,none⟩)):=by rw[cell_of_row _ _ _ _ _ _ hd1];rfl
 have kc:=fun(w:World) (C:Array Value) (n c:Nat)=>Lib.run_convert_bytes_const (P:=Tryz.prog) w 30 5 C n c Tryz.underlying30 Tryz.underlying5
 clear hr hlen hC hL hd1 hw1;go_enter Tryz.func148,Tryz.ntmps148
 go_wp2_with (first
  |(go_at_call 183;rw[H1.out];refine(grPoss_yes g h1 h2 _).mono ?_;rintro e w2 ⟨rfl,rfl⟩)
  |(go_at_call 58;refine HLEN.out.mono ?_;rintro e w2 ⟨rfl,rfl⟩))
 have hbm:=bsl_desc w1;have hb2:=Zaa w1 (.cells #[.int .u8 100,.int .u8 101,.int .u8 115,.int .u8 99] 5 (4,5));generalize w1.alloc (.cells #[.int .u8 100,.int .u8 101,.int .u8 115,.int .u8 99] 5 (4,5))=w2 at hbm hb2 |-
 have HMG:=hid (pPut2 hbm (by decide) g h1 (by omega));clear hbm kc
 go_wp2_with (first
  |(go_at_call 177;(with_reducible refine HMG.out.mono ?_);rintro e w4 ⟨v4,rfl,hob4,hb4⟩
    have hb14:Below w1.heap.size w1 w4:=hb2.trans (hb4.mono hb2.size);have x1:w4.cell? ⟨w.heap.size,1,none⟩=some (.pointer (some ⟨p,0,none⟩)):=(hb14.cell (p:=⟨w.heap.size,1,none⟩) hlt).trans c1;have HR4:=hid (HROW.out.low hb14))
  |(go_at_call 31;refine(bCount_any HR4.out).mono ?_;rw[<- HC.out];rintro e w5 ⟨rfl,m5,rfl⟩
    have y1:(w4.drewN m5).cell? ⟨w.heap.size,1,none⟩=some (.pointer (some ⟨p,0,none⟩)):=x1;have HP2:=hid (pPut2 (hob4.bsl.drewN m5) (by rw[List.length_append,Zac];decide) (C:Int) (by omega) (by omega)))
  |(go_at_call 177;(with_reducible refine HP2.out.mono ?_);rintro e w6 ⟨v6,rfl,hob6,hb6⟩
    have hb46:Below w4.heap.size w4 w6:=⟨hb6.os,hb6.tape,hb6.output,hb6.size,hb6.block⟩;have hb16:Below w1.heap.size w1 w6:=hb14.trans (hb46.mono hb14.size);have z1:w6.cell? ⟨w.heap.size,1,none⟩=some (.pointer (some ⟨p,0,none⟩)):=(hb16.cell (p:=⟨w.heap.size,1,none⟩) hlt).trans c1;have HR6:=hid (HROW.out.low hb16))
  |(go_at_call 185;refine(bBytes_any HR6.out (Ziy L) (rep_bytesB L)).mono ?_;rintro e w7 ⟨v7,rfl,hs7,hb7⟩
    have hb17:Below w1.heap.size w1 w7:=hb16.trans (hb7.mono hb16.size))
  |(at_builtin
    refine Zah w7 rfl (.tmp 27) (.tmp 30) rfl w1.heap.size _ ([100,101,115,99] ++ lowB g 2 ++ lowB (C:Int) 2) rfl ((hob6.below hb7).more (by have:=hb14.size;simpa using this)) w7 v7 (Ziy L) rfl hs7 (fun _ _=>rfl) (by rw[Zcl,HL.out];simp[Zac]) hb17.size ?_;intro v8 w8 hob8 hb8 _;have hb18:Below w1.heap.size w1 w8:=hb17.trans hb8;have HSE:Hid (Calls Tryz.prog 184 #[v8] w8 (SealOut (descC g L) w8)):=hid (by rw[descC,<- HC.out];exact Zju hob8.bsl (by rw[List.length_append,Zcl,HL.out];simp[Zac])))
  |(go_at_call 184;refine HSE.out.mono ?_;rintro e w9 ⟨v9,rfl,hob9,hb9⟩))
 go_ret2;exact⟨v9,rfl,hob9.more (Nat.le_trans hb1.size hb18.size),(hb1.trans (hb18.mono hb1.size)).trans (hb9.mono (Nat.le_trans hb1.size hb18.size))⟩
theorem bNew_len(n:Nat)(h:n<=4096)(w:World):Calls Tryz.prog 53 #[.int .i64 n] w fun e w'=>e=.returned (.pointer (some ⟨w.heap.size+1,0,none⟩))/\BRow w' (w.heap.size+1) w.heap.size (List.replicate n false)/\Below w.heap.size w w':=
 (bNew_at n n h w (by rw[if_neg (by omega),if_neg (by omega)])).mono fun _ _ ⟨h1,h2,h3,_⟩=>⟨h1,h2,h3⟩
end Go.Proofs.YtedabomlfcghoaaGreat
namespace Go.Proofs.YtedabomlfcghoaaGreat
set_option maxRecDepth 100000
open Go.RowKit
theorem strOf_inj{l m:List Int}(hl:Byt l)(hm:Byt m)(h:(strOfNums l).data.toList=(strOfNums m).data.toList):l=m:=by
 have e:l.map (fun n=>UInt8.ofNat n.toNat)=m.map (fun n=>UInt8.ofNat n.toNat):=by
  rw[<- strOfNums_data,<- strOfNums_data,h]
 have hlen:l.length=m.length:=by simpa using congrArg List.length e
 apply List.ext_getElem hlen;intro i h1 h2;have h3:=congrArg (fun z=>z[i]?) e;simp[h1,h2] at h3;have a:=Zbo hl l[i] (List.getElem_mem h1);have b:=Zbo hm m[i] (List.getElem_mem h2);have h4:=congrArg UInt8.toNat h3;simp at h4;omega
theorem Zdm{w:World}{u v:Value}{l m:List Int}(hu:BSl w u l)(hv:BSl w v m):Calls Tryz.prog 99 #[u,v] w fun e w'=>e=.returned (.bool (decide (l=m)))/\w=w':=by
 have c1:=Zfl hu;have c2:=Zfl hv;have b1:=hu.1;have b2:=hv.1;have hd:((strOfNums l).toList==(strOfNums m).toList)=decide (l=m):=by
  by_cases e:l=m
  . rw[decide_eq_true e,e];exact beq_self_eq_true _
  . rw[decide_eq_false e,ByteArray.toList_eq,ByteArray.toList_eq]
    rw[beq_eq_false_iff_ne];exact fun h=>e (strOf_inj b1 b2 h)
 have HD:=hid hd;clear hu hv b1 b2 hd;go_enter Tryz.func99,Tryz.ntmps99;go_wp2;go_ret;exact⟨by rw[<- HD.out];rfl,rfl⟩
def inP9(x:Int):Bool:=decide (0<=x/\x<=767)
def newT(N:List Int)(i:Nat):Bool:=(N.take i).all fun x=>!(x==N.getD i 0)
def okT9(N:List Int)(D:List (List Int))(i:Nat):Bool:=inP9 (N.getD i 0) && (decide ((D.getD i []).length=256) && newT N i)
def frmTK(N:List Int)(D:List (List Int))(k:Nat):Bool:=(List.range k).all fun i=>okT9 N D i
def frmT(N:List Int)(D:List (List Int)):Bool:=decide (N.length<=37) && (decide (D.length=N.length) && frmTK N D N.length)
theorem frmTK_iff(N:List Int)(D:List (List Int))(k:Nat):frmTK N D k=true ↔ ∀ i,i<k->okT9 N D i=true:=by
 unfold frmTK;rw[List.all_eq_true];exact⟨fun h i hi=>h i (List.mem_range.2 hi),fun h i hi=>h i (List.mem_range.1 hi)⟩
theorem frmT_long{N:List Int}{D:List (List Int)}(h:37<N.length):frmT N D=false:=by
 unfold frmT;rw[decide_eq_false (by omega)];rfl
theorem frmT_len{N:List Int}{D:List (List Int)}(h:D.length≠N.length):frmT N D=false:=by
 unfold frmT;rw[decide_eq_false h];cases decide (N.length<=37) <;> rfl
theorem Zct{N:List Int}{D:List (List Int)}(h:frmT N D=true):N.length<=37/\D.length=N.length/\∀ i,i<N.length->(0<=N.getD i 0/\N.getD i 0<=767)/\(D.getD i []).length=256/\newT N i=true:=by
 unfold frmT at h;rw[Bool.and_eq_true,Bool.and_eq_true,decide_eq_true_eq,decide_eq_true_eq] at h;refine⟨h.1,h.2.1,fun i hi=>?_⟩;have:=(frmTK_iff N D _).1 h.2.2 i hi;unfold okT9 inP9 at this;rw[Bool.and_eq_true,Bool.and_eq_true,decide_eq_true_eq,decide_eq_true_eq] at this;exact⟨this.1,this.2.1,this.2.2⟩
theorem newT_iff(N:List Int)(i:Nat)(hi:i<N.length):newT N i=true ↔ ∀ j,j<i->N.getD j 0≠N.getD i 0:=by
 unfold newT;rw[List.all_eq_true];constructor
 . intro h j hj
   have hjl:j<(N.take i).length:=by rw[List.length_take];omega
   have:=h _ (List.getElem_mem hjl);rw[List.getElem_take] at this;have e:N.getD j 0=N[j]'(by omega):=by simp[List.getD_eq_getElem?_getD,show j<N.length by omega]
   rw[e]
   simpa using this
 . intro h x hx
   obtain⟨j,hj,rfl⟩:=List.getElem_of_mem hx;rw[List.length_take] at hj;rw[List.getElem_take];have:=h j (by omega);have e:N.getD j 0=N[j]'(by omega):=by simp[List.getD_eq_getElem?_getD,show j<N.length by omega]
   rw[e] at this
   simpa using this
def jrnl:List Int:=[106,114,110,108]
def done9:List Int:=[100,111,110,101]
def numL(N:List Int):List Int:=N.flatMap fun n=>lowB n 2
def Zaz(q:Int)(N:List Int):List Int:=jrnl ++ lowB q 4 ++ lowB (N.length:Int) 2 ++ numL N
def endL(q:Int):List Int:=done9 ++ lowB q 4
def Zjt(q:Int)(N:List Int)(D:List (List Int)):List (List Int):=Zal (Zaz q N) :: (D ++ [Zal (endL q)])
theorem Zjf(N:List Int):(numL N).length=2*N.length:=by
 unfold numL;induction N with
 |nil=>rfl
 |cons x N ih=>rw[List.flatMap_cons,List.length_append,ih,Zac,List.length_cons];omega
theorem numL_snoc(N:List Int)(x:Int):numL (N ++ [x])=numL N ++ lowB x 2:=by
 unfold numL;rw[List.flatMap_append];simp
theorem numL_take(N:List Int)(k:Nat)(h:k<N.length):numL (N.take (k+1))=numL (N.take k) ++ lowB (N.getD k 0) 2:=by
 rw[List.take_succ_eq_append_getElem h,numL_snoc];simp[List.getD_eq_getElem?_getD,h]
theorem Zed(q:Int)(N:List Int):(Zaz q N).length=10+2*N.length:=by
 simp only[Zaz,List.length_append,Zac,Zjf];have:jrnl.length=4:=rfl;omega
theorem Zjj(q:Int):(endL q).length=8:=by
 rw[endL,List.length_append,Zac];rfl
theorem packT_length(q:Int)(N:List Int)(D:List (List Int)):(Zjt q N D).length=D.length+2:=by simp[Zjt]
theorem byt_jrnl:Byt jrnl:=Zax fun x hx=>by simp[jrnl] at hx;omega
theorem byt_done:Byt done9:=Zax fun x hx=>by simp[done9] at hx;omega
theorem Zgk(A R:List Int)(n:Int)(k:Nat)(h:0<=n)(a:Nat)(ha:A.length=a):getV (A ++ (lowB n k ++ R)) a k=n%256 ^ k:=by
 subst ha;unfold getV;rw[List.drop_left,List.take_left' (Zac n k),leB_lowB n k h]
theorem head_take(q:Int)(N:List Int)(h:N.length<=37):(Zal (Zaz q N)).take 252=Zcq (Zaz q N):=by
 rw[Zal,List.take_left'];exact Zcd _ (by rw[Zed];omega)
theorem head_seq(q:Int)(N:List Int)(h0:0<=q)(h1:q<4294967296):getV (Zcq (Zaz q N)) 4 4=q:=by
 have e:Zcq (Zaz q N)=jrnl ++ (lowB q 4 ++ (lowB (N.length:Int) 2 ++ (numL N ++ List.replicate (252-(Zaz q N).length) 0))):=by
  unfold Zcq Zaz;simp
 rw[e,Zgk _ _ q 4 h0 4 rfl];exact Int.emod_eq_of_lt h0 (by simpa using h1)
theorem head_count(q:Int)(N:List Int)(h:N.length<=37):getV (Zcq (Zaz q N)) 8 2=(N.length:Int):=by
 have e:Zcq (Zaz q N)=(jrnl ++ lowB q 4) ++ (lowB (N.length:Int) 2 ++ (numL N ++ List.replicate (252-(Zaz q N).length) 0)):=by
  unfold Zcq Zaz;simp
 have hl:(jrnl ++ lowB q 4).length=8:=by rw[List.length_append,Zac];rfl
 rw[e,Zgk _ _ _ 2 (by omega) 8 hl];exact Int.emod_eq_of_lt (by omega) (by omega)
theorem numL_split(N:List Int)(i:Nat)(hi:i<N.length):numL N=numL (N.take i) ++ (lowB (N.getD i 0) 2 ++ numL (N.drop (i+1))):=by
 have e:N=N.take i ++ (N[i] :: N.drop (i+1)):=by rw[<- List.drop_eq_getElem_cons hi,List.take_append_drop]
 have e2:N.getD i 0=N[i]:=by simp[List.getD_eq_getElem?_getD,hi]
 rw[e2]
 conv=>lhs;rw[e]
 unfold numL;rw[List.flatMap_append,List.flatMap_cons]
theorem head_number(q:Int)(N:List Int)(i:Nat)(hi:i<N.length)(hn:0<=N.getD i 0/\N.getD i 0<=767):getV (Zcq (Zaz q N)) (10+2*i) 2=N.getD i 0:=by
 have e:Zcq (Zaz q N)=(jrnl ++ lowB q 4 ++ lowB (N.length:Int) 2 ++ numL (N.take i)) ++ (lowB (N.getD i 0) 2 ++ (numL (N.drop (i+1)) ++ List.replicate (252-(Zaz q N).length) 0)):=by
  have e1:Zaz q N=jrnl ++ lowB q 4 ++ lowB (N.length:Int) 2 ++ (numL (N.take i) ++ (lowB (N.getD i 0) 2 ++ numL (N.drop (i+1)))):=by
   rw[<- numL_split N i hi];rfl
  unfold Zcq;generalize List.replicate (252-(Zaz q N).length) (0:Int)=Z;rw[e1];simp only[List.append_assoc]
 have hl:(jrnl ++ lowB q 4 ++ lowB (N.length:Int) 2 ++ numL (N.take i)).length=10+2*i:=by
  simp only[List.length_append,Zac,Zjf,List.length_take];have:jrnl.length=4:=rfl;omega
 rw[e,Zgk _ _ _ 2 hn.1 _ hl];exact Int.emod_eq_of_lt hn.1 (by omega)
def cB(b:List Int):List Value:=b.map (Value.int .u8)
theorem Zau(b:List Int):(cB b).length=b.length:=by simp[cB]
theorem Zhj(b:List Int):∀ v∈cB b,v.oneCell'=true:=fun v hv=>by obtain⟨x,_,rfl⟩:=List.mem_map.1 hv;rfl
def cU(x:Nat × List Int):List Value:=.int .i64 x.1 :: cB x.2
theorem cU_length(x:Nat × List Int):(cU x).length=x.2.length+1:=by simp[cU,Zau]
theorem cU_one(x:Nat × List Int):∀ v∈cU x,v.oneCell'=true:=fun v hv=>by
 rcases List.mem_cons.1 hv with rfl|h
 . rfl
 . exact Zhj _ v h
def Blk(b:List Int):Prop:=b.length=256/\Byt b
theorem Zcc{L:List (List Int)}(h:∀ b∈L,Blk b):∀ x∈L,(cB x).length=256:=fun x hx=>by rw[Zau,(h x hx).1]
theorem flatU_len{L:List (Nat × List Int)}(h:∀ x∈L,Blk x.2):∀ x∈L,(cU x).length=257:=fun x hx=>by rw[cU_length,(h x hx).1]
def zB:List Value:=List.replicate 256 (.int .u8 0)
theorem Zde:zB.length=256:=List.length_replicate
theorem infoB:(Tryz.prog.info? 151).map (fun i=>(i.zero,i.size,i.bytes))=some (some (.agg zB.toArray),256,256):=by kernel_rfl
theorem infoW:(Tryz.prog.info? 155).map (fun i=>(i.zero,i.size,i.bytes))=some (some (.agg (Value.int .i64 0 :: zB).toArray),257,264):=by kernel_rfl
theorem Zej(w:World){ops:Array Oper}{rest:List Oper}{o:Oper}{a:Act}{Q:Exit->Act->World->Prop}(hg:o.guard=none)(hop:o.op=Op.alloc 151)
 (hK:wpList Tryz.prog ops Q rest (a.put o.dst (.pointer (some ⟨w.heap.size,0,none⟩))) (w.alloc (.cells zB.toArray 151))):wpList Tryz.prog ops Q (o :: rest) a w:=by
 refine wpList_plain hg fun K hK'=>?_
 have hz:=(zero_of_info (v:=.agg zB.toArray) (n:=256) (t:=151) (P:=Tryz.prog) (by
  obtain⟨i,h2,h3,h4,h5⟩:=info_parts infoB;simp[h2,h3,h4])).1 w
 unfold Oper.wp execOp;simp only[hop,Instr.alloc,newVar,newRow,Sem.run_bind,hz,Result.andThen_ok,Value.cells];exact hK' _ _ hK
theorem sizeB:(Tryz.prog.info? 151).map (·.size)=some 256:=by kernel_rfl
theorem built_zero:Tryz.prog.built 151 []=some zB.toArray:=by kernel_rfl
theorem wpList_buildB(w:World){ops:Array Oper}{rest:List Oper}{o:Oper}{a:Act}{Q:Exit->Act->World->Prop}(hg:o.guard=none)(hop:o.op=Op.build 151 #[])
 (hK:wpList Tryz.prog ops Q rest (a.put o.dst (.agg zB.toArray)) w):wpList Tryz.prog ops Q (o :: rest) a w:=by
 refine wpList_plain hg fun K hK'=>?_
 have hb:Tryz.prog.built 151 ((#[]:Array (Nat × Operand)).map fun(i,x)=>(i,a.eval x)).toList=some zB.toArray:=by simpa using built_zero
 exact wp_build 151 #[] hop (by rw[hb];rfl) (by rw[hb];exact hK' _ _ hK)
theorem Zdf(w:World){ops:Array Oper}{rest:List Oper}{o:Oper}{a:Act}{Q:Exit->Act->World->Prop}(hg:o.guard=none)(x y:Operand)(hop:o.op=Op.store 151 x y)
 (g:Nat) (t:TypeId) (old cells:List Value) (hx:a.eval x=.pointer (some ⟨g,0,none⟩)) (hy:a.eval y=.agg cells.toArray) (hh:w.heap[g]? =some (.cells old.toArray t (0,0))) (ho:old.length=256) (hc:cells.length=256) (h1:∀ v∈cells,v.oneCell'=true)
 (hK:wpList Tryz.prog ops Q rest (a.put o.dst undef) (w.setRow g cells.toArray)):wpList Tryz.prog ops Q (o :: rest) a w:=
 wpList_store_row hg 151 x y hop g cells.toArray hx hy t old.toArray hh (by rw[sizeB];simp[hc]) (by simp[ho,hc]) (all_oneCell_toArray h1) hK
theorem wpList_loadB(w:World){ops:Array Oper}{rest:List Oper}{o:Oper}{a:Act}{Q:Exit->Act->World->Prop}(hg:o.guard=none)(x:Operand)(hop:o.op=Op.load 151 x)
 (g off:Nat) (cells:List Value) (hx:a.eval x=.pointer (some ⟨g,off,none⟩)) (hr:w.rangeAt g off cells) (hc:cells.length=256)
 (hK:wpList Tryz.prog ops Q rest (a.put o.dst (.agg cells.toArray)) w):wpList Tryz.prog ops Q (o :: rest) a w:=
 wpList_load_mid hg 151 x hop g off hx cells _ hr Tryz.underlying151 rfl (by rw[sizeB,hc]) hK
set_option maxRecDepth 100000 in
theorem dBlockOf_any{w:World}{v:Value}{l:List Int}(hv:BSl w v l)(hl:l.length=256):
 Calls Tryz.prog 86 #[v] w fun e w'=>e=.returned (.agg (cB l).toArray)/\Below w.heap.size w w':=by
 obtain⟨ao,cap,rfl,hcap⟩:=hv.shape;obtain⟨M,hM⟩:∃ M,M=l.length:=⟨_,rfl⟩;have hlen:Tryz.prog.arrayLen 151=256:=by kernel_rfl
 have harr:Tryz.prog.underlying 151=some (.array 256 5):=Tryz.underlying151;have HZ:=hid Zde;have HL:=hid hl;have hone:∀ v∈zB,v.oneCell'=true:=fun v hv=>by rw[List.eq_of_mem_replicate hv];rfl
 rw[<- hM] at hv |-
 have hsrc:=Zeq hv (fun _ _=>rfl) (w1:=w) l.length;rw[List.take_length] at hsrc;have HM:Hid (M=256):=by rw[hM];exact HL
 clear hl hcap hM;go_enter Tryz.func86,Tryz.ntmps86
 go_wp2_with (first
  |with_reducible refine Zej _ rfl rfl ?_
  |with_reducible refine wpList_buildB _ rfl rfl ?_
  |(refine Zdf _ rfl _ _ (by rfl) _ 151 zB zB (by rfl) (by rfl) (heap_alloc_last _ _) HZ.out HZ.out hone ?_
    rw[World.setRow_alloc_new])
  |(refine Zbc (by rfl) _ _ _ _ (by rfl) 5 Tryz.underlying30 (by kernel_rfl) _ _ _ _ _ _ (by rfl) (by rfl) (w.heap.size+1) 0 zB 151 ?_ (cB l) 256 (by rw[Zau];exact HL.out) ?_ ?_ ?_ (Zhj l) ?_))
 . rw[show w.heap.size+1=(w.alloc (.cells zB.toArray 151)).heap.size by simp];exact heap_alloc_last _ _
 . rw[HM.out];rfl
 . intro hpos
   obtain⟨ad,rfl,hc⟩:=hsrc hpos;refine⟨ad,rfl,fun j v hj=>?_⟩;have hcj:=hc j v hj;have hlt:=World.block_lt_of_cell? w _ hcj;rw[World.cell?_alloc_lt _ _ _ (Nat.lt_of_lt_of_le hlt (by simp)),World.cell?_alloc_lt _ _ _ hlt,hcj]
 . rw[Zau,HL.out,HZ.out];exact Nat.le_refl _
 intro w' hrow hwr;rw[Zbw _ _ (by rw[Zau,HL.out,HZ.out])] at hrow;have hrow0:w'.heap[w.heap.size]? =some (.cells zB.toArray 151 (0,0)):=by
  rw[hwr.2.2.2.2 _ (by omega),@heap_alloc_old _ _ _ (by simp)];exact heap_alloc_last _ _
 go_wp2_with (first
  |(refine wpList_loadB _ rfl _ (by rfl) _ 0 (cB l) (by rfl) (Zca hrow.out (by rw[List.drop_zero,List.take_length])) (by rw[Zau];exact HL.out) ?_)
  |(refine Zdf _ rfl _ _ (by rfl) _ 151 zB (cB l) (by rfl) (by rfl) hrow0 HZ.out (by rw[Zau];exact HL.out) (Zhj l) ?_))
 have hrow2:=setRow_heap w' w.heap.size _ (cB l).toArray 151 _ hrow0;refine bodyPost_ret (v:=.agg (cB l).toArray) ?_ rfl ⟨rfl,?_⟩
 . exact results_cell_row rfl _ _ w.heap.size 151 (cB l).toArray (0,0) _ (by rfl) hrow2 harr rfl (by rw[sizeB];simp[Zau,HL.out])
 . have b1:Below w.heap.size w ((w.alloc (.cells zB.toArray 151)).alloc (.cells zB.toArray 151)):=((Below.refl _ _).alloc (Nat.le_refl _) _).alloc (by simp) _
   have b2:Below w.heap.size _ w':=hwr.below (by omega);exact(b1.trans b2).trans ((Wrote.setRow w' w.heap.size _).below (Nat.le_refl _))
structure DskAt (w:World) (B bp bf bv:Nat) (u:Value) (F V:List (List Int)) (U:List (Nat × List Int)) (fu:Bool) (le:Int) (dn:Bool):Prop where
 bB:B<=bp/\B<=bf/\B<=bv
 ne:bp≠bf/\bp≠bv/\bf≠bv
 hp:w.heap[bp]? =some (.cells #[.slice (some ⟨bf,0,none⟩) F.length F.length,.slice (some ⟨bv,0,none⟩) V.length V.length,u,.bool fu,.int .i64 le,.bool dn] 131 (0,0))
 hf:w.heap[bf]? =some (.cells (F.flatMap cB).toArray 151 (0,0))
 hv:w.heap[bv]? =some (.cells (V.flatMap cB).toArray 151 (0,0))
 hu:w.ownsRow B 155 257 u U.length (U.flatMap cU)
 une:u.ownBlock≠some bp/\u.ownBlock≠some bf/\u.ownBlock≠some bv
 okF:∀ b∈F,Blk b
 okV:∀ b∈V,Blk b
 okU:∀ x∈U,x.1<V.length/\Blk x.2
 len:F.length=V.length
 max:V.length<=2000
def Dsk(w:World)(B:Nat)(p:Value)(F V:List (List Int))(U:List (Nat × List Int)):Prop:=
 ∃ bp bf bv u,p=.pointer (some ⟨bp,0,none⟩)/\DskAt w B bp bf bv u F V U false 0 false
theorem DskAt.below{w w':World}{B bp bf bv:Nat}{u:Value}{F V:List (List Int)}{U:List (Nat × List Int)}{fu dn:Bool}{le:Int}(h:DskAt w B bp bf bv u F V U fu le dn)(hb:Below w.heap.size w w'):DskAt w' B bp bf bv u F V U fu le dn:=by
 have key:∀ {g:Nat} {o:Obj},w.heap[g]? =some o->w'.heap[g]? =some o:=fun hg=>by
  rw[hb.block _ (Array.getElem?_eq_some_iff.1 hg).1];exact hg
 refine { h with hp:=key h.hp,hf:=key h.hf,hv:=key h.hv,hu:=⟨h.hu.1,?_⟩ };rcases h.hu.2 with h| ⟨g,cap,cur,hv,hg,hh,r⟩
 . exact .inl h
 . exact .inr ⟨g,cap,cur,hv,hg,key hh,r⟩
section
variable {w:World}{B bp bf bv:Nat}{u:Value}{F V:List (List Int)}{U:List (Nat × List Int)}{fu dn:Bool}{le:Int}
theorem DskAt.c0(h:DskAt w B bp bf bv u F V U fu le dn):w.cell? ⟨bp,0,none⟩=some (.slice (some ⟨bf,0,none⟩) F.length F.length):=by rw[cell_of_row _ _ _ _ _ _ h.hp];rfl
theorem DskAt.c1(h:DskAt w B bp bf bv u F V U fu le dn):w.cell? ⟨bp,1,none⟩=some (.slice (some ⟨bv,0,none⟩) V.length V.length):=by rw[cell_of_row _ _ _ _ _ _ h.hp];rfl
theorem DskAt.c2(h:DskAt w B bp bf bv u F V U fu le dn):w.cell? ⟨bp,2,none⟩=some u:=by rw[cell_of_row _ _ _ _ _ _ h.hp];rfl
theorem DskAt.c3(h:DskAt w B bp bf bv u F V U fu le dn):w.cell? ⟨bp,3,none⟩=some (.bool fu):=by rw[cell_of_row _ _ _ _ _ _ h.hp];rfl
theorem DskAt.c4(h:DskAt w B bp bf bv u F V U fu le dn):w.cell? ⟨bp,4,none⟩=some (.int .i64 le):=by rw[cell_of_row _ _ _ _ _ _ h.hp];rfl
theorem DskAt.c5(h:DskAt w B bp bf bv u F V U fu le dn):w.cell? ⟨bp,5,none⟩=some (.bool dn):=by rw[cell_of_row _ _ _ _ _ _ h.hp];rfl
theorem DskAt.fr(h:DskAt w B bp bf bv u F V U fu le dn)(i:Nat):w.frozen? ⟨bp,i,none⟩=false:=by simp[World.frozen?,h.hp]
theorem DskAt.shapeU(h:DskAt w B bp bf bv u F V U fu le dn):∃ ao cap,u=.slice ao U.length cap:=by
 rcases h.hu.2 with⟨hv,h0⟩| ⟨g,cap,cur,hv,_⟩
 . exact⟨none,0,by rw[hv,h0]⟩
 . exact⟨_,cap,hv⟩
end
theorem dHas_at{w:World}{B bp bf bv:Nat}{u:Value}{F V:List (List Int)}{U:List (Nat × List Int)}{fu dn:Bool}{le:Int}(h:DskAt w B bp bf bv u F V U fu le dn)(n:Int):
 Calls Tryz.prog 133 #[.pointer (some ⟨bp,0,none⟩),.int .i64 n] w fun e w'=>e=.returned (.bool (decide (0<=n/\n<V.length)))/\w=w':=by
 have c1:=h.c1;by_cases h0:0<=n
 . go_enter Tryz.func133,Tryz.ntmps133
   go_wp2;go_ret;refine⟨?_,rfl⟩;simp[h0]
 . go_enter Tryz.func133,Tryz.ntmps133
   go_wp2;go_ret;refine⟨?_,rfl⟩;rw[decide_eq_false (by omega)];rfl
theorem dFits_at{w:World}{B bp bf bv:Nat}{u:Value}{F V:List (List Int)}{U:List (Nat × List Int)}{fu dn:Bool}{le:Int}(h:DskAt w B bp bf bv u F V U fu le dn)(n:Int){v:Value}{l:List Int}(hv:BSl w v l):
 Calls Tryz.prog 85 #[.pointer (some ⟨bp,0,none⟩),.int .i64 n,v] w fun e w'=>e=.returned (.bool (decide ((0<=n/\n<V.length)/\l.length=256)))/\w=w':=by
 obtain⟨ao,cap,rfl,_⟩:=hv.shape;by_cases hn:0<=n/\n<V.length
 . go_enter Tryz.func85,Tryz.ntmps85
   go_wp2_with (go_at_call 133;refine(dHas_at h n).mono ?_;rintro e w' ⟨rfl,rfl⟩;rw[decide_eq_true hn])
   go_ret;refine⟨?_,rfl⟩;by_cases hl:l.length=256
   . rw[decide_eq_true ⟨hn,hl⟩];simp[hl]
   . rw[decide_eq_false (fun h=>hl h.2)];simp;omega
 . go_enter Tryz.func85,Tryz.ntmps85
   go_wp2_with (go_at_call 133;refine(dHas_at h n).mono ?_;rintro e w' ⟨rfl,rfl⟩;rw[decide_eq_false hn])
   go_ret;exact⟨by rw[decide_eq_false (fun h=>hn h.1)];rfl,rfl⟩
def zb:List Int:=List.replicate 256 0
theorem zb_length:zb.length=256:=List.length_replicate
theorem zb_blk:Blk zb:=⟨zb_length,Zba 256⟩
theorem cB_zb:cB zb=List.replicate 256 (.int .u8 0):=List.map_replicate
theorem zRow_eq(n:Nat):(List.replicate n zb).flatMap cB=List.replicate (n*256) (Value.int .u8 0):=by
 refine List.eq_replicate_iff.2 ⟨?_,fun v hv=>?_⟩
 . rw[Zaw (s:=256) (fun x hx=>by rw[List.eq_of_mem_replicate hx,Zau,zb_length]),List.length_replicate]
 . obtain⟨b,hb,hv⟩:=List.mem_flatMap.1 hv
   rw[List.eq_of_mem_replicate hb,cB_zb] at hv;exact List.eq_of_mem_replicate hv
theorem made_zero(n:Nat):madeCells zB.toArray n=(List.replicate n (Value.int .u8 0)).toArray:=by
 apply Array.ext
 . simp[madeCells]
 . intro i h1 h2
   have hs:zB.toArray.size=256:=by rw[List.size_toArray,Zde]
   have hlt:i%zB.toArray.size<zB.toArray.size:=Nat.mod_lt _ (by rw[hs];decide);simp only[madeCells,Array.getElem_map,Array.getElem_range,List.getElem_toArray,List.getElem_replicate];rw[getElem!_pos zB.toArray _ hlt,List.getElem_toArray];exact List.eq_of_mem_replicate (List.getElem_mem _)
def zRow(n:Nat):Array Value:=((List.replicate n zb).flatMap cB).toArray
theorem make_blocks(W:World)(n:Nat)(hn:n<=2000):(Instr.makeSlice 128 (.int .i64 n) (.int .i64 n)).run Tryz.prog W=.ok (.slice (some ⟨W.heap.size,0,none⟩) n n) (W.alloc (.cells (zRow n) 151)):=by
 obtain⟨i,h2,h3,h4,h5⟩:=info_parts infoB;have hrun:=run_make (P:=Tryz.prog) W 128 151 i (.agg zB.toArray) Tryz.underlying128 h2 h3 .i64 .i64 n n (by omega) (by omega) (by rw[h5];omega) (by omega);simp only[Int.toNat_natCast,h4] at hrun;rw[hrun,show(Value.agg zB.toArray).cells=zB.toArray from rfl,made_zero,zRow,zRow_eq]
theorem newDsk(w:World)(n:Nat)(hn:n<=2000)(bf bv:Nat)(hb:(bf=w.heap.size/\bv=w.heap.size+1)\/(bf=w.heap.size+1/\bv=w.heap.size)):
 Dsk (((w.alloc (.cells (zRow n) 151)).alloc (.cells (zRow n) 151)).alloc (.cells #[.slice (some ⟨bf,0,none⟩) n n,.slice (some ⟨bv,0,none⟩) n n,.slice none 0 0,.bool false,.int .i64 0,.bool false] 131)).drew
  w.heap.size (.pointer (some ⟨w.heap.size+1+1,0,none⟩)) (List.replicate n zb) (List.replicate n zb) []:=by
 have s1:(w.alloc (.cells (zRow n) 151)).heap.size=w.heap.size+1:=by simp
 have s2:((w.alloc (.cells (zRow n) 151)).alloc (.cells (zRow n) 151)).heap.size=w.heap.size+1+1:=by simp
 have row:∀ (o:Obj) g,g=w.heap.size\/g=w.heap.size+1->(((w.alloc (.cells (zRow n) 151)).alloc (.cells (zRow n) 151)).alloc o).heap[g]? =some (.cells (zRow n) 151 (0,0)):=by
  rintro o g (rfl|rfl)
  . rw[@heap_alloc_old _ _ _ (by rw[s2];omega),@heap_alloc_old _ _ _ (by rw[s1];omega)];exact heap_alloc_last _ _
  . rw[@heap_alloc_old _ _ _ (by rw[s2];omega),<- s1];exact heap_alloc_last _ _
 have hlen:(List.replicate n zb).length=n:=List.length_replicate;refine⟨w.heap.size+1+1,bf,bv,.slice none 0 0,rfl,?_⟩
 refine⟨by omega,by omega,?_,row _ bf (by omega),row _ bv (by omega),⟨rfl,.inl ⟨rfl,rfl⟩⟩,⟨by simp[Value.ownBlock],by simp[Value.ownBlock],by simp[Value.ownBlock]⟩,
  fun b hb=>by rw[List.eq_of_mem_replicate hb];exact zb_blk,fun b hb=>by rw[List.eq_of_mem_replicate hb];exact zb_blk,fun x hx=>by simp at hx,rfl,by rw[hlen];exact hn⟩
 rw[hlen,<- s2];exact heap_alloc_last _ _
theorem dNew_at(w:World)(n:Nat)(hn:n<=2000):
 Calls Tryz.prog 43 #[.int .i64 n] w fun e w'=>∃ p,e=.returned p/\p≠.pointer none/\Dsk w' w.heap.size p (List.replicate n zb) (List.replicate n zb) []/\Below w.heap.size w w':=by
 have hmk:=fun W=>make_blocks W n hn
 have e1:Max.max (n:Int) 0=n:=by omega
 have e2:Min.min (n:Int) 2000=n:=by omega
 have e3:((n:Int)<0)=False:=by simp
 go_enter Tryz.func43,Tryz.ntmps43;go_wp2_with fail
 go_region
 . go_wp2
   go_ret;exact⟨_,rfl,by simp,newDsk w n hn _ _ (by omega),Zab ((((Below.refl _ _).alloc (Nat.le_refl _) _).alloc (by simp) _).alloc (by simp;omega) _) 1⟩
 . go_wp2
   go_ret;exact⟨_,rfl,by simp,newDsk w n hn _ _ (by omega),Zab ((((Below.refl _ _).alloc (Nat.le_refl _) _).alloc (by simp) _).alloc (by simp;omega) _) 1⟩
theorem foldl_set:∀ (l:List Value) (k off:Nat) (cells:List Value),off+k+l.length<=cells.length->
 (l.zipIdx k).foldl (fun(cs:Array Value) (x:Value × Nat)=>cs.setIfInBounds (off+x.2) x.1) cells.toArray=(splice cells (off+k) l).toArray
 |[],k,off,cells,_=>by simp[splice]
 |v :: l,k,off,cells,h=>by
  have hl:off+k+(l.length+1)<=cells.length:=by simpa using h
  rw[List.zipIdx_cons,List.foldl_cons,show cells.toArray.setIfInBounds (off+k) v=(cells.set (off+k) v).toArray by simp,
   foldl_set l (k+1) off _ (by rw[List.length_set];omega)]
  have e:=list_seg_step cells (off+k) v l (by omega);simp only[splice,<- Nat.add_assoc]
  simpa [Nat.add_assoc] using congrArg List.toArray e
theorem fill_cons(place:Nat->Option (Nat × Nat))(cells:List Value)(i off size:Nat)(v:Value)(vs:List Value)(rest:List (Nat × Value))(hp:place i=some (off,size))(hv:v.cells=vs.toArray)(hs:vs.length=size)(hl:off+size<=cells.length):
 Instr.fill place cells.toArray ((i,v) :: rest)=Instr.fill place (splice cells off vs).toArray rest:=by
 have hf:=foldl_set vs 0 off cells (by omega);rw[Nat.add_zero] at hf;rw[Instr.fill,hp];have c1:¬ (vs.toArray.size≠size\/off+vs.toArray.size > cells.toArray.size):=by simp;omega
 simp only[hv];rw[if_neg (by simpa using c1)];congr 1;rw[<- hf];simp
theorem build_write(W:World)(n:Int)(b:List Int)(hb:b.length=256):(Instr.build 155 #[(0,.int .i64 n),(1,.agg (cB b).toArray)]).run Tryz.prog W=.ok (.agg (.int .i64 n :: cB b).toArray) W:=by
 refine run_build W 155 _ _ ?_;have hz:=Zde;have hcb:=Zau b;obtain⟨it,h2,h3,h4,h5⟩:=info_parts infoW;have hu:Tryz.prog.underlying 155=_:=Tryz.underlying155;unfold Program.built;rw[h2,hu];simp only[h3];generalize hm:(List.mapM (m:=Option) _ _:Option (List (Nat × Nat)))=m;have hm':m=some [(0,1),(1,256)]:=by rw[<- hm];kernel_rfl
 subst hm';clear hm;show Instr.fill _ (Value.int .i64 0 :: zB).toArray _=_
 rw[fill_cons _ _ 0 0 1 (.int .i64 n) [.int .i64 n] _ rfl rfl rfl (by rw[List.length_cons];omega),
  show splice (Value.int .i64 0 :: zB) 0 [.int .i64 n]=.int .i64 n :: zB from rfl,
  fill_cons _ _ 1 1 256 (.agg (cB b).toArray) (cB b) _ rfl rfl (by rw[hcb,hb]) (by rw[List.length_cons];omega),
  show splice (Value.int .i64 n :: zB) 1 (cB b)=.int .i64 n :: splice zB 0 (cB b) by simp only[splice];rw[Nat.add_comm 1];simp,Zbw _ _ (by rw[hcb,hb,hz])]
 rfl
theorem slice_write(W:World)(cs:List Value)(hc:cs.length=257):(Instr.buildSlice 129 1 #[(0,.agg cs.toArray)]).run Tryz.prog W=.ok (.slice (some ⟨W.heap.size,0,none⟩) 1 1) (W.alloc (.cells cs.toArray 155)):=by
 have hz:=Zde;obtain⟨i,h2,h3,h4,h5⟩:=info_parts infoW;refine run_buildSlice W 129 155 1 _ cs.toArray i (.agg (Value.int .i64 0 :: zB).toArray) Tryz.underlying129 h2 h3 (by rw[h4];decide) (by rw[h4];decide) ?_;rw[h4];generalize hA:Array.map _ _=A;have hs:A.toList.length=257:=by rw[<- hA];simp
 obtain⟨L,rfl⟩:∃ L:List Value,A=L.toArray:=⟨A.toList,by simp⟩;clear hA
 rw[show(#[((0:Nat),Value.agg cs.toArray)]:Array (Nat × Value)).toList=[(0,.agg cs.toArray)] from rfl,fill_cons _ _ 0 0 257 (.agg cs.toArray) cs _ rfl rfl hc (by simpa using Nat.le_of_eq hs.symm),
  Zbw _ _ (by rw[hc];exact hs.symm)]
 rfl
section
variable {w:World}{B bp bf bv:Nat}{u:Value}{F V:List (List Int)}{U:List (Nat × List Int)}{fu dn:Bool}{le:Int}
theorem DskAt.setV(h:DskAt w B bp bf bv u F V U fu le dn){W:World}(hw:Below w.heap.size w W)(n:Nat)(hn:n<V.length)(b:List Int)(hb:Blk b):
 DskAt (W.setCells bv (n*256) (cB b)) B bp bf bv u F (V.set n b) U fu le dn/\Wrote W (W.setCells bv (n*256) (cB b)) bv:=by
 have h':=h.below hw;have hl:=Zau b;have hfl:=Zaw (Zcc h.okV);have e:=Zbx (vs:=cB b) h'.hv (o:=n*256) (by rw[hl,hb.1,hfl];omega) (Zhj b);rw[Zio (Zcc h.okV) n hn b (by rw[hl,hb.1])] at e;rw[e];have hwr:=Wrote.setRow W bv ((V.set n b).flatMap cB).toArray;have key:∀ {g:Nat} {o:Obj},g≠bv->W.heap[g]? =some o->(W.setRow bv ((V.set n b).flatMap cB).toArray).heap[g]? =some o:=fun hg hh=>by
  rw[hwr.2.2.2.2 _ hg];exact hh
 refine⟨⟨h.bB,h.ne,by rw[List.length_set];exact key h.ne.2.1 h'.hp,key h.ne.2.2 h'.hf,setRow_heap _ _ _ _ _ _ h'.hv,⟨h.hu.1,?_⟩,h.une,h.okF,?_,fun x hx=>by rw[List.length_set];exact h.okU x hx,by rw[List.length_set];exact h.len,by rw[List.length_set];exact h.max⟩,hwr⟩
 . rcases h'.hu.2 with h0| ⟨g,cap,cur,hv,hg,hh,r⟩
   . exact .inl h0
   . exact .inr ⟨g,cap,cur,hv,hg,key (fun e=>h.une.2.2 (by rw[hv,<- e];rfl)) hh,r⟩
 . intro x hx
   rcases List.mem_or_eq_of_mem_set hx with hx|rfl
   . exact h.okV x hx
   . exact hb
end
theorem DskAt.pushU{w:World}{B bp bf bv:Nat}{u:Value}{F V:List (List Int)}{U:List (Nat × List Int)}{fu dn:Bool}{le:Int}(h:DskAt w B bp bf bv u F V U fu le dn){W w3:World}(hw:Below w.heap.size w W)(hB:B<=w.heap.size)
 (hgrow:W.grownBy w3 u.ownBlock) (g cap:Nat) (x:Nat × List Int) (hx:x.1<V.length/\Blk x.2) (hown:w3.ownsRow B 155 257 (.slice (some ⟨g,0,none⟩) (U.length+1) cap) (U.length+1) (U.flatMap cU ++ cU x)) (hat:u.ownBlock=some g\/g=W.heap.size):
 DskAt (w3.setCell ⟨bp,2,none⟩ (.slice (some ⟨g,0,none⟩) (U.length+1) cap)) B bp bf bv (.slice (some ⟨g,0,none⟩) (U.length+1) cap) F V (U ++ [x]) fu le dn/\Below B w (w3.setCell ⟨bp,2,none⟩ (.slice (some ⟨g,0,none⟩) (U.length+1) cap)):=by
 have h':=h.below hw;have l1:=(Array.getElem?_eq_some_iff.1 h'.hp).1;have l2:=(Array.getElem?_eq_some_iff.1 h'.hf).1;have l3:=(Array.getElem?_eq_some_iff.1 h'.hv).1;have n1:=h.une;have key:∀ {k:Nat} {o:Obj},some k≠u.ownBlock->W.heap[k]? =some o->w3.heap[k]? =some o:=fun hk hh=>by
  rw[hgrow.block _ (Array.getElem?_eq_some_iff.1 hh).1 hk];exact hh
 have gne:g≠bp/\g≠bf/\g≠bv:=by
  rcases hat with hat|hat
  . rw[hat] at n1
    exact⟨fun e=>n1.1 (by rw[e]),fun e=>n1.2.1 (by rw[e]),fun e=>n1.2.2 (by rw[e])⟩
  . omega
 have hne:=h.ne;have oth:∀ {k:Nat},k≠bp->(w3.setCell ⟨bp,2,none⟩ (.slice (some ⟨g,0,none⟩) (U.length+1) cap)).heap[k]? =w3.heap[k]? :=fun hk=>heap_setCell_other _ _ _ _ hk
 have hfm:(U ++ [x]).flatMap cU=U.flatMap cU ++ cU x:=by simp
 have hln:(U ++ [x]).length=U.length+1:=by simp
 refine⟨⟨h.bB,h.ne,?_,?_,?_,?_,?_,h.okF,h.okV,?_,h.len,h.max⟩,?_⟩
 . have:=heap_setCell_same w3 bp 2 _ _ (.slice (some ⟨g,0,none⟩) (U.length+1) cap) (key (Ne.symm n1.1) h'.hp)
   simpa using this
 . rw[oth (Ne.symm hne.1)];exact key (Ne.symm n1.2.1) h'.hf
 . rw[oth (Ne.symm hne.2.1)];exact key (Ne.symm n1.2.2) h'.hv
 . rw[hfm,hln]
   refine⟨hown.1,?_⟩;rcases hown.2 with⟨h0,_⟩| ⟨g',cap',cur,hv,hg,hh,r⟩
   . simp at h0
   . simp only[Value.slice.injEq,Option.some.injEq,Addr.mk.injEq,and_true,true_and] at hv
     obtain⟨rfl,rfl⟩:=hv;exact .inr ⟨g,cap,cur,rfl,hg,by rw[oth gne.1];exact hh,r⟩
 . refine⟨fun e=>gne.1 (by simpa [Value.ownBlock] using e),fun e=>gne.2.1 (by simpa [Value.ownBlock] using e),fun e=>gne.2.2 (by simpa [Value.ownBlock] using e)⟩
 . intro y hy
   rcases List.mem_append.1 hy with hy|hy
   . exact h.okU y hy
   . obtain rfl:=List.mem_singleton.1 hy;exact hx
 . refine Below.setCell (((hw.mono hB)).grown hgrow (Nat.le_trans hB hw.size) fun k hk=>(h.hu.lt k hk).1) (by exact h.bB.1) _
attribute [-go_sem] Instr.build Instr.buildSlice loadCellsFrom
def stF(kp:Nat->Bool)(U:List (Nat × List Int))(F:List (List Int)):Nat->List (List Int)
 |0=>F
 |k+1=>if kp k then (stF kp U F k).set (U.getD k (0,[])).1 (U.getD k (0,[])).2 else stF kp U F k
def stV(U:List (Nat × List Int))(F1 V:List (List Int)):Nat->List (List Int)
 |0=>V
 |k+1=>(stV U F1 V k).set (U.getD k (0,[])).1 (F1.getD (U.getD k (0,[])).1 [])
theorem stF_length(kp:Nat->Bool)(U:List (Nat × List Int))(F:List (List Int)):∀ k,(stF kp U F k).length=F.length
 |0=>rfl
 |k+1=>by
  have:=stF_length kp U F k;unfold stF;split
  . rw[List.length_set,this]
  . exact this
theorem Zfw(U:List (Nat × List Int))(F1 V:List (List Int)):∀ k,(stV U F1 V k).length=V.length
 |0=>rfl
 |k+1=>by
  have:=Zfw U F1 V k;unfold stV;rw[List.length_set,this]
structure Frm (w W:World) (g1 g2:Nat):Prop where
 os:W.os=w.os
 tape:W.tape=w.tape
 output:W.output=w.output
 size:w.heap.size<=W.heap.size
 block:∀ k,k<w.heap.size->k≠g1->k≠g2->W.heap[k]? =w.heap[k]?
theorem Frm.refl(w:World)(g1 g2:Nat):Frm w w g1 g2:=⟨rfl,rfl,rfl,Nat.le_refl _,fun _ _ _ _=>rfl⟩
theorem Frm.below{w W:World}{g1 g2 B:Nat}(h:Frm w W g1 g2)(h1:B<=g1)(h2:B<=g2)(hB:B<=w.heap.size):Below B w W:=
 ⟨h.os,h.tape,h.output,h.size,fun k hk=>h.block k (by omega) (by omega) (by omega)⟩
theorem Frm.trans{a b c:World}{g1 g2:Nat}(h:Frm a b g1 g2)(k:Frm b c g1 g2):Frm a c g1 g2:=
 ⟨k.os.trans h.os,k.tape.trans h.tape,k.output.trans h.output,Nat.le_trans h.size k.size,fun i hi h1 h2=>(k.block i (Nat.lt_of_lt_of_le hi h.size) h1 h2).trans (h.block i hi h1 h2)⟩
theorem Frm.of_below{w W:World}{g1 g2:Nat}(h:Below w.heap.size w W):Frm w W g1 g2:=⟨h.os,h.tape,h.output,h.size,fun k hk _ _=>h.block k hk⟩
theorem Frm.of_wrote{w W:World}{g1 g2:Nat}(h:Wrote w W g1):Frm w W g1 g2:=⟨h.1,h.2.1,h.2.2.1,Nat.le_of_eq h.2.2.2.1.symm,fun k _ h1 _=>h.2.2.2.2 k h1⟩
theorem Frm.of_wrote2{w W:World}{g1 g2:Nat}(h:Wrote w W g2):Frm w W g1 g2:=⟨h.1,h.2.1,h.2.2.1,Nat.le_of_eq h.2.2.2.1.symm,fun k _ _ h2=>h.2.2.2.2 k h2⟩
structure Fr3 (w W:World) (g1 g2 g3:Nat):Prop where
 os:W.os=w.os
 tape:W.tape=w.tape
 output:W.output=w.output
 size:w.heap.size<=W.heap.size
 block:∀ k,k<w.heap.size->k≠g1->k≠g2->k≠g3->W.heap[k]? =w.heap[k]?
theorem Fr3.set{w W:World}{g2 g3:Nat}(h:Frm w W g2 g3)(g1 i:Nat)(x:Value):Fr3 w (W.setCell ⟨g1,i,none⟩ x) g1 g2 g3:=
 ⟨h.os,h.tape,h.output,by simp[World.setCell];exact h.size,fun k hk h1 h2 h3=>by rw[heap_setCell_other _ _ _ _ h1];exact h.block k hk h2 h3⟩
section
variable {w:World}{B bp bf bv:Nat}{u:Value}{F V:List (List Int)}{U:List (Nat × List Int)}{fu dn:Bool}{le:Int}
theorem DskAt.setF(h:DskAt w B bp bf bv u F V U fu le dn){W:World}(hw:Below w.heap.size w W)(n:Nat)(hn:n<F.length)(b:List Int)(hb:Blk b):
 DskAt (W.setCells bf (n*256) (cB b)) B bp bf bv u (F.set n b) V U fu le dn/\Wrote W (W.setCells bf (n*256) (cB b)) bf:=by
 have h':=h.below hw;have hl:=Zau b;have hfl:=Zaw (Zcc h.okF);have e:=Zbx (vs:=cB b) h'.hf (o:=n*256) (by rw[hl,hb.1,hfl];omega) (Zhj b);rw[Zio (Zcc h.okF) n hn b (by rw[hl,hb.1])] at e;rw[e];have hwr:=Wrote.setRow W bf ((F.set n b).flatMap cB).toArray;have key:∀ {g:Nat} {o:Obj},g≠bf->W.heap[g]? =some o->(W.setRow bf ((F.set n b).flatMap cB).toArray).heap[g]? =some o:=fun hg hh=>by
  rw[hwr.2.2.2.2 _ hg];exact hh
 refine⟨⟨h.bB,h.ne,by rw[List.length_set];exact key h.ne.1 h'.hp,setRow_heap _ _ _ _ _ _ h'.hf,key (Ne.symm h.ne.2.2) h'.hv,⟨h.hu.1,?_⟩,h.une,?_,h.okV,h.okU,by rw[List.length_set];exact h.len,h.max⟩,hwr⟩
 . rcases h'.hu.2 with h0| ⟨g,cap,cur,hv,hg,hh,r⟩
   . exact .inl h0
   . exact .inr ⟨g,cap,cur,hv,hg,key (fun e=>h.une.2.1 (by rw[hv,<- e];rfl)) hh,r⟩
 . intro x hx
   rcases List.mem_or_eq_of_mem_set hx with hx|rfl
   . exact h.okF x hx
   . exact hb
theorem DskAt.noU(h:DskAt w B bp bf bv u F V U fu le dn):DskAt (w.setCell ⟨bp,2,none⟩ (.slice none 0 0)) B bp bf bv (.slice none 0 0) F V [] fu le dn:=by
 have oth:∀ {k:Nat},k≠bp->(w.setCell ⟨bp,2,none⟩ (.slice none 0 0)).heap[k]? =w.heap[k]? :=fun hk=>heap_setCell_other _ _ _ _ hk
 refine⟨h.bB,h.ne,?_,?_,?_,⟨rfl,.inl ⟨rfl,rfl⟩⟩,⟨by simp[Value.ownBlock],by simp[Value.ownBlock],by simp[Value.ownBlock]⟩,h.okF,h.okV,fun x hx=>by simp at hx,h.len,h.max⟩
 . have:=heap_setCell_same w bp 2 _ _ (.slice none 0 0) h.hp
   simpa using this
 . rw[oth (Ne.symm h.ne.1)];exact h.hf
 . rw[oth (Ne.symm h.ne.2.1)];exact h.hv
theorem DskAt.rangeU(h:DskAt w B bp bf bv u F V U fu le dn)(i:Nat)(hi:i<U.length):∃ g cap,u=.slice (some ⟨g,0,none⟩) U.length cap/\g<w.heap.size/\w.rangeAt g (i*257) (cU U[i]):=by
 have hfl:=Zaw (flatU_len fun x hx=>(h.okU x hx).2);rcases h.hu.2 with⟨_,h0⟩| ⟨g,cap,cur,hv,hg,hh,h1,h2,h3,h4⟩
 . omega
 . have hc:=cU_length U[i]
   have hb:=(h.okU U[i] (List.getElem_mem _)).2.1;have hu:=Zfj (flatU_len fun x hx=>(h.okU x hx).2) i hi;refine⟨g,cap,hv,(Array.getElem?_eq_some_iff.1 hh).1,Zca (cur:=cur.toList) (by simpa using hh) ?_⟩;rw[hc,hb,<- h4,List.drop_take,List.take_take] at*
   rw[<- hu];congr 1;have:(i+1)*257<=U.length*257:=Nat.mul_le_mul_right _ hi;rw[Nat.succ_mul] at this;omega
end
theorem sizeW:(Tryz.prog.info? 155).map (·.size)=some 257:=by kernel_rfl
theorem Zgs(w:World){ops:Array Oper}{rest:List Oper}{o:Oper}{a:Act}{Q:Exit->Act->World->Prop}(hg:o.guard=none)(hop:o.op=Op.alloc 155)
 (hK:wpList Tryz.prog ops Q rest (a.put o.dst (.pointer (some ⟨w.heap.size,0,none⟩))) (w.alloc (.cells (Value.int .i64 0 :: zB).toArray 155))):wpList Tryz.prog ops Q (o :: rest) a w:=by
 refine wpList_plain hg fun K hK'=>?_
 have hz:=(zero_of_info (v:=.agg (Value.int .i64 0 :: zB).toArray) (n:=257) (t:=155) (P:=Tryz.prog) (by
  obtain⟨i,h2,h3,h4,h5⟩:=info_parts infoW;simp[h2,h3,h4])).1 w
 unfold Oper.wp execOp;simp only[hop,Instr.alloc,newVar,newRow,Sem.run_bind,hz,Result.andThen_ok,Value.cells];exact hK' _ _ hK
theorem Zhp(w:World){ops:Array Oper}{rest:List Oper}{o:Oper}{a:Act}{Q:Exit->Act->World->Prop}(hg:o.guard=none)(x:Operand)(hop:o.op=Op.load 155 x)
 (g off:Nat) (cells:List Value) (hx:a.eval x=.pointer (some ⟨g,off,none⟩)) (hr:w.rangeAt g off cells) (hc:cells.length=257)
 (hK:wpList Tryz.prog ops Q rest (a.put o.dst (.agg cells.toArray)) w):wpList Tryz.prog ops Q (o :: rest) a w:=
 wpList_load_mid hg 155 x hop g off hx cells _ hr Tryz.underlying155 rfl (by rw[sizeW,hc]) hK
theorem Zgr(w:World){ops:Array Oper}{rest:List Oper}{o:Oper}{a:Act}{Q:Exit->Act->World->Prop}(hg:o.guard=none)(x y:Operand)(hop:o.op=Op.store 155 x y)
 (g:Nat) (t:TypeId) (old cells:List Value) (hx:a.eval x=.pointer (some ⟨g,0,none⟩)) (hy:a.eval y=.agg cells.toArray) (hh:w.heap[g]? =some (.cells old.toArray t (0,0))) (ho:old.length=257) (hc:cells.length=257) (h1:∀ v∈cells,v.oneCell'=true)
 (hK:wpList Tryz.prog ops Q rest (a.put o.dst undef) (w.setRow g cells.toArray)):wpList Tryz.prog ops Q (o :: rest) a w:=
 wpList_store_row hg 155 x y hop g cells.toArray hx hy t old.toArray hh (by rw[sizeW];simp[hc]) (by simp[ho,hc]) (all_oneCell_toArray h1) hK
end Go.Proofs.YtedabomlfcghoaaGreat
