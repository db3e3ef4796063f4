/- What the law rests on: part 28. -/
import Derived.Test.YtedabomlfcghoaaGreatKG27
set_option linter.unusedVariables false
namespace Go.Proofs.YtedabomlfcghoaaGreat
set_option maxRecDepth 100000
open Go.RowKit BM
theorem rst_new{w0 w w':World}{P:Nat->Prop}{d p:Value}{X:XSt}{kk bf:Nat}{v:Value}{L:List (Nat × Nat)}(hf:Fsd w0 w P d p X (newS kk) (N14 2) (newO kk) kk F14 bf)(h1:1<=kk)(h4:kk<5)(hn:NL w' w.heap.size v L)(hL:L.length=4)(hb:Below w.heap.size w w'):
 ∃ g cap,v=.slice (some ⟨g,0,none⟩) 4 cap/\Rst w0 d p kk bf g 2 3 w':=by
 match L,hL with
 |[x0,x1,x2,x3],_=>
  have hinc:=hn.inc;obtain⟨i1,i2,i3⟩:=hn.nd x2 (by simp);obtain⟨j1,j2,j3⟩:=hn.nd x3 (by simp);have hne:x2.1≠x3.1/\x2.2≠x3.2:=by
   simp at hinc;exact hinc.2.2
  rcases hn.own.2 with⟨_,hl⟩| ⟨g,cap,cur,hv,hg,hh,hnc,hcm,hcs,ht⟩
  . exact absurd hl (by simp)
  have hcell:∀ k,k<4->cur[k]? =([pvN x0,pvN x1,pvN x2,pvN x3]:List Value)[k]? :=fun k hk=>by
   rw[show([pvN x0,pvN x1,pvN x2,pvN x3]:List Value)=[x0,x1,x2,x3].map pvN from rfl,<- ht,List.getElem?_take,if_pos (by simpa using hk)];exact(Array.getElem?_toList).symm
  have hlt:=hf.inv.lt;have hbf:=(Array.getElem?_eq_some_iff.1 hf.fs).1;have hbe:=hf.be.size;have gx:∀ {x:Nat × Nat},NodeB w' x.1 x.2 0 (fun _=>none)->g≠x.1/\g≠x.2:=fun {x} hx=>by
   refine⟨fun e=>?_,fun e=>?_⟩
   . obtain⟨ao,c,hr⟩:=hx.row
     rw[<- e,hh] at hr;simp at hr
   . obtain⟨KK,gg,hm,_⟩:=hx.map
     exact hm.not_cells hh e.symm
  have mx:∀ {x y:Nat × Nat},NodeB w' x.1 x.2 0 (fun _=>none)->NodeB w' y.1 y.2 0 (fun _=>none)->x.1≠y.2:=fun {x y} hx hy e=>by
   obtain⟨ao,c,hr⟩:=hx.row;obtain⟨KK,gg,hm,_⟩:=hy.map;exact hm.not_cells hr e.symm
  refine⟨g,cap,hv,P,x2.1,x2.2,0,fun _=>none,x3.1,x3.2,0,fun _=>none,(hf.rest h1 h4).low hb,⟨i3,j3,?_,?_,(Array.getElem?_eq_some_iff.1 hh).1,hne.1,mx i3 j3,fun e=>mx j3 i3 e.symm,hne.2,(gx i3).1,(gx i3).2,(gx j3).1,(gx j3).2⟩,fun x hx=>?_,fun x o e=>by cases e⟩
  . rw[cell_of_row _ _ _ _ _ _ hh,hcell 2 (by decide)];rfl
  . rw[cell_of_row _ _ _ _ _ _ hh,hcell 3 (by decide)];rfl
  . have hx2:w.heap.size<=x:=by
     rcases hx with rfl|rfl|rfl|rfl|rfl
     . exact i1
     . exact i2
     . exact j1
     . exact j2
     . exact hg
    exact⟨by omega,fun hp=>by have:=hlt x hp;omega,by omega⟩
structure VwF (w:World) (bf g i:Nat) (D x:List Int) (b sz:Nat):Prop where
 len:x.length=14
 z:num x 2=(sz:Int)
 at_:∀ V,Below w.heap.size w V->V.cell? ⟨g,i,none⟩=some (.pointer (some ⟨b,0,none⟩))/\V.cell? ⟨b,2,none⟩=some (.int .i64 sz)
 a:∀ V,Below w.heap.size w V->Calls Tryz.prog 15 #[.pointer (some ⟨bf,0,none⟩),.int .i64 i,.int .i64 0,.int .i64 40000] V fun e w'=>∃ v,e=.returned (.tuple #[v,.int .i64 0])/\BSl w' v D/\Below V.heap.size V w'
 b:∀ V,Below w.heap.size w V->Calls Tryz.prog 16 #[.pointer (some ⟨b,0,none⟩),.int .i64 0,.int .i64 40000] V fun e w'=>∃ v,e=.returned (.tuple #[v,.int .i64 0])/\BSl w' v D/\Below V.heap.size V w'
 get:∀ V,Below w.heap.size w V->Calls Tryz.prog 17 #[.pointer (some ⟨bf,0,none⟩),.int .i64 i] V fun e w'=>e=.returned (.tuple #[.agg (iC x).toArray,.int .i64 0])/\Below V.heap.size V w'
section
variable {w0 w:World}{d p:Value}{kk bf g n bn bp sz m bm bpm sm:Nat}{M Mm:Nat->Option (List Int)}{P:Nat->Prop}{K:Nat->Option Obj}
theorem Sd.view(h:Sd w0 bf (RestF w0 d p kk bf n sz M m sm Mm) K P g n bn bp sz M m bm bpm sm Mm w)(h1:1<=n)(h48:n<48):∃ D x b sz,VwF w bf g n D x b sz:=by
 obtain⟨X,N,O,F,hr,ft⟩:=h.ph.rd;have hl:∀ V,Below w.heap.size w V->Sd w0 bf (RestF w0 d p kk bf n sz M m sm Mm) K P g n bn bp sz M m bm bpm sm Mm V:=fun V hV=>h.low (Zjm ..) hV
 exact⟨rdB M 0 (min 40000 (sz-0)),N.getD n [],bn,sz,hr.tab.n.get h48,ft.zs,fun V hV=>⟨(hl V hV).nd.cn,(hl V hV).nd.a.c2⟩,
  fun V hV=>(flRead_of (hr.low hV) ft h1 h48 (a:=0) (m:=40000) (by omega) (by omega)).mono fun e w' ⟨v,he,ho,hb⟩=>⟨v,he,ho.bsl,hb⟩,
  fun V hV=>(nRead15_of (hl V hV).nd.a (a:=0) (m:=40000) (by omega) (by omega)).mono fun e w' ⟨v,he,ho,hb⟩=>⟨v,he,ho.bsl,hb⟩,
  fun V hV=>Zki (W:=V) hr.inv hr.fs hr.tab h1 h48 hV⟩
theorem Rst.view(h:Rst w0 d p kk bf g 2 3 w){i:Nat}(h2:2<=i)(h3:i<=3):∃ D x b sz,VwF w bf g i D x b sz:=by
 by_cases c:i=2
 . subst c
   obtain⟨P,bn,bp,sz,M,bm,bpm,sm,Mm,h⟩:=h;exact h.view (by decide) (by decide)
 . obtain rfl:i=3:=by omega
   obtain⟨P,bn,bp,sz,M,bm,bpm,sm,Mm,h⟩:=h.swap;exact h.view (by decide) (by decide)
theorem Rst.used(h:Rst w0 d p kk bf g 2 3 w)(h1:1<=kk):∃ q2 q3 u2 u3:Nat,u2<=139/\u3<=139/\(Calls Tryz.prog 13 #[p,.int .i64 (64*(kk:Int))] w fun e w'=>e=.returned (.tuple #[.int .i64 ((6+u2+u3:Nat):Int),.int .i64 0])/\Below w.heap.size w w')/\
 ∀ V,Below w.heap.size w V->V.cell? ⟨g,2,none⟩=some (.pointer (some ⟨q2,0,none⟩))/\V.cell? ⟨g,3,none⟩=some (.pointer (some ⟨q3,0,none⟩))/\(∀ k,Calls Tryz.prog 14 #[.pointer (some ⟨q2,0,none⟩)] (V.drewN k) fun e w'=>e=.returned (.int .i64 (u2:Nat))/\V.drewN k=w')/\(∀ k,Calls Tryz.prog 14 #[.pointer (some ⟨q3,0,none⟩)] (V.drewN k) fun e w'=>e=.returned (.int .i64 (u3:Nat))/\V.drewN k=w'):=by
 obtain⟨P,bn,bp,sz,M,bm,bpm,sm,Mm,h⟩:=h;refine⟨bn,bm,Zar M,Zar Mm,Zfu _,Zfu _,?_,fun V hV=>?_⟩
 . obtain⟨X,N,O,F,a,c1,c2,c3⟩:=h.ph
   have hc:X.cur=X.is:=by unfold XSt.cur;rw[a.wi];rfl
   have:=spUsed_yes a.inv (by rw[hc];exact a.pl.has) a.pl.ok (m:=kk) h1 (Nat.le_refl _);rw[c3.1] at this;exact this
 . have hl:=(h.low (Zjm ..) hV).nd
   exact⟨hl.cn,hl.cm,fun k=>Zgc (hl.a.keep rfl rfl),fun k=>Zgc (hl.b.keep rfl rfl)⟩
theorem Rst.be(h:Rst w0 d p kk bf g 2 3 w):Below w0.heap.size w0 w/\FsAt w bf p:=by
 obtain⟨P,bn,bp,sz,M,bm,bpm,sm,Mm,h⟩:=h;exact⟨h.ph.be,h.ph.fs⟩
theorem Rst.low(h:Rst w0 d p kk bf g n m w){V:World}(hb:Below w.heap.size w V):Rst w0 d p kk bf g n m V:=by
 obtain⟨P,bn,bp,sz,M,bm,bpm,sm,Mm,h⟩:=h;exact⟨P,bn,bp,sz,M,bm,bpm,sm,Mm,h.low (Zjm ..) hb⟩
end
end Go.Proofs.YtedabomlfcghoaaGreat
namespace Go.Proofs.YtedabomlfcghoaaGreat
set_option maxRecDepth 100000
open Go.RowKit BM
set_option maxHeartbeats 4000000 in
theorem flPlays_other{w:World}{v:Value}{gr:Int}(hgr:0<=gr/\gr<=255){S:List O15}(hs:OpsB w v S)(hl:∀ j,(S.getD j default).b.length<=200000000000000):
 Calls Tryz.prog 3 #[.int .u8 gr,v] w fun e w'=>e=.returned (.bool true)/\Below w.heap.size w w':=by
 have KA:=hid awake15_any;have KF:=hid (fun V (hV:Below w.heap.size w V)=>few15_of (w:=V) (v:=v) (S:=S) (by
  rcases hs with h| ⟨b,off,cap,hv,hc⟩
  . exact .inl h
  . refine .inr ⟨b,off,cap,hv,fun i hi=>?_⟩
    obtain⟨u,hu⟩:=hc i hi;exact⟨u,Nat.lt_of_lt_of_le hu.lt hV.size,fun j y hj=>by rw[hV.cell (p:=⟨b,off+i*5+j,none⟩) hu.lt];exact hu.c j y hj,hu.bs.below hV,hu.n,hu.i,hu.v⟩) hl)
 obtain⟨r,hr⟩:∃ r:Nat,(r:Int)=gr%4:=⟨(gr%4).toNat,by omega⟩;have hr4:r<4:=by omega
 have ht:gr.tmod 4=r:=by rw[Int.tmod_eq_emod_of_nonneg hgr.1];exact hr.symm
 have hr1:(r:Int)<4:=by omega
 obtain⟨kk,hkk⟩:∃ kk,kk=r+1:=⟨_,rfl⟩;have h64:64*(kk:Int)=64*(1+(r:Int)):=by rw[hkk];push_cast;omega
 have HKK:Hid (1<=kk/\kk<5):=hid (by omega);have KM:Hid (∀ V:World,Below w.heap.size w V->Calls Tryz.prog 9 #[.int .i64 (64*(1+(r:Int)))] V fun e w'=>∃ bf b P d X,e=.returned (.pointer (some ⟨bf,0,none⟩))/\Fsd w w' P d (.pointer (some ⟨b,0,none⟩)) X (newS kk) (N14 2) (newO kk) kk F14 bf):=hid fun V hb=>by
  have:=made15_of (kk:=kk) (by omega) (by omega) w hb;rw[h64] at this;exact this
 obtain⟨ao,L,cap,rfl,hL,hcell⟩:∃ ao L cap,v=.slice ao L cap/\L=S.length/\(0<L->∃ b off,ao=some ⟨b,off,none⟩/\∀ i,i<L->∃ u,Op15At w b (off+i*5) u (S.getD i default)):=by
  rcases hs with⟨a,c,rfl,rfl⟩| ⟨b,off,cap,rfl,hc⟩
  . exact⟨_,_,_,rfl,rfl,fun h=>absurd h (by decide)⟩
  . exact⟨_,_,_,rfl,rfl,fun _=>⟨b,off,rfl,fun i hi=>hc i hi⟩⟩
 have HC:=hid hcell;have HL:=hid hL;have HLIM:Hid (romI (64*(1+(r:Int)))=62*(kk:Int)-48):=hid (by
  have hf:frmB (64*(1+(r:Int)))=true:=by rw[<- h64];exact frm_mk kk (by omega) (by omega)
  unfold romI;rw[if_pos hf];omega)
 have HK64:=hid h64;have KRM:Hid (∀ V:World,Calls Tryz.prog 12 #[.int .i64 (64*(1+(r:Int)))] V fun e w'=>e=.returned (.int .i64 (romI (64*(1+(r:Int)))))/\w'=V):=hid fun V=>(rRoom_any _ (by omega) V).mono fun e w' ⟨he,h⟩=>⟨he,h.symm⟩
 clear hs hl hgr hr hkk h64 hL hcell hr4;go_enter Tryz.func3,Tryz.ntmps3
 go_upto_region 4 with(first
  |(go_at_call 8;refine(KF.out _ hb2).mono ?_;rintro e w3 ⟨bw,rfl,rfl,hfew⟩;have HFW:=hid hfew;clear hfew;cases bw)
  |(go_at_call 7;(with_reducible refine(KA.out w).mono ?_);rintro e w2 ⟨rfl,hb2⟩)
  |(go_at_call 7;refine(KA.out _).mono ?_;rintro e w4 ⟨rfl,hb4⟩))
 . go_ret
   exact⟨rfl,hb2.trans (hb4.mono hb2.size)⟩
 . have HF:=hid (show S.length<=60/\∀ j,j<S.length->(S.getD j default).b.length<=40000 from by first|exact HFW.out rfl|exact HFW.out trivial|exact HFW.out)
   clear HFW KF
   go_wp2_with (first
    |(go_at_call 9;refine(KM.out _ hb2).mono ?_;rintro e w4 ⟨bf,b,P,d,X,rfl,hf4⟩;have KN:=hid (nodes15_of w4))
    |(go_at_call 10;refine KN.out.mono ?_;rintro e w5 ⟨v5,L5,rfl,hn5,hl5,hb5⟩;obtain⟨g,gc,rfl,hR⟩:=rst_new hf4 HKK.out.1 HKK.out.2 hn5 hl5 hb5;have HR5:=hid hR))
   clear hf4 hn5 hl5 hb5 hR KN KM hb2;go_loopw [38] (fun t WI=>∃ c:Nat,c<=L/\t=.int .i64 c/\Hid (Rst w d (.pointer (some ⟨b,0,none⟩)) kk bf g 2 3 WI)) (fun t _=>L-(intOf t).toNat)
   case atStart=>exact⟨0,Nat.zero_le _,rfl,HR5⟩
   case round=>
    obtain⟨c,hc,rfl,HS⟩:=hrel;clear HR5;by_cases hcl:c<L
    . obtain⟨bs,off,rfl,hcells⟩:=HC.out (by omega)
      obtain⟨u,hop⟩:=hcells c hcl;have ecl:(c:Int)<(L:Int):=by omega
      have hbe:=HS.out.be.1;have y0:=(hbe.cell (p:=⟨bs,off+c*5,none⟩) hop.lt).trans (hop.c 0 _ rfl);have y1:=(hbe.cell (p:=⟨bs,off+c*5+1,none⟩) hop.lt).trans (hop.c 1 _ rfl);have y2:=(hbe.cell (p:=⟨bs,off+c*5+2,none⟩) hop.lt).trans (hop.c 2 _ rfl);have y3:=(hbe.cell (p:=⟨bs,off+c*5+3,none⟩) hop.lt).trans (hop.c 3 _ rfl);have y4:=(hbe.cell (p:=⟨bs,off+c*5+4,none⟩) hop.lt).trans (hop.c 4 _ rfl);have hlen:=HF.out.2 c (by have:=HL.out;omega);have KD:=hid (fun V (hV:Rst w d (.pointer (some ⟨b,0,none⟩)) kk bf g 2 3 V)=>do15_any (gc:=gc) (lim:=romI (64*(1+(r:Int)))) HKK.out.2 (S.getD c default) hop.bs (by omega) hop.i hop.v HLIM.out hV);generalize S.getD c default=o at*
      obtain⟨o1,o2,o3,o4,o5⟩:=o;obtain⟨lim,hrm⟩:∃ lim,romI (64*(1+(r:Int)))=lim:=⟨_,rfl⟩;rw[hrm] at KD;clear hop hcells hbe hlen;have HCL:Hid (c<L):=hid hcl;obtain⟨c1,hc1⟩:∃ c1,c1=c+1:=⟨_,rfl⟩;have q1:IntKind.i64.wrap ((c:Int)+1)=(c1:Int):=by rw[IntWalk.i64_in _ (by have:=HF.out.1;have:=HL.out;omega)];omega
      have HC1:=hid hc1;clear hc1;clear hcl;go_upto_region 10 with(fail)
      refine wp_region_still_tail 8 (by kernel_rfl) (by kernel_rfl) ?_;simp only[List.take_succ_cons,List.take_zero,List.drop_succ_cons,List.drop_zero]
      repeat still_step
      still_call (KRM.out _)
      repeat still_step
      refine wpStill_nil ?_;rw[hrm];change wpList _ _ _ _ _ wr.drew;have KD2:=hid (KD.out wr.drew (HS.out.low (Zab (Below.refl _ _) 1)));clear y0 y1 y2 y3 y4 HS KD KRM;go_wp2_with (go_at_call 11;(with_reducible refine KD2.out.mono ?_);rintro e w6 ⟨rfl,h6⟩)
      have HS6:=hid h6;clear h6;go_roundw
      case rel=>exact⟨c1,by rw[HC1.out];exact HCL.out,rfl,HS6⟩
      case measure=>have:=HCL.out;have:=HC1.out;clear q1;simp[intOf];omega
    . obtain rfl:c=L:=by omega
      have ecl:¬ (c:Int)<(c:Int):=by omega
      have hu:=HS.out.used HKK.out.1;obtain⟨q2,q3,u2,u3,ul2,ul3,hus,huv⟩:=hu;have cf:=HS.out.be.2.cell;rw[HK64.out] at hus;have KU:=hid hus;have HUV:=hid huv;obtain⟨t1,ht1⟩:∃ t1,t1=6+u2:=⟨_,rfl⟩;obtain⟨t2,ht2⟩:∃ t2,t2=6+u2+u3:=⟨_,rfl⟩;have e1:IntKind.i64.wrap (6+(u2:Int))=(t1:Int):=by rw[IntWalk.i64_in _ (by omega)];omega
      have e2:IntKind.i64.wrap ((t1:Int)+(u3:Int))=(t2:Int):=by rw[IntWalk.i64_in _ (by omega)];omega
      rw[<- ht2] at KU;clear hus huv ul2 ul3 ht1 ht2 HC HL HF KRM hc hcl;go_upto_region 14 with(go_at_call 13;(with_reducible refine KU.out.mono ?_);rintro e w6 ⟨rfl,hb6⟩;obtain⟨g2,g3,k2,k3⟩:=HUV.out _ hb6;have K2:=hid k2;have K3:=hid k3;have HR6:=hid (HS.out.low hb6);clear k2 k3 hb6)
      clear HUV HS KU cf;go_quiet ((go_at_call 14;first|(with_reducible refine Zai (K2.out _))|(with_reducible refine Zai (K3.out _))))
      have HR7:Hid (Rst w d (.pointer (some ⟨b,0,none⟩)) kk bf g 2 3 (w6.drewN nq)):=hid (HR6.out.low (Zab (Below.refl _ _) nq));clear HR6 K2 K3 g2 g3;generalize w6.drewN nq=w7 at*
      go_wp2;clear e1 e2;go_loopw [11] (fun t WI=>∃ i:Nat,2<=i/\i<=4/\t=.int .i64 i/\Hid (Rst w d (.pointer (some ⟨b,0,none⟩)) kk bf g 2 3 WI)) (fun t _=>4-(intOf t).toNat)
      case atStart=>exact⟨2,by omega,by omega,rfl,HR7⟩
      case round=>
       obtain⟨i,hi2,hi4,rfl,HS⟩:=hrel;clear HR7;by_cases hi3:i<=3
       . obtain⟨D,x,nb,sz,hvw⟩:=HS.out.view hi2 hi3
         have HVW:=hid hvw;have ei:(i:Int)<=3:=by omega
         have ei4:(i:Int)<4:=by omega
         have ei5:i<4:=by omega
         obtain⟨i1,hi1⟩:∃ i1,i1=i+1:=⟨_,rfl⟩;have q1:IntKind.i64.wrap ((i:Int)+1)=(i1:Int):=by rw[IntWalk.i64_in _ (by omega)];omega
         have HI:Hid (2<=i1/\i1<=4/\i1=i+1/\i<=3):=hid (by omega);have K1:=hid (hvw.a _ (Below.refl _ _));have hz:=hvw.z;obtain⟨kd,ln,sz',d0,d1,d2,d3,d4,d5,d6,d7,d8,d9,mp,rfl⟩:=Zgg hvw.len;have hsz:sz'=(sz:Int):=hz;subst hsz;clear hvw hz hi1 hi2 hi4 hi3
         go_upto_region 22 with(first
          |(go_at_call 15;(with_reducible refine K1.out.mono ?_);rintro e w8 ⟨v1,rfl,hv1,hb8⟩;have cn8:=(HVW.out.at_ _ hb8).1;have K2:=hid (HVW.out.b _ hb8))
          |(go_at_call 16;(with_reducible refine K2.out.mono ?_);rintro e w9 ⟨v2,rfl,hv2,hb9⟩;have hb9':=hb8.trans (hb9.mono hb8.size);have K3:=hid (HVW.out.get _ hb9'))
          |(go_at_call 17;(with_reducible refine K3.out.mono ?_);rintro e w10 ⟨rfl,hb10⟩;have hb10':=hb9'.trans (hb10.mono hb9'.size);have hr3:(w10.alloc (.cells #[.int .i64 0,.int .i64 0,.int .i64 0,.int .i64 0,.int .i64 0,.int .i64 0,.int .i64 0,.int .i64 0,.int .i64 0,.int .i64 0,.int .i64 0,.int .i64 0,.int .i64 0,.int .i64 0] 47)).heap[w10.heap.size]? =some (iO zeroI 47):=heap_alloc_new w10 _;have hb11:Below w10.heap.size w10 (w10.alloc (.cells #[.int .i64 0,.int .i64 0,.int .i64 0,.int .i64 0,.int .i64 0,.int .i64 0,.int .i64 0,.int .i64 0,.int .i64 0,.int .i64 0,.int .i64 0,.int .i64 0,.int .i64 0,.int .i64 0] 47)):=Zaa w10 _)
          |(with_reducible refine Zch rfl (.tmp 16) (.tmp 99) rfl w10.heap.size rfl [kd,ln,sz,d0,d1,d2,d3,d4,d5,d6,d7,d8,d9,mp] zeroI rfl rfl rfl _ hr3 ?_;intro w12 hw12 hr12))
         have hb12:Below wr.heap.size wr w12:=(hb10'.trans (hb11.mono hb10'.size)).trans (hw12.below hb10'.size);have hb12':Below w9.heap.size w9 w12:=(hb10.trans (hb11.mono hb10.size)).trans (hw12.below hb10.size);obtain⟨cn12,cz12⟩:=HVW.out.at_ _ hb12;have cx12:w12.cell? ⟨w10.heap.size,2,none⟩=some (.int .i64 sz):=by rw[cell_of_row _ _ _ _ _ _ hr12];rfl
         have hcv1:∀ n,(convert 30 9 v1).run Tryz.prog (w12.drewN n)=.ok (.string (strOfNums D)) (w12.drewN n):=fun n=>Zfl (((hv1.below hb9).below hb12').drewN n)
         have hcv2:∀ n,(convert 30 9 v2).run Tryz.prog (w12.drewN n)=.ok (.string (strOfNums D)) (w12.drewN n):=fun n=>Zfl ((hv2.below hb12').drewN n)
         have HR12:=hid (HS.out.low hb12);generalize strOfNums D=T at hcv1 hcv2;generalize w10.heap.size=xb at*
         clear hb12 hb12' hv1 hv2 hb8 hb9 hb9' hb10 hb10' hb11 hw12 hr12 hr3 HVW HS K1 K2 K3 cn8;go_quiet (fail)
         have HR13:Hid (Rst w d (.pointer (some ⟨b,0,none⟩)) kk bf g 2 3 (w12.drewN nq)):=hid (HR12.out.low (Zab (Below.refl _ _) nq));clear hcv1 hcv2 HR12;go_wp2;go_roundw
         case rel=>exact⟨i1,HI.out.1,HI.out.2.1,rfl,HR13⟩
         case measure=>have:=HI.out;clear q1;simp[intOf];omega
       . obtain rfl:i=4:=by omega
         have hbe:=HS.out.be.1;go_wp2;go_ret;exact⟨rfl,hbe⟩
end Go.Proofs.YtedabomlfcghoaaGreat
