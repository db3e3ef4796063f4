/- What the law rests on: part 17. -/
import Derived.Test.YtedabomlfcghoaaGreatKG16
set_option linter.unusedVariables false
namespace Go.Proofs.YtedabomlfcghoaaGreat
set_option maxRecDepth 100000
open Go.RowKit
def tabJ(k:Nat)(j:Nat):Int × Int:=if fixB (j:Int)=true then (65535,0) else if 43<=j/\j<49/\j<k then (65534,(j:Int)-43) else (0,0)
def tabN(k L:Nat):List (Int × Int):=(List.range L).map (tabJ k)
def newO(K:Nat):List (Int × Int):=tabN (64*K) (64*K)
theorem Zas(k L:Nat):(tabN k L).length=L:=by simp[tabN]
theorem Zdz(k L j:Nat)(h:j<L):(tabN k L).getD j (0,0)=tabJ k j:=by simp[tabN,List.getD_eq_getElem?_getD,h]
theorem tabN_fresh(g:Nat):tabN 0 (64*(g+1))=tabN 0 (64*g) ++ Zez (g:Int) 64:=by
 apply List.ext_getElem (by simp[tabN,Zhb];omega);intro i h1 h2;rw[Zas] at h1;rw[List.getElem_append];split
 . simp[tabN]
 . next h=>
   rw[Zas] at h;simp only[tabN,Zez,List.getElem_map,List.getElem_range,List.length_map,List.length_range];unfold tabJ freshJ;have e:64*(g:Int)+((i-64*g:Nat):Int)=(i:Int):=by omega
   rw[e];cases fixB (i:Int) <;> simp
theorem fix_tab{j:Nat}:(j<43->fixB (j:Int)=true)/\(43<=j->j<49->fixB (j:Int)=false):=by
 unfold fixB;exact⟨fun h=>decide_eq_true (by omega),fun h1 h2=>decide_eq_false (by omega)⟩
theorem tabN_set(k L:Nat)(h1:43<=k)(h2:k<49):(tabN k L).set k (65534,(k:Int)-43)=tabN (k+1) L:=by
 apply List.ext_getElem (by simp[tabN]);intro i h3 h4;simp only[tabN,List.getElem_set,List.getElem_map,List.getElem_range];unfold tabJ;have hf:=(fix_tab (j:=k)).2 h1 h2;by_cases e:k=i
 . subst e;rw[if_pos rfl,hf];simp;omega
 . rw[if_neg e]
   by_cases hi:fixB (i:Int)=true
   . rw[if_pos hi,if_pos hi]
   . rw[if_neg hi,if_neg hi]
     by_cases hc:43<=i/\i<49/\i<k
     . rw[if_pos hc,if_pos (by omega)]
     . rw[if_neg hc,if_neg (by omega)]
theorem tabN_same(k L:Nat)(h:k<43\/49<=k):tabN k L=tabN (k+1) L:=by
 unfold tabN;apply List.map_congr_left;intro i _;unfold tabJ;by_cases hi:fixB (i:Int)=true
 . rw[if_pos hi,if_pos hi]
 . rw[if_neg hi,if_neg hi]
   by_cases hc:43<=i/\i<49/\i<k
   . rw[if_pos hc,if_pos (by omega)]
   . rw[if_neg hc,if_neg (by omega)]
theorem tabJ_bd(k j:Nat):(0<=(tabJ k j).1/\(tabJ k j).1<=65535)/\(0<=(tabJ k j).2/\(tabJ k j).2<=65535):=by
 unfold tabJ;split
 . decide
 . split
   . next h=>simp only;omega
   . decide
theorem newO_ok{K:Nat}(h1:1<=K)(h2:K<=12):OOk (newO K) K:=by
 refine⟨Zas _ _,h1,h2,owB_of fun j hj=>?_,fun j hj=>?_,fun j hj=>?_⟩
 . unfold newO at hj |-
   rw[Zas] at hj;rw[Zdz _ _ _ hj];exact tabJ_bd _ _
 . unfold frmJ newO
   rw[Zdz _ _ _ hj];unfold tabJ;split
   . decide
   . split
     . next h=>
       obtain⟨m,hm⟩:∃ m:Nat,m=j-43:=⟨_,rfl⟩;have e:(j:Int)-43=m:=by omega
       have hm6:m<6:=by omega
       simp only[e];clear hm e h
       revert m;decide
     . decide
 . unfold newO
   rw[Zdz _ _ _ hj];unfold tabJ;split
   . next h=>rw[h];rfl
   . next h=>
     rw[Bool.not_eq_true] at h;rw[h];split <;> rfl
theorem step_append_ows{ops:Array Oper}{o:Oper}{a:Act}{w:World}{K:Act->World->Prop}{Q:Exit->Act->World->Prop}{E:Prop}(hgd:o.guard=none)(s x:Operand)
 (ho:o.op=.call { callee:=.builtin .append,args:=#[s,x],argTypes:=#[105,105] }) (hty:o.type=105)
 (B:Nat) (v:Value) (O:List (Int × Int)) (hs:a.eval s=v) (hown:OwR w B v O) (hO:O.length<=1000000) (u:Value) (D:List (Int × Int)) (hx:a.eval x=u) (hD:OwSl w u D) (hDl:0<D.length/\D.length<=1000) (hB:B<=w.heap.size)
 (h:∀ v' w',OwR w' B v' (O ++ D)->Below B w w'->K (a.put o.dst v') w'):if Region.wanted o (yielded ops a.tmps)=true then Oper.wp Tryz.prog o a w K Q else E:=by
 obtain⟨t,h2,h3,h4,h5⟩:=info_parts infoOw;obtain⟨b,off,cap,rfl,hb,hc⟩:=hD.at hDl.1;refine step_append_lies w hgd s x 105 ho B 109 t _ 2 4 Tryz.underlying105 h2 h3 h4 h5 rfl (by decide) v O.length (ownC O) hs hown.2 ⟨b,off,none⟩ D.length cap (ownC D) hx (Zbk D) ?_ ?_ hDl.1 (by simp only[maxLen];omega) (by omega) hB w.heap.size rfl ?_
 . intro j u hj
   have hjl:j<D.length*2:=by rw[<- Zbk];exact(List.getElem?_eq_some_iff.1 hj).1
   obtain⟨i,hi⟩:∃ i,i=j / 2:=⟨_,rfl⟩;obtain⟨g1,g2⟩:=ownC_get D i (by omega);obtain⟨k1,k2⟩:=hc i (by omega);rw[Addr.add_lit];rcases Nat.mod_two_eq_zero_or_one j with e|e
   . obtain rfl:j=i*2:=by omega
     rw[g1] at hj;rw[k1,<- hj]
   . obtain rfl:j=i*2+1:=by omega
     rw[g2] at hj;rw[<- Nat.add_assoc,k2,<- hj]
 . intro u hu
   obtain⟨j,hj⟩:=List.getElem?_of_mem hu;have hjl:j<D.length*2:=by rw[<- Zbk];exact(List.getElem?_eq_some_iff.1 hj).1
   obtain⟨i,hi⟩:∃ i,i=j / 2:=⟨_,rfl⟩;obtain⟨g1,g2⟩:=ownC_get D i (by omega);rcases Nat.mod_two_eq_zero_or_one j with e|e
   . obtain rfl:j=i*2:=by omega
     rw[g1] at hj;obtain rfl:=Option.some.inj hj;rfl
   . obtain rfl:j=i*2+1:=by omega
     rw[g2] at hj;obtain rfl:=Option.some.inj hj;rfl
 . intro g cap' w' hown' hgrow _ _
   refine h _ w' ⟨owB_of fun m hm=>?_,?_⟩ ((Below.refl _ _).grown hgrow hB fun k hk=>(World.ownsRow.lt hown.2 k hk).1)
   . by_cases e:m<O.length
     . have:=hown.1 m
       rw[List.getD_eq_getElem?_getD,List.getElem?_append_left e,<- List.getD_eq_getElem?_getD];exact this
     . have:=hD.1 (m-O.length)
       rw[List.getD_eq_getElem?_getD,List.getElem?_append_right (by omega),<- List.getD_eq_getElem?_getD];exact this
   . rw[List.length_append,ownC_append];exact hown'
theorem rGroups_yes(k:Nat)(h1:1<=k)(h2:k<=12)(w:World):Calls Tryz.prog 76 #[.int .i64 (64*(k:Int))] w fun e w'=>e=.returned (.int .i64 k)/\w=w':=by
 have:=rGroups_any (64*(k:Int)) (by omega) w;rw[show grsI (64*(k:Int))=k by unfold grsI;rw[if_pos (frm_mk k h1 h2)];omega] at this;exact this
def NSp(w:World)(b:Nat)(n:Int)(O:List (Int × Int)):Prop:=∃ v,w.heap[b]? =some (.cells #[.int .i64 n,v] 135 (0,0))/\OwR w (b+1) v O
theorem NSp.rsp{w:World}{b:Nat}{n:Int}{O:List (Int × Int)}(h:NSp w b n O):∃ M,RSp w M (.pointer (some ⟨b,0,none⟩)) n O/\∀ x,M x->b<=x:=by
 obtain⟨v,hb,ho⟩:=h;refine⟨fun x=>x=b\/v.ownBlock=some x,⟨b,v,rfl,hb,ho.more (Nat.zero_le _),fun k=>Iff.rfl⟩,fun x hx=>?_⟩;rcases hx with rfl|hx
 . exact Nat.le_refl _
 . have:=(World.ownsRow.lt ho.2 x hx).1;omega
theorem nsp_store{w:World}{b:Nat}{n:Int}{O:List (Int × Int)}{v v':Value}(hd:w.heap[b]? =some (.cells #[.int .i64 n,v] 135 (0,0)))(ho:OwR w (b+1) v' O):
 NSp (w.setCell ⟨b,1,none⟩ v') b n O/\Below b w (w.setCell ⟨b,1,none⟩ v'):=by
 have hw:=Wrote.setCell w b 1 v';refine⟨⟨v',heap_setCell_same w b 1 _ _ _ hd,ho.1,Zcx ho.2 fun g hg=>hw.2.2.2.2 g fun e=>?_⟩,hw.below (Nat.le_refl _)⟩;have:=(World.ownsRow.lt ho.2 g hg).1;omega
theorem RSp.all{w:World}{M:Nat->Prop}{b:Nat}{n:Int}{O:List (Int × Int)}(h:RSp w M (.pointer (some ⟨b,0,none⟩)) n O)(h0:0<O.length):∃ g cap cur,w.heap[b]? =some (.cells #[.int .i64 n,.slice (some ⟨g,0,none⟩) O.length cap] 135 (0,0))/\w.heap[g]? =some (.cells cur 109 (0,0))/\cur.toList.take (O.length*2)=ownC O/\O.length<=cap/\cap<=maxLen/\cur.size=cap*2/\(∀ k,M k ↔ k=b\/k=g)/\
 (∀ j,j<O.length->w.cell? ⟨g,j*2,none⟩=some (.int .u16 (O.getD j (0,0)).1)/\w.cell? ⟨g,j*2+1,none⟩=some (.int .u16 (O.getD j (0,0)).2)):=by
 obtain⟨bp,g,off,cap,e1,c0,c1,hc⟩:=h.cells h0;obtain⟨b',g',cap',cur,e2,hb,hg,ht,hnc,hcm,hcs,hB,hM⟩:=h.row h0;obtain rfl:b=b':=by injection e2 with e;injection e with e;injection e with e
 obtain rfl:b=bp:=by injection e1 with e;injection e with e;injection e with e
 have c1':w.cell? ⟨b,1,none⟩=some (.slice (some ⟨g',0,none⟩) O.length cap'):=by rw[cell_of_row _ _ _ _ _ _ hb];rfl
 obtain⟨rfl,rfl,rfl⟩:g=g'/\off=0/\cap=cap':=by
  rw[c1'] at c1
  injection c1 with c1
  injection c1 with a1 _ a3
  injection a1 with a1
  injection a1 with a1 a2
  exact⟨a1.symm,a2.symm,a3.symm⟩
 refine⟨g,cap,cur,hb,hg,ht,hnc,hcm,hcs,hM,fun j hj=>?_⟩;have:=hc j hj
 rwa [Nat.zero_add] at this
def atN(k:Nat):Int:=if k<=43 then 0 else if k<49 then (k:Int)-43 else 6
theorem atN_lo{k:Nat}(h:k<43):atN k=0/\atN (k+1)=0:=by unfold atN;rw[if_pos (by omega),if_pos (by omega)];exact⟨rfl,rfl⟩
theorem atN_hi{k:Nat}(h:49<=k):atN k=6/\atN (k+1)=6:=by unfold atN;rw[if_neg (by omega),if_neg (by omega),if_neg (by omega),if_neg (by omega)];exact⟨rfl,rfl⟩
theorem atN_mid{k:Nat}(h:43<=k)(h2:k<49):atN k=(k:Int)-43/\atN (k+1)=(k:Int)-43+1:=by
 unfold atN;refine⟨?_,?_⟩
 . by_cases e:k=43
   . subst e;rfl
   . rw[if_neg (by omega),if_pos h2]
 . rw[if_neg (by omega)]
   by_cases e:k=48
   . subst e;rfl
   . rw[if_pos (by omega)];omega
set_option maxHeartbeats 8000000 in
theorem rSpNew_is{kk:Nat}(h1:1<=kk)(h2:kk<=12)(w:World):Calls Tryz.prog 75 #[.int .i64 (64*(kk:Int))] w fun e w'=>∃ p M,e=.returned p/\RSp w' M p (64*(kk:Int)) (newO kk)/\(∀ x,M x->w.heap.size<=x)/\Below w.heap.size w w':=by
 have KG:=hid (fun(W:World)=>rGroups_yes kk h1 h2 W);have hbx:=Zaa w (.cells #[.int .i64 (64*(kk:Int)),.slice none 0 0] 135);have hnx:=heap_alloc_new w (.cells #[.int .i64 (64*(kk:Int)),.slice none 0 0] 135);go_enter Tryz.func75,Tryz.ntmps75;go_upto_region 2 with(fail)
 generalize w.alloc (.cells #[.int .i64 (64*(kk:Int)),.slice none 0 0] 135)=w1 at hbx hnx |-
 obtain⟨b,hd⟩:∃ b,b=w.heap.size:=⟨_,rfl⟩;rw[<- hd] at hnx |-
 have HN0:Hid (NSp w1 b (64*(kk:Int)) (tabN 0 (64*0))):=hid ⟨_,hnx,owr_nil w1 (b+1)⟩;have HBW:Hid (Below b w w1):=hid (by rw[hd];exact hbx);have HBD:=hid hd;have HB0:Hid (Below b w1 w1/\b<w1.heap.size):=hid ⟨Below.refl _ _,(Array.getElem?_eq_some_iff.1 hnx).1⟩;clear hbx hnx hd;go_wp2_with (go_at_call 76;refine(KG.out _).mono ?_;rintro e w' ⟨rfl,rfl⟩)
 go_loopw [12] (fun i wr=>∃ g:Nat,g<=kk/\i=.int .i64 g/\Hid (NSp wr b (64*(kk:Int)) (tabN 0 (64*g)))/\Hid (Below b w1 wr/\b<wr.heap.size)) (fun i _=>kk-(intOf i).toNat)
 case atStart=>exact⟨0,by omega,rfl,HN0,HB0⟩
 case round=>
  obtain⟨g,hg,rfl,HN,HB⟩:=hrel;clear HN0 HB0;by_cases hlt:g<kk
  . have eg:(g:Int)<12:=by omega
    have egK:(g:Int)<(kk:Int):=by omega
    obtain⟨v,hd,ho⟩:=HN.out;have c1:wr.drew.cell? ⟨b,1,none⟩=some v:=by rw[cell_of_row _ _ _ _ _ _ (show wr.drew.heap[b]? =_ from hd)];rfl
    have KF:=hid (rrFresh_yes (g:Int) (by omega) (by omega) wr.drew);have HD:=hid (show wr.drew.heap[b]? =some (.cells #[.int .i64 (64*(kk:Int)),v] 135 (0,0)) from hd);have HO:=hid (show OwR wr.drew (b+1) v (tabN 0 (64*g)) from ho);have HBL:=hid (show Below b w1 wr.drew/\b<wr.drew.heap.size from⟨HB.out.1.drew,HB.out.2⟩);have HTL:=hid (Zas 0 (64*g));have HFR:=hid (tabN_fresh g);clear hd ho;go_wp2;refine wp_region_any (by kernel_rfl) ?_
    (try simp only[Act.put,List.setIfInBounds_toArray,List.set_cons_zero,List.set_cons_succ,List.getElem_toArray,List.getElem_cons_zero,List.getElem_cons_succ])
    refine wpAny_take (i:=0) (v:=(.pointer (some ⟨b,0,none⟩))) rfl (by kernel_rfl) (by kernel_rfl) (by kernel_rfl) (fun _ _ _ h=>h) (Or.inl ⟨by rfl,?_⟩) ?_
    . intro W
      go_simp
    (try simp only[Act.put,List.setIfInBounds_toArray,List.set_cons_zero,List.set_cons_succ,List.getElem_toArray,List.getElem_cons_zero])
    refine wpAny_take (i:=1) (v:=(.pointer (some ⟨b,0,none⟩))) rfl (by kernel_rfl) (by kernel_rfl) (by kernel_rfl) (fun _ _ _ h=>h) (Or.inl ⟨by rfl,?_⟩) ?_
    . intro W
      go_simp
    (try simp only[Act.put,List.setIfInBounds_toArray,List.set_cons_zero,List.set_cons_succ,List.getElem_toArray,List.getElem_cons_zero,List.getElem_cons_succ])
    refine wpAny_take (i:=2) (v:=(.pointer (some ⟨b,0,none⟩))) rfl (by kernel_rfl) (by kernel_rfl) (by kernel_rfl) (fun _ _ _ h=>h) (Or.inl ⟨by rfl,?_⟩) ?_
    . intro W
      go_simp
    (try simp only[Act.put,List.setIfInBounds_toArray,List.set_cons_zero,List.set_cons_succ,List.getElem_toArray,List.getElem_cons_zero,List.getElem_cons_succ])
    refine wpAny_take (i:=3) (v:=(.pointer (some ⟨b,1,none⟩))) rfl (by kernel_rfl) (by kernel_rfl) (by kernel_rfl) (fun _ _ _ h=>h) (Or.inl ⟨by rfl,?_⟩) ?_
    . intro W
      go_simp
    (try simp only[Act.put,List.setIfInBounds_toArray,List.set_cons_zero,List.set_cons_succ,List.getElem_toArray,List.getElem_cons_zero,List.getElem_cons_succ])
    refine wpAny_take (i:=5) (v:=(.int .i64 g)) rfl (by kernel_rfl) (by kernel_rfl) (by kernel_rfl) (fun _ _ _ h=>h) (Or.inl ⟨by rfl,?_⟩) ?_
    . intro W
      go_simp
    (try simp only[Act.put,List.setIfInBounds_toArray,List.set_cons_zero,List.set_cons_succ,List.getElem_toArray,List.getElem_cons_zero,List.getElem_cons_succ])
    refine any_of_till (S:=fun W=>W.cell? ⟨b,1,none⟩=some v) (m:=10) _ _ _ _ ?_;refine till_take (i:=4) (v:=v) rfl rfl (by kernel_rfl) (by kernel_rfl) (by kernel_rfl) (by kernel_rfl) (by kernel_rfl) (fun _ _ _ h=>h) (Or.inl ⟨by rfl,?_⟩) c1 ?_
    . intro W hS
      go_simp
    (try simp only[Act.put,List.setIfInBounds_toArray,List.set_cons_zero,List.set_cons_succ,List.getElem_toArray,List.getElem_cons_zero,List.getElem_cons_succ])
    refine Zfv (rs:=[6]) (by kernel_rfl) (by simp) (TillReady.cons rfl (fun K hK=>?_) TillReady.nil)
    go_simp
    go_at_call 125
    refine KF.out.mono ?_;rintro e w3 ⟨u,rfl,hu,hb3⟩;have d3:=Zad HD.out hb3;have c3:w3.cell? ⟨b,1,none⟩=some v:=by rw[cell_of_row _ _ _ _ _ _ d3];rfl
    have hw3:=Nat.lt_of_lt_of_le HBL.out.2 hb3.size;refine hK.out _ _ (fun _=>c3) ?_;clear hK K
    (try simp only[Act.put,List.setIfInBounds_toArray,List.set_cons_zero,List.set_cons_succ,List.getElem_toArray,List.getElem_cons_zero,List.getElem_cons_succ])
    refine Zfv (rs:=[7]) (by kernel_rfl) (by simp) (TillReady.cons rfl (fun K hK=>?_) TillReady.nil);refine step_append_ows (by rfl) (.tmp 19) (.tmp 21) (by rfl) (by rfl) (b+1) v (tabN 0 (64*g)) (by rfl) (HO.out.below hb3) (by rw[HTL.out];omega) u (Zez g 64) (by rfl) hu.sl (by rw[Zhb];decide) hw3 ?_;intro v' w4 ho4 hb4;obtain⟨a4,cap4,rfl⟩:=ho4.sl.shape;obtain⟨n4,hn4⟩:∃ n4,n4=(tabN 0 (64*g) ++ Zez (g:Int) 64).length:=⟨_,rfl⟩;rw[<- hn4] at ho4 |-
    clear hn4;have d4:=(hb4.block b (by omega)).trans d3;have c4:w4.cell? ⟨b,1,none⟩=some v:=by rw[cell_of_row _ _ _ _ _ _ d4];rfl
    refine hK.out _ _ (fun _=>c4) ?_;clear hK K
    (try simp only[Act.put,List.setIfInBounds_toArray,List.set_cons_zero,List.set_cons_succ,List.getElem_toArray,List.getElem_cons_zero,List.getElem_cons_succ])
    refine Zfv (rs:=[8]) (by kernel_rfl) (by simp) (TillReady.cons rfl (fun K hK=>?_) TillReady.nil)
    go_simp
    refine hK.out _ _ (fun _=>c4) ?_;clear hK K
    (try simp only[Act.put,List.setIfInBounds_toArray,List.set_cons_zero,List.set_cons_succ,List.getElem_toArray,List.getElem_cons_zero,List.getElem_cons_succ])
    refine Zfv (rs:=[9]) (by kernel_rfl) (by simp) (TillReady.cons rfl (fun K hK=>?_) TillReady.nil)
    go_simp
    refine hK.out _ _ (fun _=>c4) ?_;clear hK K
    (try simp only[Act.put,List.setIfInBounds_toArray,List.set_cons_zero,List.set_cons_succ,List.getElem_toArray,List.getElem_cons_zero,List.getElem_cons_succ])
    have hf:=frozen_of_row w4 b 1 _ _ d4;refine Zfv (rs:=[10]) (by kernel_rfl) (by simp) (TillReady.cons rfl (fun K hK=>?_) TillReady.nil)
    go_simp
    obtain⟨r1,r2⟩:=nsp_store d4 ho4;have HN2:Hid (NSp (w4.setCell ⟨b,1,none⟩ (.slice a4 n4 cap4)) b (64*(kk:Int)) (tabN 0 (64*(g+1)))):=hid (by rw[HFR.out];exact r1);have HB2:Hid (Below b w1 (w4.setCell ⟨b,1,none⟩ (.slice a4 n4 cap4))/\b<(w4.setCell ⟨b,1,none⟩ (.slice a4 n4 cap4)).heap.size):=hid (by
     have hb04:=(HBL.out.1.trans (hb3.mono (Nat.le_of_lt HBL.out.2))).trans (hb4.mono (Nat.le_succ b));have hb05:=hb04.trans r2;refine⟨hb05,Nat.lt_of_lt_of_le ?_ r2.size⟩;have:=hb3.size;have:=hb4.size;have:=HBL.out.2;omega)
    clear r1 r2;generalize w4.setCell ⟨b,1,none⟩ (.slice a4 n4 cap4)=Y at HN2 HB2 |-
    refine hK.out _ _ (fun h=>by cases h) ?_;clear hK K
    (try simp only[Act.put,List.setIfInBounds_toArray,List.set_cons_zero,List.set_cons_succ,List.getElem_toArray,List.getElem_cons_zero,List.getElem_cons_succ])
    clear hf c4 d4 hb4 ho4 hb3 c3 d3 hw3 hu;refine till_done (by kernel_rfl) ?_ _;go_wp2;go_roundw
    case rel=>exact⟨g+1,by omega,by go_num,HN2,HB2⟩
    case measure=>simp[intOf];omega
  . obtain rfl:g=kk:=by omega
    obtain⟨M,hM,hMb⟩:=HN.out.rsp;have HMB:=hid hMb;obtain⟨L,hL⟩:∃ L,L=64*g:=⟨_,rfl⟩;have hL1:64<=L:=by omega
    have hL2:L<=768:=by omega
    rw[<- hL] at hM;have HL0:=hid hL;have HM0:Hid (RSp wr M (.pointer (some ⟨b,0,none⟩)) (64*(g:Int)) (tabN 0 L)):=hid hM;have HB0:Hid (Below b w1 wr):=hid HB.out.1;obtain⟨g0,cap0,cur0,hb0,_⟩:=hM.all (by rw[Zas];omega);rw[Zas] at hb0;have c1:wr.cell? ⟨b,1,none⟩=some (.slice (some ⟨g0,0,none⟩) L cap0):=by rw[cell_of_row _ _ _ _ _ _ hb0];rfl
    clear hM hMb hb0 HB HN hL;go_wp2;clear c1;go_loopw [4,31] (fun at' i wr=>∃ k:Nat,k<=L/\i=.int .i64 k/\at'=.int .i64 (atN k)/\Hid (RSp wr M (.pointer (some ⟨b,0,none⟩)) (64*(g:Int)) (tabN k L))/\Hid (Below b w1 wr)) (fun _ i _=>L-(intOf i).toNat)
    case atStart=>exact⟨0,by omega,rfl,rfl,HM0,HB0⟩
    case round=>
     obtain⟨k,hk,rfl,rfl,HR,HBR⟩:=hrel;clear HM0 HB0;by_cases hkt:k<L
     . obtain⟨g1,cap1,cur1,hb1,hg1,ht1,hnc1,hcm1,hcs1,hM1,hc1⟩:=HR.out.all (by rw[Zas];omega)
       have hck:=(hc1 k (by rw[Zas];omega)).1;rw[Zdz _ _ _ hkt] at hck;have ekt:(k:Int)<(L:Int):=by omega
       have c1:wr.cell? ⟨b,1,none⟩=some (.slice (some ⟨g1,0,none⟩) L cap1):=by rw[Zas] at hb1;rw[cell_of_row _ _ _ _ _ _ hb1];rfl
       by_cases h49:49<=k
       . obtain⟨a1,a2⟩:=atN_hi h49
         have HR2:=HR.out;rw[tabN_same k L (.inr h49)] at HR2;have HR3:=hid HR2;have HA2:=hid a2;rw[a1];clear hb1 hg1 ht1 hnc1 hcm1 hcs1 hM1 hc1 hck HR2 a1 a2 HR;go_wp2;go_roundw
         case rel=>exact⟨k+1,by omega,by go_num,by rw[HA2.out],HR3,HBR⟩
         case measure=>simp[intOf];omega
       . by_cases h43:k<43
         . obtain⟨a1,a2⟩:=atN_lo h43
           have HR2:=HR.out;rw[tabN_same k L (.inl h43)] at HR2;have HR3:=hid HR2;have HA2:=hid a2;rw[a1];unfold tabJ at hck;rw[(fix_tab (j:=k)).1 h43] at hck;have hck':wr.cell? ⟨g1,k*2,none⟩=some (.int .u16 65535):=hck;clear hb1 hg1 ht1 hnc1 hcm1 hcs1 hM1 hc1 hck HR2 a1 a2 HR;go_wp2;go_roundw
           case rel=>exact⟨k+1,by omega,by go_num,by rw[HA2.out],HR3,HBR⟩
           case measure=>simp[intOf];omega
         . obtain⟨a1,a2⟩:=atN_mid (show 43<=k by omega) (show k<49 by omega)
           have HA2:=hid a2;rw[a1];obtain⟨t,ht⟩:∃ t:Nat,t=k-43:=⟨_,rfl⟩;have et:(k:Int)-43=(t:Int):=by omega
           have ht6:t<6:=by omega
           have ht6':(t:Int)<6:=by omega
           have htw:IntKind.u16.wrap (t:Int)=t:=by rw[IntKind.wrap_u16];omega
           unfold tabJ at hck;rw[(fix_tab (j:=k)).2 (by omega) (by omega),if_neg (by decide),if_neg (by omega)] at hck;have hck':wr.cell? ⟨g1,k*2,none⟩=some (.int .u16 0):=hck;have HFIN:=hid (fun(w':World) (cur':Array Value) (hw:Wrote wr w' g1) (hg':w'.heap[g1]? =some (.cells cur' 109 (0,0))) (hs:cur'.size=cur1.size) (ht':cur'.toList.take ((tabN k L).length*2)=ownC ((tabN k L).set k (65534,(t:Int))))=>RSp.stored hb1 hg1 hnc1 hcm1 (owB_of fun j hj=>by rw[Zas] at hj;rw[Zdz _ _ _ hj];exact tabJ_bd _ _) hM1 hw hg' (hs.trans hcs1) ht' ⟨⟨by decide,by decide⟩,⟨by omega,by omega⟩⟩);have HST:Hid ((tabN k L).set k (65534,(t:Int))=tabN (k+1) L):=hid (by rw[<- et];exact tabN_set k L (by omega) (by omega));have HG:=hid hg1;have HT:=hid ht1;have HS:Hid ((tabN k L).length*2<=cur1.size):=hid (by omega);have HK:Hid (k<(tabN k L).length):=hid (by rw[Zas];exact hkt);have HGB:Hid (b<=g1):=hid (HMB.out g1 ((hM1 g1).2 (.inr rfl)));rw[et] at HA2 |-
           clear hb1 hg1 ht1 hnc1 hcm1 hcs1 hM1 hc1 hck a1 a2 HR ht et;go_wp2_with (with_reducible refine Zhf rfl (.tmp 55) (.tmp 54) rfl g1 k (tabN k L) cur1 65534 t rfl rfl HG.out HT.out HS.out HK.out ?_;intro w4 cur4 hw4 hg4 hs4 ht4;have HE:=hid (HFIN.out w4 cur4 hw4 hg4 hs4 ht4);have HBE:=hid (HBR.out.trans (hw4.below HGB.out));clear hw4 hg4 hs4 ht4)
           go_roundw
           case rel=>exact⟨k+1,by omega,by go_num,by rw[HA2.out],hid (by rw[<- HST.out];exact HE.out.1),HBE⟩
           case measure=>simp[intOf];omega
     . obtain rfl:k=L:=by omega
       have HR2:=HR.out;go_wp2;go_ret;refine⟨_,M,rfl,?_,fun x hx=>by have:=HMB.out x hx;rw[HBD.out] at this;exact this,?_⟩
       . unfold newO;rw[<- HL0.out];exact HR2
       . have:=HBW.out.trans HBR.out
         rw[HBD.out] at this;exact this
theorem rput2{L:List Int}(j:Nat)(hj:j<12)(h1:j≠1)(x:Int)(hx:x=num L j)(hx0:0<=x/\x<65536)(W:World)(u:Value)(hs:BSl W u (conS L j)):
 Calls Tryz.prog 127 #[u,.int .u64 x,.int .i64 2] W (NewB W (conS L (j+1))):=rput_con j hj x hx hx0 2 (if_neg h1).symm W u hs
theorem con_state{L:List Int}(x:Int)(hx:x=num L 1)(h0:0<=x/\x<256):conS L 1 ++ [x]=conS L 2:=by
 rw[show conS L 2=conS L 1 ++ lowB (num L 1) (wid 1) from rfl,<- hx,show wid 1=1 from rfl,Zia,Zhz];simp;omega
theorem rEnc_yes(b st tg cu io ba t0 t1 t2 t3 t4 t5:Int)(L:List Int)(hLL:L=[b,st,tg,cu,io,ba,t0,t1,t2,t3,t4,t5])(hf:frmS L=true)(w:World)
 (hF:∀ w,Calls Tryz.prog 132 #[.agg #[.int .i64 b,.int .i64 st,.int .i64 tg,.int .i64 cu,.int .i64 io,.int .i64 ba,.int .i64 t0,.int .i64 t1,.int .i64 t2,.int .i64 t3,.int .i64 t4,.int .i64 t5]] w fun e w'=>e=.returned (.bool true)/\Below w.heap.size w w'):
 Calls Tryz.prog 84 #[.agg #[.int .i64 b,.int .i64 st,.int .i64 tg,.int .i64 cu,.int .i64 io,.int .i64 ba,.int .i64 t0,.int .i64 t1,.int .i64 t2,.int .i64 t3,.int .i64 t4,.int .i64 t5]] w fun e w'=>∃ v,e=.returned (.tuple #[v,.int .i64 0])/\OB w' w.heap.size v (encS L)/\Below w.heap.size w w':=by
 have hob:=Zaa w (supO L 143);have hh:=heap_alloc_new w (supO L 143);obtain⟨W1,hW1⟩:∃ W1,W1=w.alloc (supO L 143):=⟨_,rfl⟩;rw[<- hW1] at hob hh;have hW2:w.alloc (.cells #[.int .i64 b,.int .i64 st,.int .i64 tg,.int .i64 cu,.int .i64 io,.int .i64 ba,.int .i64 t0,.int .i64 t1,.int .i64 t2,.int .i64 t3,.int .i64 t4,.int .i64 t5] 143)=W1:=by rw[hW1,hLL];rfl
 have hlen:L.length=12:=by rw[hLL];rfl
 have hsz:w.heap.size<W1.heap.size:=by rw[hW1];simp
 have kc:=fun(w:World) (C:Array Value) (n c:Nat)=>Lib.run_convert_bytes_const (P:=Tryz.prog) w 30 5 C n c Tryz.underlying30 Tryz.underlying5
 have e0:b=num L 0:=by rw[hLL];rfl
 have e1:st=num L 1:=by rw[hLL];rfl
 have e2:tg=num L 2:=by rw[hLL];rfl
 have e3:cu=num L 3:=by rw[hLL];rfl
 have e4:io=num L 4:=by rw[hLL];rfl
 have e5:ba=num L 5:=by rw[hLL];rfl
 have f0:=num_fit hf 0 (by decide);have f1:0<=num L 1/\num L 1<256:=frm_num hf 1 (by decide);rw[<- e0] at f0;rw[<- e1] at f1;have H2:=hid hW2;have HH:=hid hh;have HLE:=hid hlen;have HFR:=hid hf;have K0:=hid hF;have E0:=hid e0;have E1:=hid e1;have E25:=hid (And.intro e2 (And.intro e3 (And.intro e4 e5)));have hc:=fun(W:World) (h:W.heap[w.heap.size]? =some (supO L 143))=>by rw[hLL] at h;exact Zhs h
 have HCC:=hid hc;clear hF hh hW1 hW2 hLL hlen hf e0 e1 e2 e3 e4 e5 hc;go_enter Tryz.func84,Tryz.ntmps84
 go_wp2_with (first
  |(go_at_call 132;rw[H2.out];refine(K0.out _).mono ?_;rintro e w2 ⟨rfl,hb2⟩;have hbe:Below w.heap.size w w2:=hob.trans (hb2.mono hob.size)
    have hz2:w.heap.size<w2.heap.size:=Nat.lt_of_lt_of_le hsz hb2.size;have hr2:w2.heap[w.heap.size]? =some (supO L 143):=(hb2.block _ hsz).trans HH.out;have hc2:=HCC.out _ hr2)
  |(go_at_call 127
    have hbm:=bsl_magic w2;have hb3:=Zaa w2 (.cells #[.int .u8 97,.int .u8 115,.int .u8 104,.int .u8 108,.int .u8 97,.int .u8 114,.int .u8 32,.int .u8 49] 5 (8,9));generalize w2.alloc (.cells #[.int .u8 97,.int .u8 115,.int .u8 104,.int .u8 108,.int .u8 97,.int .u8 114,.int .u8 32,.int .u8 49] 5 (8,9))=w3 at hbm hb3 |-
    refine(rput2 0 (by decide) (by decide) b E0.out f0 _ _ hbm).mono ?_;rintro e w4 ⟨v4,rfl,hob4,hb4⟩;have hb24:Below w2.heap.size w2 w4:=hb3.trans (hb4.mono hb3.size);have hr4:w4.heap[w.heap.size]? =some (supO L 143):=(hb24.block _ hz2).trans hr2;have hc4:=HCC.out _ hr4)
  |(at_builtin
    refine Zdg w4 st rfl (.tmp 17) (.tmp 21) rfl w3.heap.size _ (conS L 1) rfl hob4 ⟨f1.1,by omega⟩ rfl (by rw[Zce];decide) hb4.size ?_;intro v5 w5 hob5 hb5;rw[con_state st E1.out f1] at hob5;have hb45:Below w2.heap.size w4 w5:=hb5.mono hb3.size;have hb25:Below w2.heap.size w2 w5:=hb24.trans hb45;have hr5:w5.heap[w.heap.size]? =some (supO L 143):=(hb25.block _ hz2).trans hr2;have hc5:=HCC.out _ hr5))
 have hb6:=Zaa w5 (.cells #[.int .i64 tg,.int .i64 cu,.int .i64 io,.int .i64 ba] 3);have hh6:=heap_alloc_new w5 (.cells #[.int .i64 tg,.int .i64 cu,.int .i64 io,.int .i64 ba] 3);generalize w5.alloc (.cells #[.int .i64 tg,.int .i64 cu,.int .i64 io,.int .i64 ba] 3)=w6 at hb6 hh6 |-
 obtain⟨gi,hgi⟩:∃ gi,gi=w5.heap.size:=⟨_,rfl⟩;rw[<- hgi] at hh6 |-
 have hz5:w.heap.size<w5.heap.size:=Nat.lt_of_lt_of_le hz2 hb25.size;have hr6:w6.heap[w.heap.size]? =some (supO L 143):=(hb6.block _ hz5).trans hr5;have hgl:gi<w6.heap.size:=(Array.getElem?_eq_some_iff.1 hh6).1;have hci:∀ j,j<4->w6.cell? ⟨gi,j,none⟩=some (.int .i64 (num L (2+j))):=fun j hj=>by
  have:=E25.out;rw[cell_of_row _ _ _ _ _ _ hh6];have h4:j=0\/j=1\/j=2\/j=3:=by omega
  rcases h4 with rfl|rfl|rfl|rfl
  . rw[<- this.1];rfl
  . rw[<- this.2.1];rfl
  . rw[<- this.2.2.1];rfl
  . rw[<- this.2.2.2];rfl
 have hcx:=fun k hk=>Zgt hr6 k hk
 rw[HLE.out] at hcx;have HCI:=hid hci;have HCX:=hid hcx;have HB6:=hid ((hbe.trans (hb25.mono hbe.size)).trans (hb6.mono (Nat.le_of_lt hz5)));have hzw:w.heap.size<w6.heap.size:=Nat.lt_of_lt_of_le hz5 hb6.size;have HM:=hid (hob5.bsl.below hb6);clear hb6 hh6 hgi hr6 hci hcx hob5 hb5 hb45 hb25 hr5 hc5 hz5 hc4 hr4 hb24 hb4 hob4 hb3 hbm hc2 hr2 hz2 hbe hb2 hob hsz kc;go_loopw [4,34] (fun u i wr=>∃ j:Nat,j<=4/\i=.int .i64 j/\Hid (BSl wr u (conS L (2+j)))/\Hid (Below w6.heap.size w6 wr)) (fun _ i _=>4-(intOf i).toNat)
 case atStart=>exact⟨0,by omega,rfl,HM,Below.refl _ _⟩
 case round=>
  obtain⟨j,hj,rfl,HBS,HBR⟩:=hrel;clear HM;by_cases hlt:j<4
  . have hx0:=num_fit HFR.out (2+j) (by omega)
    obtain⟨x,hx⟩:∃ x,x=num L (2+j):=⟨_,rfl⟩;have hcx:wr.cell? ⟨gi,j,none⟩=some (.int .i64 x):=by rw[HBR.out.cell hgl,hx];exact HCI.out j hlt
    rw[<- hx] at hx0;have HPU:=hid (rput2 (L:=L) (2+j) (by omega) (by omega) x hx hx0);have ej:(j:Int)<4:=by omega
    clear hx;go_wp2_with (go_at_call 127;refine(HPU.out _ _ HBS.out).mono ?_;rintro e w7 ⟨v7,rfl,hob7,hb7⟩)
    go_roundw
    case rel=>exact⟨j+1,by omega,by go_num,hob7.bsl,HBR.out.trans (hb7.mono HBR.out.size)⟩
    case measure=>simp[intOf];omega
  . obtain rfl:j=4:=by omega
    go_wp2;obtain⟨w8,hw8⟩:∃ w8,w8=wr:=⟨_,rfl⟩;rw[<- hw8] at HBS HBR |-
    clear hw8;go_loopw [4,45] (fun u i wr=>∃ j:Nat,j<=6/\i=.int .i64 j/\Hid (BSl wr u (conS L (6+j)))/\Hid (Below w6.heap.size w6 wr)) (fun _ i _=>6-(intOf i).toNat)
    case atStart=>exact⟨0,by omega,rfl,HBS,HBR⟩
    case round=>
     clear HBS HBR;obtain⟨j,hj,rfl,HBS,HBR⟩:=hrel;by_cases hlt:j<6
     . have hx0:=num_fit HFR.out (6+j) (by omega)
       obtain⟨x,hx⟩:∃ x,x=num L (6+j):=⟨_,rfl⟩;have hcx:wr.cell? ⟨w.heap.size,6+j,none⟩=some (.int .i64 x):=by rw[HBR.out.cell hzw,hx];exact HCX.out (6+j) (by omega)
       rw[<- hx] at hx0;have HPU:=hid (rput2 (L:=L) (6+j) (by omega) (by omega) x hx hx0);have ej:(j:Int)<6:=by omega
       clear hx;go_wp2_with (go_at_call 127;refine(HPU.out _ _ HBS.out).mono ?_;rintro e w7 ⟨v7,rfl,hob7,hb7⟩)
       go_roundw
       case rel=>
        refine⟨_,_,_,_,_,_,_,_,_,_,_,_,_,?_,rfl⟩;exact⟨j+1,by omega,by go_num,hob7.bsl,HBR.out.trans (hb7.mono HBR.out.size)⟩
       case measure=>simp[intOf];omega
     . obtain rfl:j=6:=by omega
       have HSE:=hid (rSeal_yes HBS.out (by rw[Zce];decide));go_wp2_with (go_at_call 129;refine HSE.out.mono ?_;rintro e w9 ⟨v9,rfl,hob9,hb9⟩)
       go_ret2;have hB:=HB6.out.trans (HBR.out.mono HB6.out.size);exact⟨v9,rfl,hob9.more hB.size,hB.trans (hb9.mono hB.size)⟩
theorem rEnc_of{L:List Int}(hL:L.length=12)(hT:Top L)(w:World):Calls Tryz.prog 84 #[supV L] w (EncOut L w):=by
 have h0:frmS L=false\/frmS L=true:=by cases frmS L <;> simp
 have KF:∀ B,frmS L=B->_:=fun B h=>rFormS_is hL hT B h
 have hob:=Zaa w (supO L 143);obtain⟨W1,hW1⟩:∃ W1,W1=w.alloc (supO L 143):=⟨_,rfl⟩;rw[<- hW1] at hob
 match L,hL with
 |[b,st,tg,cu,io,ba,t0,t1,t2,t3,t4,t5],_=>
  have hW2:w.alloc (.cells #[.int .i64 b,.int .i64 st,.int .i64 tg,.int .i64 cu,.int .i64 io,.int .i64 ba,.int .i64 t0,.int .i64 t1,.int .i64 t2,.int .i64 t3,.int .i64 t4,.int .i64 t5] 143)=W1:=by rw[hW1];rfl
  have H2:=hid hW2;show Calls Tryz.prog 84 #[.agg #[.int .i64 b,.int .i64 st,.int .i64 tg,.int .i64 cu,.int .i64 io,.int .i64 ba,.int .i64 t0,.int .i64 t1,.int .i64 t2,.int .i64 t3,.int .i64 t4,.int .i64 t5]] w (EncOut _ w)
  rcases h0 with h0|h0
  . refine Calls.mono ?_ fun e w' h=>.inr ⟨h0,h⟩
    have K0:Hid (∀ w,Calls Tryz.prog 132 #[.agg #[.int .i64 b,.int .i64 st,.int .i64 tg,.int .i64 cu,.int .i64 io,.int .i64 ba,.int .i64 t0,.int .i64 t1,.int .i64 t2,.int .i64 t3,.int .i64 t4,.int .i64 t5]] w fun e w'=>e=.returned (.bool false)/\Below w.heap.size w w'):=hid (KF _ h0);clear KF h0 hW1 hW2 hT;go_enter Tryz.func84,Tryz.ntmps84;go_wp2_with (first|(go_at_call 132;rw[H2.out];refine(K0.out _).mono ?_;rintro e w2 ⟨rfl,hb2⟩))
    go_ret2;exact⟨rfl,hob.trans (hb2.mono hob.size)⟩
  . refine Calls.mono ?_ fun e w' h=>.inl ⟨h0,h⟩
    exact rEnc_yes b st tg cu io ba t0 t1 t2 t3 t4 t5 _ rfl h0 w (KF _ h0)
def tblL(k:Nat):List Int:=(List.range 6).map fun i=>if 43+i<k then ((43+i:Nat):Int) else 0
def supL(n:Int)(k:Nat):List Int:=[n,0,0,0,0,0] ++ tblL k
theorem Zep(n:Int)(k:Nat):(supL n k).length=12:=by simp[supL,tblL]
theorem supL_set(n:Int){k t:Nat}(h:k=43+t)(ht:t<6):(supL n k).set (6+t) (k:Int)=supL n (k+1):=by
 unfold supL;rw[List.set_append_right _ _ (by simp)];congr 1;apply List.ext_getElem (by simp[tblL]);intro i h1 h2;simp only[tblL,List.getElem_set,List.getElem_map,List.getElem_range,List.length_cons,List.length_nil];by_cases e:6+t-6=i
 . rw[if_pos (by omega),if_pos (by omega),h];omega
 . rw[if_neg (by omega)]
   by_cases hc:43+i<k
   . rw[if_pos hc,if_pos (by omega)]
   . rw[if_neg hc,if_neg (by omega)]
theorem supL_same(n:Int){k:Nat}(h:k<43\/49<=k):supL n k=supL n (k+1):=by
 unfold supL tblL;congr 1;apply List.map_congr_left;intro i hi;have:=List.mem_range.1 hi;by_cases hc:43+i<k
 . rw[if_pos hc,if_pos (by omega)]
 . rw[if_neg hc,if_neg (by omega)]
theorem Wrote.none'(w:World)(b:Nat):Wrote w w b:=⟨rfl,rfl,rfl,rfl,fun _ _=>rfl⟩
theorem Wrote.on{a b c:World}{g:Nat}(h:Wrote a b g)(k:Wrote b c g):Wrote a c g:=⟨k.1.trans h.1,k.2.1.trans h.2.1,k.2.2.1.trans h.2.2.1,k.2.2.2.1.trans h.2.2.2.1,fun x hx=>(k.2.2.2.2 x hx).trans (h.2.2.2.2 x hx)⟩
theorem intsOne(L:List Int):(L.map (Value.int .i64)).toArray.all (·.oneCell')=true:=by
 rw[Array.all_eq_true'];intro v hv;simp at hv;obtain⟨x,_,rfl⟩:=hv;rfl
theorem infoRS:(Tryz.prog.info? 143).map (·.size)=some 12:=by kernel_rfl
theorem rSpNew_at{kk:Nat}(h1:1<=kk)(h2:kk<=12)(w:World):Calls Tryz.prog 75 #[.int .i64 (64*(kk:Int))] w fun e w'=>∃ b g cap M,e=.returned (.pointer (some ⟨b,0,none⟩))/\RSp w' M (.pointer (some ⟨b,0,none⟩)) (64*(kk:Int)) (newO kk)/\w'.cell? ⟨b,1,none⟩=some (.slice (some ⟨g,0,none⟩) (64*kk) cap)/\w.heap.size<=b/\w.heap.size<=g/\(∀ x,M x->w.heap.size<=x)/\b<w'.heap.size/\g<w'.heap.size/\64*kk<=cap/\
 (∀ j,j<64*kk->w'.cell? ⟨g,j*2,none⟩=some (.int .u16 (tabJ (64*kk) j).1)/\w'.cell? ⟨g,j*2+1,none⟩=some (.int .u16 (tabJ (64*kk) j).2))/\Below w.heap.size w w':=by
 refine(rSpNew_is h1 h2 w).mono fun e w' ⟨p,M,he,hR,hM,hb⟩=>?_
 have hl:(newO kk).length=64*kk:=Zas _ _;have hR':=hR;obtain⟨b,v,rfl,_⟩:=hR';obtain⟨g,cap,cur,r1,r2,r3,r4,r5,r6,r7,r8⟩:=hR.all (by rw[hl];omega);refine⟨b,g,cap,M,he,hR,by rw[cell_of_row _ _ _ _ _ _ r1,hl];rfl,hM b ((r7 b).2 (.inl rfl)),hM g ((r7 g).2 (.inr rfl)),hM,(Array.getElem?_eq_some_iff.1 r1).1,(Array.getElem?_eq_some_iff.1 r2).1,by omega,fun j hj=>?_,hb⟩;have:=r8 j (by rw[hl];exact hj)
 rwa [show(newO kk).getD j (0,0)=tabJ (64*kk) j from Zdz _ _ _ hj] at this
theorem rSuper_is{kk:Nat}(h1:1<=kk)(h2:kk<=12)(w:World):Calls Tryz.prog 82 #[.int .i64 (64*(kk:Int))] w fun e w'=>e=.returned (supV (supL (64*(kk:Int)) (64*kk)))/\Below w.heap.size w w':=by
 have KN:=hid (fun(W:World)=>rSpNew_at h1 h2 W);go_enter Tryz.func82,Tryz.ntmps82;go_upto_region 2 with(fail)
 obtain⟨a,ha⟩:∃ a,a=w.heap.size:=⟨_,rfl⟩;have hb1:=(Zaa w (supO (List.replicate 12 0) 143)).trans ((Zaa (w.alloc (supO (List.replicate 12 0) 143)) (supO (supL (64*(kk:Int)) 0) 143)).mono (Zaa w (supO (List.replicate 12 0) 143)).size);have hr0:((w.alloc (supO (List.replicate 12 0) 143)).alloc (supO (supL (64*(kk:Int)) 0) 143)).heap[w.heap.size]? =some (supO (List.replicate 12 0) 143):=Zad (heap_alloc_new w _) (Zaa _ _);have hr1:((w.alloc (supO (List.replicate 12 0) 143)).alloc (supO (supL (64*(kk:Int)) 0) 143)).heap[w.heap.size+1]? =some (supO (supL (64*(kk:Int)) 0) 143):=by
  have:=heap_alloc_new (w.alloc (supO (List.replicate 12 0) 143)) (supO (supL (64*(kk:Int)) 0) 143)
  simpa using this
 obtain⟨W1,hW1⟩:∃ W1,W1=(w.alloc (supO (List.replicate 12 0) 143)).alloc (supO (supL (64*(kk:Int)) 0) 143):=⟨_,rfl⟩;rw[<- hW1] at hb1 hr0 hr1;rw[show(w.alloc (Obj.cells #[.int .i64 0,.int .i64 0,.int .i64 0,.int .i64 0,.int .i64 0,.int .i64 0,.int .i64 0,.int .i64 0,.int .i64 0,.int .i64 0,.int .i64 0,.int .i64 0] 143)).alloc (Obj.cells #[.int .i64 (64*(kk:Int)),.int .i64 0,.int .i64 0,.int .i64 0,.int .i64 0,.int .i64 0,.int .i64 0,.int .i64 0,.int .i64 0,.int .i64 0,.int .i64 0,.int .i64 0] 143)=W1 from hW1.symm];rw[<- ha] at hb1 hr0 hr1 |-
 have hsz:a+1<W1.heap.size:=(Array.getElem?_eq_some_iff.1 hr1).1;obtain⟨L,hL⟩:∃ L,L=64*kk:=⟨_,rfl⟩;have hL768:L<=768:=by omega
 have hL64:64<=L:=by omega
 have HL:=hid hL;have HA:=hid ha;rw[<- hL] at KN;have HR0:=hid hr0;have HR1:=hid hr1;have HB1:=hid hb1;clear hr0 hr1 hb1 hW1 ha hL;go_wp2_with (go_at_call 75;refine(KN.out _).mono ?_;rintro e w2 ⟨b,g,cap,M,rfl,hR,c1,hab,hag,hM,hbl,hgl,hcap,hcc,hb2⟩)
 have HRS0:Hid (w2.heap[a]? =some (supO (List.replicate 12 0) 143)):=hid (Zad HR0.out hb2);have HRS1:Hid (w2.heap[a+1]? =some (supO (supL (64*(kk:Int)) 0) 143)):=hid (Zad HR1.out hb2);have HB2:Hid (Below a w w2):=hid (HB1.out.trans (hb2.mono (by omega)));have HCC:=hid hcc;have hga:a+1<g:=by omega
 clear hR c1 hM hcc hb2 hab hag hbl HR0 HR1 HB1 hsz;go_loopw [15] (fun i wr=>∃ k:Nat,k<=L/\i=.int .i64 k/\Hid (wr.heap[a+1]? =some (supO (supL (64*(kk:Int)) k) 143))/\Hid (Wrote w2 wr (a+1))) (fun i _=>L-(intOf i).toNat)
 case atStart=>exact⟨0,by omega,rfl,HRS1,hid (Wrote.none' _ _)⟩
 case round=>
  obtain⟨k,hk,rfl,HS,HW⟩:=hrel;clear HRS1;by_cases hlt:k<L
  . obtain⟨k0,k1⟩:=HCC.out k hlt
    have ekL:(k:Int)<(L:Int):=by omega
    have c0:=(World.cell?_of_block (a:=⟨g,k*2,none⟩) (HW.out.2.2.2.2 g (by omega))).trans k0;have c1:=(World.cell?_of_block (a:=⟨g,k*2+1,none⟩) (HW.out.2.2.2.2 g (by omega))).trans k1;by_cases hm:43<=k/\k<49
    . obtain⟨t,ht⟩:∃ t:Nat,t=k-43:=⟨_,rfl⟩
      have hk43:k=43+t:=by omega
      have ht6:t<6:=by omega
      have et6:(t:Int)<6:=by omega
      have eT:tabJ L k=(65534,(t:Int)):=by
       unfold tabJ;rw[(fix_tab (j:=k)).2 hm.1 hm.2,if_neg (by decide),if_pos (by omega)];congr 1;omega
      rw[eT] at c0 c1;have hset:=supL_set (64*(kk:Int)) hk43 ht6;have hf:=frozen_of_row wr (a+1) (6+t) _ _ HS.out;have hcs:=Zgt HS.out (6+t) (by rw[Zep];omega);have HS2:(wr.setCell ⟨a+1,6+t,none⟩ (.int .i64 k)).heap[a+1]? =_:=heap_setCell_same wr (a+1) (6+t) _ _ _ HS.out;have HX:Hid ((wr.setCell ⟨a+1,6+t,none⟩ (.int .i64 k)).heap[a+1]? =some (supO (supL (64*(kk:Int)) (k+1)) 143)):=hid (by
       rw[HS2,<- hset];unfold supO;rw[List.setIfInBounds_toArray,List.map_set])
      have HY:Hid (Wrote w2 (wr.setCell ⟨a+1,6+t,none⟩ (.int .i64 k)) (a+1)):=hid (HW.out.on (Wrote.setCell wr (a+1) (6+t) _));clear k0 k1 eT hset HS2 ht hm hk43;go_wp2;generalize wr.setCell ⟨a+1,6+t,none⟩ (.int .i64 k)=Y at HX HY |-
      go_roundw
      case rel=>exact⟨k+1,by omega,by go_num,HX,HY⟩
      case measure=>simp[intOf];omega
    . have hne:(tabJ L k).1≠65534:=by
       unfold tabJ;split
       . decide
       . rw[if_neg (by omega)];decide
      have hxb:((tabJ L k).1==65534)=false:=by simpa using hne
      have HX:Hid (wr.heap[a+1]? =some (supO (supL (64*(kk:Int)) (k+1)) 143)):=hid (by rw[<- supL_same _ (show k<43\/49<=k by omega)];exact HS.out);obtain⟨x,hx⟩:∃ x,x=(tabJ L k).1:=⟨_,rfl⟩;rw[<- hx] at c0 hxb;clear k0 k1 hne hm hx HS;go_wp2;go_roundw
      case rel=>exact⟨k+1,by omega,by go_num,HX,HW⟩
      case measure=>simp[intOf];omega
  . obtain rfl:k=L:=by omega
    have hs:wr.heap[a+1]? =some (.cells ((supL (64*(kk:Int)) k).map (Value.int .i64)).toArray 143 (0,0)):=HS.out;have hb:Below a w wr:=HB2.out.trans (HW.out.below (by omega));have hr0:wr.heap[a]? =some (.cells ((List.replicate 12 (0:Int)).map (Value.int .i64)).toArray 143 (0,0)):=by rw[HW.out.2.2.2.2 a (by omega)];exact HRS0.out
    have HBE:=hid hb;have HLL:Hid (k=64*kk):=HL;clear hb HS HW
    go_wp2_with (first
     |(with_reducible refine wpList_load_row rfl 143 (.tmp 3) rfl (a+1) rfl 143 _ (0,0) _ hs Tryz.underlying143 rfl (by rw[infoRS];simp[Zep]) ?_)
     |(with_reducible refine wpList_store_row rfl 143 (.tmp 2) (.tmp 33) rfl a ((supL (64*(kk:Int)) k).map (Value.int .i64)).toArray rfl rfl 143 _ hr0 (by rw[infoRS];simp[Zep]) (by simp[Zep]) (intsOne _) ?_))
    have hw5:=Wrote.setRow wr a ((supL (64*(kk:Int)) k).map (Value.int .i64)).toArray;have hr5:(wr.setRow a ((supL (64*(kk:Int)) k).map (Value.int .i64)).toArray).heap[a]? =_:=setRow_heap _ _ _ _ _ _ hr0;refine bodyPost_ret (results_cell_row rfl _ _ a 143 _ (0,0) _ rfl hr5 Tryz.underlying143 rfl (by rw[infoRS];simp[Zep])) rfl ⟨?_,?_⟩
    . rw[<- HLL.out];rfl
    . have:=HBE.out.trans (hw5.below (Nat.le_refl _))
      rw[<- HA.out];exact this
end Go.Proofs.YtedabomlfcghoaaGreat
namespace Go.Proofs.YtedabomlfcghoaaGreat
set_option maxRecDepth 100000
open Go.RowKit BM
theorem rPut2{w:World}{v:Value}{l:List Int}(hs:BSl w v l)(hl:l.length<=1000)(x:Int)(h0:0<=x)(h1:x<=65535):Calls Tryz.prog 127 #[v,.int .u64 x,.int .i64 2] w (NewB w (l ++ lowB x 2)):=
 Zhx hs (by omega) x 2 2 (by omega) (by omega) rfl h0 (by omega)
set_option maxHeartbeats 1000000 in
theorem rrEnc_yes{w:World}{v:Value}{L:List Bool}(hk:KSl w v L)(g:Int)(h1:0<=g)(h2:g<12)(hL:L.length=64):
 Calls Tryz.prog 79 #[.agg #[.int .i64 g,v]] w fun e w'=>∃ v,e=.returned (.tuple #[v,.int .i64 0])/\OB w' w.heap.size v (Zhl g L)/\Below w.heap.size w w':=by
 obtain⟨ao,cap,rfl⟩:=hk.shape;rw[hL] at hk |-
 have hb1:Below w.heap.size w ((w.alloc (.cells #[.int .i64 g,.slice ao 64 cap] 139)).alloc (.cells #[.slice ao 64 cap] 191)):=((Below.refl _ _).alloc (Nat.le_refl _) _).alloc (by simp) _;have hd1:=heap_alloc2_old w (.cells #[.int .i64 g,.slice ao 64 cap] 139) (.cells #[.slice ao 64 cap] 191);have hq1:=heap_alloc2_new w (.cells #[.int .i64 g,.slice ao 64 cap] 139) (.cells #[.slice ao 64 cap] 191);obtain⟨w1,hw1⟩:∃ w1,w1=(w.alloc (.cells #[.int .i64 g,.slice ao 64 cap] 139)).alloc (.cells #[.slice ao 64 cap] 191):=⟨_,rfl⟩;rw[<- hw1] at hb1 hd1 hq1;have HW1:=hid hw1;have HK:=hid (hk.below hb1);have hcb:=Zko L;obtain⟨C,hC⟩:∃ C,C=Zcr L:=⟨_,rfl⟩;rw[<- hC,hL] at hcb;have HC:=hid hC;have HL:=hid hL;have hlq:w.heap.size+1<w1.heap.size:=(Array.getElem?_eq_some_iff.1 hq1).1;have c0:w1.cell? ⟨w.heap.size,0,none⟩=some (.int .i64 g):=by rw[cell_of_row _ _ _ _ _ _ hd1];rfl
 have HQ:=hid (show w1.cell? ⟨w.heap.size+1,0,none⟩=some (.slice ao 64 cap) by rw[cell_of_row _ _ _ _ _ _ hq1];rfl);have kc:=fun(w:World) (C:Array Value) (n c:Nat)=>Lib.run_convert_bytes_const (P:=Tryz.prog) w 30 5 C n c Tryz.underlying30 Tryz.underlying5
 have g0:¬ g<0:=by omega
 have g1:¬ 11<g:=by omega
 clear hk hC hL hd1 hq1 hw1;go_enter Tryz.func79,Tryz.ntmps79;go_upto_region 4 with(fail)
 rw[<- HW1.out];obtain⟨q,hqq⟩:∃ q,q=w.heap.size+1:=⟨_,rfl⟩;rw[<- hqq] at HQ hlq |-
 have hlq0:w.heap.size<w1.heap.size:=by omega
 clear hqq;go_wp2_with fail
 have hbm:=bsl_desc w1;have hb2:=Zaa w1 (.cells #[.int .u8 100,.int .u8 101,.int .u8 115,.int .u8 99] 5 (4,5));generalize w1.alloc (.cells #[.int .u8 100,.int .u8 101,.int .u8 115,.int .u8 99] 5 (4,5))=w2 at hbm hb2 |-
 have HMG:=hid (rPut2 hbm (by decide) g h1 (by omega));clear hbm kc
 go_wp2_with (first
  |(go_at_call 127;(with_reducible refine HMG.out.mono ?_);rintro e w4 ⟨v4,rfl,hob4,hb4⟩
    have hb14:Below w1.heap.size w1 w4:=hb2.trans (hb4.mono hb2.size);have hq4:=(hb14.cell (p:=⟨q,0,none⟩) hlq).trans HQ.out)
  |(go_at_call 128;refine(rCount_k hq4 (HK.out.below hb14) (by rw[HL.out];decide)).mono ?_;rw[<- HC.out];rintro e w5 ⟨rfl,rfl⟩
    have HP2:=hid (rPut2 hob4.bsl (by rw[List.length_append,Zac];decide) (C:Int) (by omega) (by omega)))
  |(go_at_call 127;(with_reducible refine HP2.out.mono ?_);rintro e w6 ⟨v6,rfl,hob6,hb6⟩
    have hb16:Below w1.heap.size w1 w6:=hb14.trans (hb6.mono hb14.size);have hq6:=(hb16.cell (p:=⟨q,0,none⟩) hlq).trans HQ.out)
  |(go_at_call 130;refine(rBytes_k hq6 (Nat.lt_of_lt_of_le hlq hb16.size) (HK.out.below hb16) (by rw[HL.out];decide) (Ziy L) (rep_bytesB L)).mono ?_;rintro e w7 ⟨v7,rfl,hs7,hb7⟩
    have hb17:Below w1.heap.size w1 w7:=hb16.trans (hb7.mono hb16.size))
  |(at_builtin
    refine Zah w7 rfl (.tmp 35) (.tmp 37) rfl w1.heap.size _ ([100,101,115,99] ++ lowB g 2 ++ lowB (C:Int) 2) rfl ((hob6.below hb7).more hb14.size) w7 v7 (Ziy L) rfl hs7 (fun _ _=>rfl) (by rw[Zcl,HL.out];simp[Zac]) hb17.size ?_;intro v8 w8 hob8 hb8 _;have hb18:Below w1.heap.size w1 w8:=hb17.trans hb8;have HSE:Hid (Calls Tryz.prog 129 #[v8] w8 (SealOut (descC g L) w8)):=hid (by rw[descC,<- HC.out];exact rSeal_yes hob8.bsl (by rw[List.length_append,Zcl,HL.out];simp[Zac])))
  |(go_at_call 129;refine HSE.out.mono ?_;rintro e w9 ⟨v9,rfl,hob9,hb9⟩))
 go_ret2;exact⟨v9,rfl,hob9.more (Nat.le_trans hb1.size hb18.size),(hb1.trans (hb18.mono hb1.size)).trans (hb9.mono (Nat.le_trans hb1.size hb18.size))⟩
end Go.Proofs.YtedabomlfcghoaaGreat
namespace Go.Proofs.YtedabomlfcghoaaGreat
set_option maxRecDepth 100000
open Go.RowKit
theorem frmN_iff(kd ln sz mp:Int)(D:List Int):frmN kd ln sz mp D=true ↔ (1<=kd/\kd<=3)/\(0<=ln/\ln<=200)/\(0<=sz/\sz<=35328/\(kd=3->sz<=200))/\locS D=true/\inB mp=true:=by
 unfold frmN most;simp only[Bool.and_eq_true,decide_eq_true_eq];by_cases h:kd=3
 . rw[if_pos h]
   constructor
   . rintro⟨h1,h2,h3,h4,h5⟩;exact⟨h1,h2,⟨h3.1,by omega,fun _=>h3.2⟩,h4,h5⟩
   . rintro⟨h1,h2,h3,h4,h5⟩;exact⟨h1,h2,⟨h3.1,h3.2.2 h⟩,h4,h5⟩
 . rw[if_neg h]
   constructor
   . rintro⟨h1,h2,h3,h4,h5⟩;exact⟨h1,h2,⟨h3.1,h3.2,fun e=>absurd e h⟩,h4,h5⟩
   . rintro⟨h1,h2,h3,h4,h5⟩;exact⟨h1,h2,⟨h3.1,h3.2.1⟩,h4,h5⟩
theorem rForm_zero(kd ln sz d0 d1 d2 d3 d4 d5 d6 d7 d8 d9 mp:Int)(h:kd=0)(w:World):Calls Tryz.prog 131 #[.agg #[.int .i64 kd,.int .i64 ln,.int .i64 sz,.int .i64 d0,.int .i64 d1,.int .i64 d2,.int .i64 d3,.int .i64 d4,.int .i64 d5,.int .i64 d6,.int .i64 d7,.int .i64 d8,.int .i64 d9,.int .i64 mp]] w fun e w'=>e=.returned (.bool (decide ([kd,ln,sz,d0,d1,d2,d3,d4,d5,d6,d7,d8,d9,mp]=zeroI)))/\Below w.heap.size w w':=by
 have hb:=Zaa w (.cells #[.int .i64 kd,.int .i64 ln,.int .i64 sz,.int .i64 d0,.int .i64 d1,.int .i64 d2,.int .i64 d3,.int .i64 d4,.int .i64 d5,.int .i64 d6,.int .i64 d7,.int .i64 d8,.int .i64 d9,.int .i64 mp] 146);have hr:=heap_alloc_new w (.cells #[.int .i64 kd,.int .i64 ln,.int .i64 sz,.int .i64 d0,.int .i64 d1,.int .i64 d2,.int .i64 d3,.int .i64 d4,.int .i64 d5,.int .i64 d6,.int .i64 d7,.int .i64 d8,.int .i64 d9,.int .i64 mp] 146);have hrg:(w.alloc (.cells #[.int .i64 kd,.int .i64 ln,.int .i64 sz,.int .i64 d0,.int .i64 d1,.int .i64 d2,.int .i64 d3,.int .i64 d4,.int .i64 d5,.int .i64 d6,.int .i64 d7,.int .i64 d8,.int .i64 d9,.int .i64 mp] 146)).rangeAt w.heap.size 0 (iC [kd,ln,sz,d0,d1,d2,d3,d4,d5,d6,d7,d8,d9,mp]):=Zel hr;have HRG:=hid hrg;have u1:=Tryz.underlying146;clear hr hrg;have hk:(kd==0)=true:=by simp[h]
 clear h;go_enter Tryz.func131,Tryz.ntmps131
 go_wp2_with (first
  |(with_reducible refine Zae rfl 146 (.tmp 1) rfl w.heap.size 0 rfl [kd,ln,sz,d0,d1,d2,d3,d4,d5,d6,d7,d8,d9,mp] _ HRG.out u1 rfl rfl ?_)
  |(with_reducible refine wpList_eqRIno rfl (.tmp 7) (.tmp 8) rfl [kd,ln,sz,d0,d1,d2,d3,d4,d5,d6,d7,d8,d9,mp] zeroI rfl rfl rfl rfl ?_))
 go_ret;exact⟨rfl,hb⟩
set_option maxHeartbeats 8000000 in
theorem rForm_n(kd ln sz d0 d1 d2 d3 d4 d5 d6 d7 d8 d9 mp:Int)(h0:kd≠0)(B:Bool)(hB:B=frmN kd ln sz mp [d0,d1,d2,d3,d4,d5,d6,d7,d8,d9])(w:World):Calls Tryz.prog 131 #[.agg #[.int .i64 kd,.int .i64 ln,.int .i64 sz,.int .i64 d0,.int .i64 d1,.int .i64 d2,.int .i64 d3,.int .i64 d4,.int .i64 d5,.int .i64 d6,.int .i64 d7,.int .i64 d8,.int .i64 d9,.int .i64 mp]] w fun e w'=>e=.returned (.bool B)/\Below w.heap.size w w':=by
 have hb:=Zaa w (.cells #[.int .i64 kd,.int .i64 ln,.int .i64 sz,.int .i64 d0,.int .i64 d1,.int .i64 d2,.int .i64 d3,.int .i64 d4,.int .i64 d5,.int .i64 d6,.int .i64 d7,.int .i64 d8,.int .i64 d9,.int .i64 mp] 146);have hr:(w.alloc (.cells #[.int .i64 kd,.int .i64 ln,.int .i64 sz,.int .i64 d0,.int .i64 d1,.int .i64 d2,.int .i64 d3,.int .i64 d4,.int .i64 d5,.int .i64 d6,.int .i64 d7,.int .i64 d8,.int .i64 d9,.int .i64 mp] 146)).heap[w.heap.size]? =some (iO [kd,ln,sz,d0,d1,d2,d3,d4,d5,d6,d7,d8,d9,mp] 146):=heap_alloc_new w _;obtain⟨W1,hW1⟩:∃ W1,W1=w.alloc (.cells #[.int .i64 kd,.int .i64 ln,.int .i64 sz,.int .i64 d0,.int .i64 d1,.int .i64 d2,.int .i64 d3,.int .i64 d4,.int .i64 d5,.int .i64 d6,.int .i64 d7,.int .i64 d8,.int .i64 d9,.int .i64 mp] 146):=⟨_,rfl⟩;have hb1:Below w.heap.size w W1:=by rw[hW1];exact hb
 rw[<- hW1] at hr;have H2:=hid hW1.symm;have hk:(kd==0)=false:=by simp[h0]
 have HD:Hid (∀ j,j<10->W1.cell? ⟨w.heap.size,3+j,none⟩=some (.int .i64 ([d0,d1,d2,d3,d4,d5,d6,d7,d8,d9].getD j 0))):=fun j hj=>by
  rw[Zev hr (3+j) (by simp;omega),show 3+j=j+3 by omega];have:j=0\/j=1\/j=2\/j=3\/j=4\/j=5\/j=6\/j=7\/j=8\/j=9:=by omega
  rcases this with rfl|rfl|rfl|rfl|rfl|rfl|rfl|rfl|rfl|rfl <;> rfl
 have hiff:=frmN_iff kd ln sz mp [d0,d1,d2,d3,d4,d5,d6,d7,d8,d9];rw[<- hB] at hiff;have hfalse:∀ {P:Prop},(B=true->P)->¬ P->B=false:=fun h hn=>by
  cases hB:B
  . rfl
  . exact absurd (h hB) hn
 have HNO:Hid (¬ ((1<=kd/\kd<=3)/\(0<=ln/\ln<=200)/\(0<=sz/\sz<=35328/\(kd=3->sz<=200)))->B=false):=fun hn=>hfalse (fun h=>⟨(hiff.1 h).1,(hiff.1 h).2.1,(hiff.1 h).2.2.1⟩) hn
 have HYE:Hid ((1<=kd/\kd<=3/\(0<=ln/\ln<=200)/\(0<=sz/\sz<=35328)/\(kd=3->sz<=200))->inB mp=true->locS [d0,d1,d2,d3,d4,d5,d6,d7,d8,d9]=true->B=true):=fun h1 h2 h3=>hiff.2 ⟨⟨h1.1,h1.2.1⟩,h1.2.2.1,⟨h1.2.2.2.1.1,h1.2.2.2.1.2,h1.2.2.2.2⟩,h3,h2⟩
 obtain⟨B4,h4⟩:∃ b,inB mp=b:=⟨_,rfl⟩;have HN4:Hid (B4=false->B=false):=fun h=>hfalse (fun hh=>(hiff.1 hh).2.2.2.2) (by rw[h4,h];decide)
 have HND:Hid (∀ j,j<10->inB ([d0,d1,d2,d3,d4,d5,d6,d7,d8,d9].getD j 0)=false->B=false):=fun j hj h=>hfalse (fun hh=>(hiff.1 hh).2.2.2.1) (by rw[locS_no (l:=[d0,d1,d2,d3,d4,d5,d6,d7,d8,d9]) (k:=j) (by simpa using hj) h];decide)
 rw[h4] at HYE;have K4:=hid (rPlace_is mp B4 h4);clear hiff hfalse hW1 hr hB h4;by_cases a1:0<=kd
 case neg=>
  obtain rfl:B=false:=HNO.out (by omega);go_enter Tryz.func131,Tryz.ntmps131;go_wp2_with (go_at_call 169;with_reducible refine(K4.out _).mono ?_;rintro e w' ⟨rfl,rfl⟩)
  go_ret;exact⟨rfl,hb⟩
 by_cases a2:kd<=3
 case neg=>
  obtain rfl:B=false:=HNO.out (by omega);go_enter Tryz.func131,Tryz.ntmps131;go_wp2_with (go_at_call 169;with_reducible refine(K4.out _).mono ?_;rintro e w' ⟨rfl,rfl⟩)
  go_ret;exact⟨rfl,hb⟩
 by_cases a3:0<=ln
 case neg=>
  obtain rfl:B=false:=HNO.out (by omega);go_enter Tryz.func131,Tryz.ntmps131;go_wp2_with (go_at_call 169;with_reducible refine(K4.out _).mono ?_;rintro e w' ⟨rfl,rfl⟩)
  go_ret;exact⟨rfl,hb⟩
 by_cases a4:ln<=200
 case neg=>
  obtain rfl:B=false:=HNO.out (by omega);go_enter Tryz.func131,Tryz.ntmps131;go_wp2_with (go_at_call 169;with_reducible refine(K4.out _).mono ?_;rintro e w' ⟨rfl,rfl⟩)
  go_ret;exact⟨rfl,hb⟩
 by_cases a5:0<=sz
 case neg=>
  obtain rfl:B=false:=HNO.out (by omega);go_enter Tryz.func131,Tryz.ntmps131;go_wp2_with (go_at_call 169;with_reducible refine(K4.out _).mono ?_;rintro e w' ⟨rfl,rfl⟩)
  go_ret;exact⟨rfl,hb⟩
 by_cases a6:sz<=35328
 case neg=>
  obtain rfl:B=false:=HNO.out (by omega);go_enter Tryz.func131,Tryz.ntmps131;go_wp2_with (go_at_call 169;with_reducible refine(K4.out _).mono ?_;rintro e w' ⟨rfl,rfl⟩)
  go_ret;exact⟨rfl,hb⟩
 by_cases h3:kd=3
 case pos=>
  subst h3;clear a1 a2 hk;by_cases a7:sz<=200
  case neg=>
   obtain rfl:B=false:=HNO.out (by omega);go_enter Tryz.func131,Tryz.ntmps131;go_wp2_with (go_at_call 169;with_reducible refine(K4.out _).mono ?_;rintro e w' ⟨rfl,rfl⟩)
   go_ret;exact⟨rfl,hb⟩
  cases B4
  case false=>
   obtain rfl:B=false:=HN4.out rfl;go_enter Tryz.func131,Tryz.ntmps131;go_wp2_with (go_at_call 169;with_reducible refine(K4.out _).mono ?_;rintro e w' ⟨rfl,rfl⟩)
   go_ret;exact⟨rfl,hb⟩
  case true=>
   have hyes:=HYE.out ⟨by omega,by omega,by omega,by omega,by omega⟩ rfl;have HYE2:=hid hyes;clear hyes HYE HNO HN4;go_enter Tryz.func131,Tryz.ntmps131;go_wp2_with (go_at_call 169;with_reducible refine(K4.out _).mono ?_;rintro e w' ⟨rfl,rfl⟩)
   rw[H2.out]
   go_loop [54] (fun i=>∃ j:Nat,j<=10/\i=.int .i64 j/\Hid (∀ i,i<j->inB ([d0,d1,d2,d3,d4,d5,d6,d7,d8,d9].getD i 0)=true)) (fun i=>10-(intOf i).toNat)
   case atStart=>exact⟨0,by omega,rfl,fun i hi=>absurd hi (Nat.not_lt_zero _)⟩
   case round=>
    obtain⟨j,hj,rfl,HJ⟩:=hrel;by_cases hlt:j<10
    . have hcx:=HD.out j hlt
      have hnd:=HND.out j hlt;obtain⟨x,hx⟩:∃ x,x=[d0,d1,d2,d3,d4,d5,d6,d7,d8,d9].getD j 0:=⟨_,rfl⟩;rw[<- hx] at hcx hnd;have HX:=hid hx;have ej:(j:Int)<10:=by omega
      obtain⟨Bx,hbx⟩:∃ b,inB x=b:=⟨_,rfl⟩;have KX:=hid (rPlace_is x Bx hbx);have HBX:=hid hbx;clear hx hbx;cases Bx
      . obtain rfl:B=false:=hnd HBX.out
        go_wp2_with (go_at_call 169;with_reducible refine(KX.out _).mono ?_;rintro e w' ⟨rfl,rfl⟩)
        go_ret;exact⟨rfl,hb1⟩
      . clear hnd
        go_wp2_with (go_at_call 169;with_reducible refine(KX.out _).mono ?_;rintro e w' ⟨rfl,rfl⟩)
        go_round
        case rel=>
         refine⟨j+1,by omega,by go_num,fun i hi=>?_⟩;by_cases e:i=j
         . subst e;rw[<- HX.out];exact HBX.out
         . exact HJ.out i (by omega)
        case measure=>simp[intOf];omega
    . obtain rfl:j=10:=by omega
      obtain rfl:B=true:=HYE2.out ((Zdj _).2 HJ.out);go_wp2;go_ret;exact⟨rfl,hb1⟩
 case neg=>
  have hk3:(kd==3)=false:=by simp[h3]
  cases B4
  case false=>
   obtain rfl:B=false:=HN4.out rfl;go_enter Tryz.func131,Tryz.ntmps131;go_wp2_with (go_at_call 169;with_reducible refine(K4.out _).mono ?_;rintro e w' ⟨rfl,rfl⟩)
   go_ret;exact⟨rfl,hb⟩
  case true=>
   have hyes:=HYE.out ⟨by omega,by omega,by omega,by omega,by omega⟩ rfl;have HYE2:=hid hyes;clear hyes HYE HNO HN4;go_enter Tryz.func131,Tryz.ntmps131;go_wp2_with (go_at_call 169;with_reducible refine(K4.out _).mono ?_;rintro e w' ⟨rfl,rfl⟩)
   rw[H2.out]
   go_loop [54] (fun i=>∃ j:Nat,j<=10/\i=.int .i64 j/\Hid (∀ i,i<j->inB ([d0,d1,d2,d3,d4,d5,d6,d7,d8,d9].getD i 0)=true)) (fun i=>10-(intOf i).toNat)
   case atStart=>exact⟨0,by omega,rfl,fun i hi=>absurd hi (Nat.not_lt_zero _)⟩
   case round=>
    obtain⟨j,hj,rfl,HJ⟩:=hrel;by_cases hlt:j<10
    . have hcx:=HD.out j hlt
      have hnd:=HND.out j hlt;obtain⟨x,hx⟩:∃ x,x=[d0,d1,d2,d3,d4,d5,d6,d7,d8,d9].getD j 0:=⟨_,rfl⟩;rw[<- hx] at hcx hnd;have HX:=hid hx;have ej:(j:Int)<10:=by omega
      obtain⟨Bx,hbx⟩:∃ b,inB x=b:=⟨_,rfl⟩;have KX:=hid (rPlace_is x Bx hbx);have HBX:=hid hbx;clear hx hbx;cases Bx
      . obtain rfl:B=false:=hnd HBX.out
        go_wp2_with (go_at_call 169;with_reducible refine(KX.out _).mono ?_;rintro e w' ⟨rfl,rfl⟩)
        go_ret;exact⟨rfl,hb1⟩
      . clear hnd
        go_wp2_with (go_at_call 169;with_reducible refine(KX.out _).mono ?_;rintro e w' ⟨rfl,rfl⟩)
        go_round
        case rel=>
         refine⟨j+1,by omega,by go_num,fun i hi=>?_⟩;by_cases e:i=j
         . subst e;rw[<- HX.out];exact HBX.out
         . exact HJ.out i (by omega)
        case measure=>simp[intOf];omega
    . obtain rfl:j=10:=by omega
      obtain rfl:B=true:=HYE2.out ((Zdj _).2 HJ.out);go_wp2;go_ret;exact⟨rfl,hb1⟩
theorem rForm_of{L:List Int}(hL:L.length=14)(w:World):Calls Tryz.prog 131 #[.agg (iC L).toArray] w fun e w'=>e=.returned (.bool (frmI L))/\Below w.heap.size w w':=by
 match L,hL with
 |[kd,ln,sz,d0,d1,d2,d3,d4,d5,d6,d7,d8,d9,mp],_=>
  show Calls Tryz.prog 131 #[.agg #[.int .i64 kd,.int .i64 ln,.int .i64 sz,.int .i64 d0,.int .i64 d1,.int .i64 d2,.int .i64 d3,.int .i64 d4,.int .i64 d5,.int .i64 d6,.int .i64 d7,.int .i64 d8,.int .i64 d9,.int .i64 mp]] w fun e w'=>e=.returned (.bool (if kd=0 then decide ([kd,ln,sz,d0,d1,d2,d3,d4,d5,d6,d7,d8,d9,mp]=zeroI) else frmN kd ln sz mp [d0,d1,d2,d3,d4,d5,d6,d7,d8,d9]))/\Below w.heap.size w w'
  by_cases h0:kd=0
  . rw[if_pos h0];exact rForm_zero kd ln sz d0 d1 d2 d3 d4 d5 d6 d7 d8 d9 mp h0 w
  . rw[if_neg h0];exact rForm_n kd ln sz d0 d1 d2 d3 d4 d5 d6 d7 d8 d9 mp h0 _ rfl w
theorem rForm_is{L:List Int}(hL:L.length=14)(B:Bool)(h:frmI L=B)(w:World):Calls Tryz.prog 131 #[.agg (iC L).toArray] w fun e w'=>e=.returned (.bool B)/\Below w.heap.size w w':=by
 rw[<- h];exact rForm_of hL w
end Go.Proofs.YtedabomlfcghoaaGreat
